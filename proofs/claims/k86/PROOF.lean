import PyProof.Rows.All
import Wide.All
import OpenK.AllK
import Wide.FinOn
import Lean
import PyProof.EqAt
import PyProof.EqKinds
import PyProof.TupleCall
import PyProof.ReprRoads
import PyProof.ReprBulk
import PyProof.ZipIter
import PyProof.P3Eq
import PyProof.Rows.Range3
import PyProof.Rows.SetFrom
import PyProof.EnumMake
import PyProof.Draws
import PySem.Challenge.RW_patchbough_k86_who_stands_ahead
set_option Elab.async false
set_option linter.all false
set_option maxRecDepth 100000
set_option maxHeartbeats 40000000
theorem ACD {α:Type _} {l:List α} {i:Nat} (h:i<l.length):l[i]?=some l[i]:=List.getElem?_eq_getElem h
theorem ACE {α:Type _} {l:List α} {i:Nat} {a:α} (h:l[i]?=some a):∃h:i<l.length,l[i]=a:=List.getElem?_eq_some_iff.mp h
theorem ACF {α:Type _} {a b:α} (h:some a=some b):a=b:=Option.some.inj h
theorem ACG {α:Type _} {l:List α} {i:Nat} {a:α} (h:l[i]?=some a):a∈l:=List.mem_of_getElem? h
abbrev ACH:=PySem.W.Frag
namespace L2
open PySem PySem.Spec PyProof.Rows
abbrev Key:=Sum Int Str
def JL:Key->Value->Bool
 | .inl k,v=>Value.isInt k v
 | .inr x,v=>Value.isStrOf x v
def kS (w:World):Key->Int
 | .inl k=>hashInt k
 | .inr x=>hashStr w x
theorem BP:∀{k:Key} {v:Value},JL k v=true->(∃i t,k=Sum.inl i/\v=Value.int i t)∨(∃x t,k=Sum.inr x/\v=Value.str x t)
 | .inl i,v,h=>by
  obtain⟨t,e⟩:=Value.isInt_shape (k:=i) (v:=v) h
  exact .inl ⟨i,t,rfl,e⟩
 | .inr x,v,h=>by
  obtain⟨t,e⟩:=Value.isStrOf_shape (x:=x) (v:=v) h
  exact .inr ⟨x,t,rfl,e⟩
theorem Rl (i:Int) (t:Tok):JL (.inl i) (.int i t)=true:=by simp[JL,Value.isInt]
theorem Rm (x:Str) (t:Tok):JL (.inr x) (.str x t)=true:=by simp[JL,Value.isStrOf]
theorem ai (a b:Int):decide ((Sum.inl a:Key)=Sum.inl b)=(a==b):=by
 by_cases e:a=b
 ·subst e;simp
 ·have h:¬(Sum.inl a:Key)=Sum.inl b:=fun q=>e (Sum.inl.inj q)
  rw[decide_eq_false h]
  exact(beq_eq_false_iff_ne.mpr e).symm
theorem aj (a b:Str):decide ((Sum.inr a:Key)=Sum.inr b)=decide (a=b):=by
 by_cases e:a=b
 ·subst e;simp
 ·have h:¬(Sum.inr a:Key)=Sum.inr b:=fun q=>e (Sum.inr.inj q)
  rw[decide_eq_false h,decide_eq_false e]
theorem ao (a:Int) (b:Str):decide ((Sum.inl a:Key)=Sum.inr b)=false:=decide_eq_false (fun q=>nomatch q)
theorem aq (a:Str) (b:Int):decide ((Sum.inr a:Key)=Sum.inl b)=false:=decide_eq_false (fun q=>nomatch q)
def Av (prog:Program) (w:World):PySem.KeyKind prog w Key where
 is:=JL
 hash:=kS w
 inj:=fun v a b ha hb=>by
  rcases BP ha with⟨i,t,rfl,rfl⟩|⟨x,t,rfl,rfl⟩
  ·rcases BP hb with⟨j,u,rfl,e⟩|⟨y,u,rfl,e⟩
   ·injection e with e1 _;rw[e1]
   ·exact nomatch e
  ·rcases BP hb with⟨j,u,rfl,e⟩|⟨y,u,rfl,e⟩
   ·exact nomatch e
   ·injection e with e1 _;rw[e1]
 byValue:=fun k v h=>by
  rcases BP h with⟨i,t,rfl,rfl⟩|⟨x,t,rfl,rfl⟩<;>rfl
 pyHash:=fun hv h=>by
  rcases BP hv with⟨i,t,rfl,rfl⟩|⟨x,t,rfl,rfl⟩
  ·exact wpAny_pyHash_int h
  ·exact wpAny_pyHash_str h
 eqBool:=fun hu hv h=>by
  rcases BP hu with⟨i,t,rfl,rfl⟩|⟨x,t,rfl,rfl⟩
  ·rcases BP hv with⟨j,u,rfl,rfl⟩|⟨y,u,rfl,rfl⟩
   ·rw[ai]at h;exact wpAny_eqBool_int h
   ·rw[ao]at h;exact SeqAt.EqAt.int_str i t y u _ _ _ _ h
  ·rcases BP hv with⟨j,u,rfl,rfl⟩|⟨y,u,rfl,rfl⟩
   ·rw[aq]at h;exact SeqAt.EqAt.str_int x t j u _ _ _ _ h
   ·rw[aj]at h;exact wpAny_eqBool_str h
 «strs»:=fun k x t v h=>by
  rcases BP h with⟨i,u,rfl,e⟩|⟨y,u,rfl,e⟩
  ·exact nomatch e
  ·injection e with e1 _
   subst e1
   cases v<;>rfl
theorem NM (prog:Program) (w:World) (i:Int) (t:Tok):(Av prog w).is (.inl i) (.int i t)=true:=Rl i t
theorem NN (prog:Program) (w:World) (x:Str) (t:Tok):(Av prog w).is (.inr x) (.str x t)=true:=Rm x t
inductive V where
 |Ao|bl (b:Bool)|int (i:Int)|str (x:Str)|NO (b:Array UInt8)|eQ (b:UInt64)|ref (a:Addr)|ty (n:String)
 deriving DecidableEq
def RelV:V->Value->Prop
 | .Ao,u=>u=Value.none
 | .bl b,u=>u=Value.bool b
 | .int i,u=>∃t,u=Value.int i t
 | .str x,u=>∃t,u=Value.str x t
 | .NO b,u=>∃t,u=Value.bytes b t
 | .eQ b,u=>∃t,u=Value.float b t
 | .ref a,u=>u=Value.ref a
 | .ty n,u=>u=Value.type n
abbrev Vals:List V->List Value->Prop:=Paired RelV
theorem Vals.length {xs:List V} {us:List Value} (r:Vals xs us):xs.length=us.length:=Paired.length r
theorem Vals.inv {x:V} {xs:List V} {us:List Value} (r:Vals (x::xs) us):∃u c,us=u::c/\RelV x u/\Vals xs c:=by
 cases r with
 |cons a b=>exact⟨_,_,rfl,a,b⟩
theorem Vals.get {xs:List V} {us:List Value} {i:Nat} {x:V} (r:Vals xs us) (e:xs[i]?=some x):∃u,us[i]?=some u/\RelV x u:=by
 induction r generalizing i with
 |nil=>rw[List.getElem?_nil]at e;exact nomatch e
 |cons a b c=>
  cases i with
  |zero=>exact⟨_,rfl,ACF e▸a⟩
  |succ j=>exact c (i:=j) e
theorem Vals.set {x:V} {u:Value} (r:RelV x u):∀{xs:List V} {us:List Value} (i:Nat),Vals xs us->Vals (xs.set i x) (us.set i u)
 |_,_,_,.nil=>.nil
 |_,_,0,.cons _ t=>.cons r t
 |_,_,i+1,.cons q t=>.cons q (Vals.set r i t)
theorem Vals.append {xs ys:List V} {us ws:List Value} (r:Vals xs us) (s:Vals ys ws):Vals (xs++ys) (us++ws):=by
 induction r with
 |nil=>exact s
 |cons a _ b=>exact .cons a b
theorem Vals.take:∀{xs:List V} {us:List Value} (n:Nat),Vals xs us->Vals (xs.take n) (us.take n)
 |_,_,0,_=>.nil
 |_,_,_+1,.nil=>.nil
 |_,_,n+1,.cons r t=>.cons r (Vals.take n t)
theorem Vals.drop:∀{xs:List V} {us:List Value} (n:Nat),Vals xs us->Vals (xs.drop n) (us.drop n)
 |_,_,0,r=>r
 |_,_,_+1,.nil=>.nil
 |_,_,n+1,.cons _ t=>Vals.drop n t
def Ih:Option V->Option Value->Prop
 |some v,some u=>RelV v u
 |none,none=>True
 |_,_=>False
def KV {a:Type}:List (a×V)->List (a×Value)->Prop:=Paired fun(p:a×V) (q:a×Value)=>p.1=q.1/\RelV p.2 q.2
def kV:Key->V
 | .inl i=>.int i
 | .inr x=>.str x
inductive HO where
 |lst (xs:List V)
 |tup (xs:List V)
 |dK (kvs:List (Key×V))|dT (kvs:List (List Key×V))
 |set (S:Int->Bool) (n:Nat)
 |ins (C a:Addr) (fs:List (Str×V))
 |own (x:Addr)
 |xd (fs:List (Str×V))
 |met (f x:Addr)
 |ar (lo b:Int)
 |Cz (o:Obj) (u:HO)
 |au (ps:Array Value)
 |ext (c:Heap->Prop)
abbrev Hp:=Addr->Option HO
def upd (H:Hp) (a:Addr) (o:HO):Hp:=fun b=>if b=a then some o else H b
theorem AF {H:Hp} {a:Addr} {o:HO}:upd H a o a=some o:=by unfold upd;rw[if_pos rfl]
theorem AR {H:Hp} {a b:Addr} {o:HO} (h:b≠a):upd H a o b=H b:=by unfold upd;rw[if_neg h]
theorem Xf {H:Hp} {a:Addr} {o u:HO}:upd (upd H a o) a u=upd H a u:=by
 funext b;unfold upd;split<;>rfl
theorem Tu {H:Hp} {a b:Addr} {o u:HO} (h:H a=some o) (h':H b=some u) (d:o≠u):a≠b:=by
 intro e;subst e;rw[h]at h';exact d (ACF h')
theorem Ap {H:Hp} {a b:Addr} {o:HO} (h:H a=some o) (h':H b=none):a≠b:=by
 intro e;subst e;rw[h]at h';cases h'
section
variable(P:Program) (w:World)
def BJ (H:Hp) (h:Heap) (a:Addr):HO->Prop
 | .lst xs=>xs.length<=sizeLine/\∃(its:List Value) (n:Nat),Vals xs its/\h.get? a=some {cls:=.type "list",data:=.seq its.toArray n}
 | .tup xs=>xs.length<=sizeLine/\∃its:List Value,Vals xs its/\IsTup h a its.toArray
 | .dK kvs=>kvs.length<=sizeLine/\(a==sysModules)=false/\∃e,KV kvs e/\h.DictOf (Av P w) a e
 | .dT kvs=>kvs.length<=sizeLine/\(a==sysModules)=false/\∃xs:List (List Key×Addr×Value),
   Paired (fun(p:List Key×V) (q:List Key×Addr×Value)=>p.1=q.1/\H q.2.1=some (.tup (p.1.map kV))/\RelV p.2 q.2.2) kvs xs/\
   ∃o g k,h.get? a=some o/\o.ExactDict/\o.data=.dict g k/\g.toList=xs.map (entryOfKey (tupleKind (Av P w)))/\(xs.map (·.1)).Nodup
 | .set S n=>h.SetOf (intKind P w) a S n
 | .ins C c fs=>H c=some (.own a)/\fs.length<=1000/\c≠a/\h.get? a=some (PySem.W.instObj C c)/\
   ∃b,h.Ns1 c b/\(∀f,Ih (fs.lookup f) (b f))/\PySem.Within b (fs.map (·.1))
 | .own _=>∃o,h.get? a=some o
 | .xd fs=>∃b,h.Ns1 a b/\∀f,Ih (fs.lookup f) (b f)
 | .ar lo l=>∃t u v,h.get? a=some {cls:=.type "range",data:=.fields #[.int lo t,.int l u,.int 1 v]}
 | .Cz o u=>h.get? a=some o/\BJ H h a u
 | .au m=>h.get? a=some {cls:=.none,data:=.fields m}
 | .met f x=>h.get? a=some (PySem.W.methodObj (.ref f) (.ref x))
 | .ext d=>d h/\(∃o,h.get? a=some o)/\∀i j:Heap,d i->(∀o,i.get? a=some o->j.get? a=some o)->d j
def GQ (H:Hp) (h:Heap):Prop:=∀a o,H a=some o->BJ P w H h a o
end
section
variable{P:Program} {w:World} {H H':Hp} {h h':Heap} {a:Addr} {o:HO}
theorem BJ.lt (x:BJ P w H h a o):a<h.objs.size:=by
 cases o with
 |lst xs=>obtain⟨_,_,_,_,e⟩:=x;exact Heap.lt_size e
 |tup xs=>obtain⟨_,_,_,p⟩:=x;exact p.lt
 |dK kvs=>obtain⟨_,_,_,_,o,_,_,e,_⟩:=x;exact Heap.lt_size e
 |dT kvs=>obtain⟨_,_,_,_,o,_,_,e,_⟩:=x;exact Heap.lt_size e
 |set S n=>obtain⟨o,_,_,_,e,_⟩:=x;exact Heap.lt_size e
 |ins C b fs=>obtain⟨_,_,_,e,_⟩:=x;exact Heap.lt_size e
 |own y=>obtain⟨_,e⟩:=x;exact Heap.lt_size e
 |xd fs=>obtain⟨_,⟨_,_,_,e,_⟩,_⟩:=x;exact Heap.lt_size e
 |ar lo c=>obtain⟨_,_,_,e⟩:=x;exact Heap.lt_size e
 |Cz d u=>obtain⟨e,_⟩:=x;exact Heap.lt_size e
 |au g=>exact Heap.lt_size (show h.get? a=some _ from x)
 |met f y=>exact Heap.lt_size (show h.get? a=some _ from x)
 |ext i=>obtain⟨_,⟨_,e⟩,_⟩:=x;exact Heap.lt_size e
theorem Paired.fL {e g:Type} {F G:e->g->Prop} {c:List e} {d:List g} (r:Paired F c d) (f:∀a b,F a b->G a b):Paired G c d:=by
 induction r with
 |nil=>exact .nil
 |cons a _ i=>exact .cons (f _ _ a) i
theorem BJ.Ow (x:BJ P w H h a o) (k:∀b u,(b=a∨H b=some (.own a))->h.get? b=some u->h'.get? b=some u)
  (B:∀b,H b=some (.own a)->H' b=some (.own a)) (D:∀b xs,H b=some (.tup xs)->H' b=some (.tup xs)):BJ P w H' h' a o:=by
 induction o with
 |lst xs=>obtain⟨z,l,n,r,e⟩:=x;exact⟨z,l,n,r,k _ _ (.inl rfl) e⟩
 |tup xs=>obtain⟨z,l,r,g,e,c⟩:=x;exact⟨z,l,r,g,k _ _ (.inl rfl) e,c⟩
 |dK kvs=>obtain⟨z,y,E,r,g,i,j,e,c⟩:=x;exact⟨z,y,E,r,g,i,j,k _ _ (.inl rfl) e,c⟩
 |dT kvs=>
  obtain⟨z,y,xs,r,g,i,j,e,c⟩:=x
  exact⟨z,y,xs,Paired.fL r fun p q z=>⟨z.1,D _ _ z.2.1,z.2.2⟩,g,i,j,k _ _ (.inl rfl) e,c⟩
 |set S n=>obtain⟨g,i,j,t,e,c⟩:=x;exact⟨g,i,j,t,k _ _ (.inl rfl) e,c⟩
 |ins C J fs=>
  obtain⟨d,z,F,e,m,⟨s,i,j,G,c⟩,r⟩:=x
  exact⟨B _ d,z,F,k _ _ (.inl rfl) e,m,⟨s,i,j,k _ _ (.inr d) G,c⟩,r⟩
 |own y=>obtain⟨g,e⟩:=x;exact⟨g,k _ _ (.inl rfl) e⟩
 |xd fs=>obtain⟨m,⟨s,i,j,e,c⟩,r⟩:=x;exact⟨m,⟨s,i,j,k _ _ (.inl rfl) e,c⟩,r⟩
 |ar lo K=>obtain⟨t,u,v,e⟩:=x;exact⟨t,u,v,k _ _ (.inl rfl) e⟩
 |Cz g u I=>obtain⟨e,q⟩:=x;exact⟨k _ _ (.inl rfl) e,I q⟩
 |au A=>
  have e:h.get? a=some {cls:=.none,data:=.fields A}:=x
  show h'.get? a=some {cls:=.none,data:=.fields A}
  exact k a _ (.inl rfl) e
 |met f y=>
  have e:h.get? a=some (PySem.W.methodObj (.ref f) (.ref y)):=x
  show h'.get? a=some (PySem.W.methodObj (.ref f) (.ref y))
  exact k a _ (.inl rfl) e
 |ext L=>obtain⟨p,⟨o,e⟩,st⟩:=x;exact⟨st _ _ p fun o q=>k _ _ (.inl rfl) q,⟨o,k _ _ (.inl rfl) e⟩,st⟩
theorem GQ.lt (x:GQ P w H h) (e:H a=some o):a<h.objs.size:=(x a o e).lt
theorem GQ.fresh (x:GQ P w H h) (e:h.objs.size<=a):H a=none:=by
 cases q:H a with
 |none=>rfl
 |some u=>exact absurd (Nat.lt_of_lt_of_le (x.lt q) e) (Nat.lt_irrefl _)
theorem GQ.kept (x:GQ P w H h) (k:∀b u,h.get? b=some u->h'.get? b=some u):GQ P w H h':=fun a o e=>
 (x a o e).Ow (fun b u _ q=>k b u q) (fun _ q=>q) fun _ _ q=>q
theorem GQ.laid (x:GQ P w H h) (k:∀b u,h.get? b=some u->h'.get? b=some u) (g:h.objs.size<=a) (new:BJ P w (upd H a o) h' a o):GQ P w (upd H a o) h':=fun b u e=>by
 have d:=x.fresh g
 by_cases f:b=a
 ·subst f;rw[AF]at e;cases e;exact new
 ·rw[AR f]at e
  exact(x b u e).Ow (fun c v _ q=>k c v q) (fun c q=>by rw[AR (Ap q d)];exact q) fun c xs q=>by rw[AR (Ap q d)];exact q
end
def Rd (H:Hp) (a:Addr) (u:HO):Prop:=H a=some u∨∃o,H a=some (.Cz o u)
theorem Rd.ok {P:Program} {w:World} {H:Hp} {h:Heap} {a:Addr} {u:HO} (r:Rd H a u) (x:GQ P w H h):BJ P w H h a u:=by
 rcases r with r|⟨o,r⟩
 ·exact x a u r
 ·obtain⟨_,q⟩:=x a _ r
  exact q
def fN:Option HO->Prop
 |some (.lst _)=>True
 |some (.dK _)=>True
 |some (.dT _)=>True
 |some (.set _ _)=>True
 |some (.ins _ _ _)=>True
 |some (.ext _)=>True
 |_=>False
section
variable{P:Program} {w:World} {H:Hp} {h h':Heap} {x e:Addr} {o':HO}
theorem GQ.write (ok:GQ P w H h) (g:fN (H x)) (m:e=x∨H e=some (.own x)) (k:∀b u,b≠e->h.get? b=some u->h'.get? b=some u) (l:∃u,h'.get? e=some u)
  (new:BJ P w (upd H x o') h' x o'):GQ P w (upd H x o') h':=fun b u q=>by
 have d:∀c y,H c=some (.own y)->c≠x:=fun c y r z=>by subst z;rw[r]at g;exact g
 have f:∀c xs,H c=some (.tup xs)->c≠x:=fun c xs r z=>by subst z;rw[r]at g;exact g
 by_cases i:b=x
 ·subst i;rw[AF]at q;cases q;exact new
 ·rw[AR i]at q
  by_cases a:b=e
  ·have n:H b=some (.own x):=by
    rcases m with z|z
    ·exact absurd (a.trans z) i
    ·rw[a];exact z
   rw[q]at n;cases n
   obtain⟨v,o⟩:=l
   exact⟨v,by rw[a];exact o⟩
  ·refine(ok b u q).Ow (fun c v j r=>k c v ?_ r) (fun c r=>by rw[AR (d c b r)];exact r) fun c xs r=>by rw[AR (f c xs r)];exact r
   rcases j with rfl|j
   ·exact a
   ·rintro rfl
    rcases m with z|z
    ·exact d c b j z
    ·rw[j]at z;cases z;exact i rfl
end
structure Un (fs ex:List Addr) (H H':Hp) (h h':Heap):Prop where
 keep:∀b o,h.get? b=some o->H b=none->b∉fs->b∉ex->h'.get? b=some o
 slot:∀b o,h.get? b=some o->H b=none->b∈fs->b∉ex->∃sl,h'.get? b=some {o with slots:=sl}
 free:∀b o,h.get? b=some o->H b=none->b∉ex->H' b=none
 there:∀b o,h.get? b=some o->b∉ex->∃o',h'.get? b=some o'
 Kh:∀b xs,H b=some (.tup xs)->H' b=some (.tup xs)
 JM:∀b o u,H b=some (.Cz o u)->H' b=some (.Cz o u)
 Lw:∀b ps,H b=some (.au ps)->∃more,H' b=some (.au (ps++more))
section
variable{fs yB ex ex':List Addr} {H H1 H2:Hp} {h h1 h2 h':Heap} {a x e:Addr} {o:HO}
theorem Un.any (u:Un fs ex H H1 h h1) {b:Addr} {c:Obj} (q:h.get? b=some c) (n:H b=none) (d:b∉ex):∃g,h1.get? b=some {c with slots:=g}:=by
 by_cases f:b∈fs
 ·exact u.slot b c q n f d
 ·exact⟨c.slots,u.keep b c q n f d⟩
theorem Un.kept (k:∀b u,h.get? b=some u->h'.get? b=some u):Un fs ex H H h h':=
 ⟨fun b c q _ _ _=>k b c q,fun b c q _ _ _=>⟨c.slots,k b c q⟩,fun _ _ _ n _=>n,fun b c q _=>⟨c,k b c q⟩,fun _ _ q=>q,fun _ _ _ q=>q,fun _ d q=>⟨#[],by rw[q];simp⟩⟩
theorem Un.refl:Un fs ex H H h h:=Un.kept fun _ _ q=>q
theorem Un.laid (k:∀b u,h.get? b=some u->h'.get? b=some u) (hp:h.objs.size<=a) (hn:H a=none):Un fs ex H (upd H a o) h h' where
 keep:=fun b u q _ _ _=>k b u q
 slot:=fun b u q _ _ _=>⟨u.slots,k b u q⟩
 free:=fun b u q n _=>by rw[AR (Nat.ne_of_lt (Nat.lt_of_lt_of_le (Heap.lt_size q) hp))];exact n
 there:=fun b u q _=>⟨u,k b u q⟩
 Kh:=fun b xs q=>by rw[AR (Ap q hn)];exact q
 JM:=fun b u xs q=>by rw[AR (Ap q hn)];exact q
 Lw:=fun b ps q=>⟨#[],by rw[AR (Ap q hn),q];simp⟩
theorem Un.write (d:fN (H x)) (l:e=x∨H e=some (.own x)) (k:∀b u,b≠e->h.get? b=some u->h'.get? b=some u) (f:∃u,h'.get? e=some u):Un fs ex H (upd H x o) h h':=by
 have i:∀b,H b=none->b≠x:=fun b n z=>by subst z;rw[n]at d;exact d
 have j:∀b,H b=none->b≠e:=fun b n z=>by
  subst z
  rcases l with r|r
  ·exact i b n r
  ·rw[n]at r;cases r
 have g:∀b u,H b=some u->¬fN (some u)->b≠x:=fun b u q nm z=>by subst z;rw[q]at d;exact nm d
 refine⟨fun b u q n _ _=>k b u (j b n) q,fun b u q n _ _=>⟨u.slots,k b u (j b n) q⟩,fun b u q n _=>by rw[AR (i b n)];exact n,fun b u q _=>?_,
  fun b xs q=>by rw[AR (g b _ q fun z=>z)];exact q,fun b u xs q=>by rw[AR (g b _ q fun z=>z)];exact q,fun b m q=>⟨#[],by rw[AR (g b _ q fun z=>z),q];simp⟩⟩
 by_cases c:b=e
 ·subst c;exact f
 ·exact⟨u,k b u c q⟩
end
def ji (h:Heap) (H:Hp):List Addr:=(List.range h.objs.size).filter fun a=>(H a).isSome
def Lx (h:Heap) (H:Hp):Heap:=PySem.W.hideAll h (ji h H)
theorem Rn (h:Heap) (H:Hp):(Lx h H).objs.size=h.objs.size:=PySem.W.hideAll_size _ _
theorem Tv {h:Heap} {H:Hp} {b:Addr} {o:Obj} (e:h.get? b=some o) (n:H b=none):(Lx h H).get? b=some o:=
 PySem.W.hideAll_get _ e fun a=>by
  have q:(H b).isSome=true:=(List.mem_filter.mp a).2
  rw[n]at q;simp at q
theorem Xg {h:Heap} {H:Hp} {b:Addr} {o:Obj} (e:(Lx h H).get? b=some o):h.get? b=some o/\H b=none:=by
 have a:h.get? b=some o:=PySem.W.of_hideAll (ji h H) e
 refine⟨a,?_⟩
 cases q:H b with
 |none=>rfl
 |some x=>
  have c:b∈ji h H:=List.mem_filter.mpr ⟨List.mem_range.mpr (Heap.lt_size a),by simp[q]⟩
  have z:(Lx h H).get? b=none:=PySem.W.hideAll_none (ji h H) c
  rw[z]at e;cases e
def Xh (g h:Heap) (L:Addr):List (Addr×Obj):=(List.range h.objs.size).filterMap fun a=>if a=L∨(g.get? a).isSome=true then none else(h.get? a).map fun o=>(a,o)
def rest (g h:Heap) (L d:Addr):List (Addr×Obj):=(Xh g h L).filter fun p=>decide (p.1≠d)
structure Mod (K:ACH) (mg:Str->Option Value) (base:Heap):Prop where
 kT:K.In base
 glob:base.Ns mainGlobals mg
 blt:∃mb,base.Ns builtinsNs mb/\∀x:Str,x≠"__name__"->mb x=bootBuiltins x
 nolimit:base.NoLimit
structure Cx where
 prog:Program
 w:World
 K:ACH
 mg:Str->Option Value
 base:Heap
 A:Around
 N:List Str
 s₀:Shared
 H₀:Hp
 env:Env
 outer:List Env
 stack:List Env
 ex:List Addr
 fn:Str->Bool
 calm:Bool
 pn:List (Addr×Obj)
 xe:Value->Shared->Prop
def Tn (l:List Env):List Addr:=l.filterMap (·.frame)
abbrev Cx.fs (X:Cx):List Addr:=Tn X.outer
def kU (a:Scope) (x:Str):Prop:=a.names.lookup x=some .local∨a.names.lookup x=some .cell∨a.names.lookup x=some .free
def Loc (a:Scope) (x:Str):Prop:=a.names.lookup x=some .local∨a.names.lookup x=some .cell
def Look (env:Env) (h:Heap) (m:Str->Option Value) (x:Str) (u:Value):Prop:=
 (env.kindOf x=some .local/\m x=some u)∨((env.kindOf x=some .cell∨env.kindOf x=some .free)/\∃c,env.cells.lookup x=some c/\h.IsCell c (some u))
structure Cx.Ok (X:Cx):Prop where
 mod:Mod X.K X.mg X.base
 kind:X.env.scope.kind=.function
 glob:X.env.globals=mainGlobals
 blt:X.env.builtins=builtinsNs
 above:X.s₀.heap.objs.size<=X.env.locals
 inj:∀x y c,X.env.cells.lookup x=some c->X.env.cells.lookup y=some c->x=y
 has:∀x,(X.env.kindOf x=some .cell∨X.env.kindOf x=some .free)->∃c,X.env.cells.lookup x=some c
 fO:∀x c,X.fn x=true->X.env.cells.lookup x=some c->X.s₀.heap.objs.size<=c
 hd:X.calm=true->X.A.handled=none
 frames:X.A.frames=some X.stack
 jj:X.stack=X.outer∨(X.stack=X.env::X.outer/\X.env.frame=some X.env.locals)
 eT:∀b∈X.ex,b≠X.env.locals/\∀x c,X.env.cells.lookup x=some c->c≠b
 bs:∀b o,X.base.get? b=some o->X.s₀.heap.get? b=some o/\X.H₀ b=none
 XY:X.base.objs.size<=X.s₀.heap.objs.size
 Ro:∀b o,X.base.get? b=some o->b∉X.ex
 Rp:∀b∈X.ex,b∉X.fs
 JN:X.s₀.heap.FunFrames X.base X.outer
 eU:∀b∈X.fs,X.H₀ b=none
structure Inv (X:Cx) (pins:List (Addr×Obj)) (σ:List (Option V)) (H:Hp) (s:Shared):Prop where
 ok:X.Ok
 os:s.os=X.s₀.os
 bare:AllBare s.gens
 base:Un X.fs X.ex X.H₀ H X.s₀.heap s.heap
 loc:∃m,s.heap.Ns X.env.locals m/\∀(i:Nat) (x:Str) (v:V),X.N[i]?=some x->σ[i]?=some (some v)->kU X.env.scope x->∃u,RelV v u/\Look X.env s.heap m x u
 cell:∀x c,X.env.cells.lookup x=some c->∃v,s.heap.IsCell c v
 free:H X.env.locals=none
 ER:∀x c,X.env.cells.lookup x=some c->H c=none
 pin:∀p∈X.pn++pins,s.heap.get? p.1=some p.2/\H p.1=none/\p.1≠X.env.locals/\p.1∉X.fs/\∀v,p.2.data≠.cell v
 Bl:GQ X.prog X.w H s.heap
 len:σ.length=X.N.length
section
variable{X:Cx} {pins:List (Addr×Obj)} {σ:List (Option V)} {H H':Hp} {s:Shared} {h':Heap}
theorem Cx.Ok.kW (ok:X.Ok) {b:Addr} {o:Obj} (e:X.base.get? b=some o):b∉X.fs:=fun a=>by
 have:=(ok.JN.mem a).1
 rw[e]at this;cases this
theorem Inv.bs (I:Inv X pins σ H s):∀b o,X.base.get? b=some o->s.heap.get? b=some o/\H b=none:=fun b o e=>
 ⟨I.base.keep b o (I.ok.bs b o e).1 (I.ok.bs b o e).2 (I.ok.kW e) (I.ok.Ro b o e),I.base.free b o (I.ok.bs b o e).1 (I.ok.bs b o e).2 (I.ok.Ro b o e)⟩
theorem Inv.bk (I:Inv X pins σ H s):∀b o,X.base.get? b=some o->s.heap.get? b=some o:=fun b o e=>(I.bs b o e).1
theorem Inv.mod (I:Inv X pins σ H s):Mod X.K X.mg X.base:=I.ok.mod
theorem Inv.Ly (I:Inv X pins σ H s):X.K.In s.heap:=I.ok.mod.kT.keeps I.bk
theorem Inv.lt (I:Inv X pins σ H s):X.env.locals<s.heap.objs.size:=let⟨_,a,_⟩:=I.loc;a.lt
theorem Inv.sz (I:Inv X pins σ H s):X.s₀.heap.objs.size<=s.heap.objs.size:=Nat.le_trans I.ok.above (Nat.le_of_lt I.lt)
theorem Inv.kX (I:Inv X pins σ H s) {a:Addr} (h:s.heap.objs.size<=a):a∉X.fs:=fun b=>by
 obtain⟨_,o,c,_⟩:=I.ok.JN.mem b
 exact absurd (Nat.lt_of_lt_of_le (Heap.lt_size c) (Nat.le_trans I.sz h)) (Nat.lt_irrefl _)
theorem Inv.ax (I:Inv X pins σ H s):∀x c,X.env.cells.lookup x=some c->c≠X.env.locals:=fun x c e z=>by
 obtain⟨v,o,d,f⟩:=I.cell x c e
 obtain⟨m,⟨g,h,i,a,b,_⟩,_⟩:=I.loc
 rw[z,a]at d;cases d;rw[b]at f;cases f
theorem Inv.JN (I:Inv X pins σ H s):s.heap.FunFrames X.base X.outer:=by
 have all:∀(l:List Env),(∀b∈Tn l,b∈X.fs)->X.s₀.heap.FunFrames X.base l->s.heap.FunFrames X.base l:=by
  intro l
  induction l with
  |nil=>intro _ _;trivial
  |cons env r g=>
   intro f h
   obtain⟨i,⟨L,o,a,j,k,m⟩,n⟩:=h
   have c:L∈X.fs:=f L (by unfold Tn;rw[List.filterMap_cons,a];exact List.mem_cons_self)
   obtain⟨p,e⟩:=I.base.slot L o k (I.ok.eU L c) c fun z=>I.ok.Rp L z c
   exact⟨i,⟨L,_,a,j,e,m⟩,g (fun b d=>f b (by unfold Tn;rw[List.filterMap_cons,a];exact List.mem_cons_of_mem _ d)) n⟩
 exact all X.outer (fun _ d=>d) I.ok.JN
theorem Inv.stack (I:Inv X pins σ H s):s.heap.FunFrames X.base X.stack:=by
 rcases I.ok.jj with e|⟨e,a⟩
 ·rw[e];exact I.JN
 ·rw[e]
  obtain⟨m,b,_⟩:=I.loc
  refine .cons (by rw[I.ok.kind];decide) a b ?_ I.JN
  exact Heap.get?_none_of_le (Nat.le_trans I.ok.XY I.ok.above)
theorem Inv.Lz (I:Inv X pins σ H s):∀b∈Tn X.stack,b∈X.env.locals::X.fs:=fun b a=>by
 rcases I.ok.jj with e|⟨e,c⟩
 ·rw[e]at a;exact List.mem_cons_of_mem _ a
 ·rw[e]at a
  unfold Tn at a
  rw[List.filterMap_cons,c]at a
  exact a
theorem Inv.L_ (I:Inv X pins σ H s):∀b∈Tn X.stack,H b=none:=fun b a=>by
 rcases List.mem_cons.mp (I.Lz b a)with e|a
 ·rw[e];exact I.free
 ·obtain⟨_,o,c,_⟩:=I.ok.JN.mem a
  exact I.base.free b o c (I.ok.eU b a) fun z=>I.ok.Rp b z a
theorem Inv.step {g':Array GenState} {t':Nat} {d':Drawn} {ch:List Addr} (I:Inv X pins σ H s)
  (f:∀b∈ch,(b∈X.ex∨X.s₀.heap.objs.size<=b)/\b≠X.env.locals/\(∀x c,X.env.cells.lookup x=some c->c≠b)/\∀p∈X.pn++pins,p.1≠b)
  (keep:∀b o,b≠X.env.locals->b∉X.fs->b∉ch->s.heap.get? b=some o->H b=none->h'.get? b=some o)
  (slot:∀b o,b≠X.env.locals->b∈X.fs->b∉ch->s.heap.get? b=some o->H b=none->∃E,h'.get? b=some {o with slots:=E}) (free:∀b o,b∉ch->s.heap.get? b=some o->H b=none->H' b=none)
  (there:∀b o,b∉ch->s.heap.get? b=some o->∃A,h'.get? b=some A)
  (Kh:∀b xs,H b=some (.tup xs)->H' b=some (.tup xs)) (JM:∀b o u,H b=some (.Cz o u)->H' b=some (.Cz o u)) (Lw:∀b D,H b=some (.au D)->∃more,H' b=some (.au (D++more)))
  (N:∀m,s.heap.Ns X.env.locals m->h'.Ns X.env.locals m) (F:GQ X.prog X.w H' h') (O:AllBare g'):
  Inv X pins σ H' {s with heap:=h',gens:=g',drawn:=d',toks:=t'}:=by
 have B:∀b o,X.s₀.heap.get? b=some o->b≠X.env.locals:=fun b o e=>Nat.ne_of_lt (Nat.lt_of_lt_of_le (Heap.lt_size e) I.ok.above)
 have h:∀b o,X.s₀.heap.get? b=some o->b∉X.ex->b∉ch:=fun b o e a t=>by
  rcases(f b t).1 with z|z
  ·exact a z
  ·exact absurd (Nat.lt_of_lt_of_le (Heap.lt_size e) z) (Nat.lt_irrefl _)
 have cellK:∀x c,X.env.cells.lookup x=some c->∀v,s.heap.IsCell c v->h'.IsCell c v:=fun x c e v ⟨o,y,G⟩=>by
  have g:c∉ch:=fun z=>(f c z).2.2.1 x c e rfl
  by_cases K:c∈X.fs
  ·obtain⟨E,q⟩:=slot c o (I.ax x c e) K g y (I.ER x c e)
   exact⟨_,q,G⟩
  ·exact⟨o,keep c o (I.ax x c e) K g y (I.ER x c e),G⟩
 refine⟨I.ok,I.os,O,⟨fun b o e n t a=>?_,fun b o e n t a=>?_,fun b o e n a=>?_,fun b o e a=>?_,fun b xs e=>Kh b xs (I.base.Kh b xs e),fun b o xs e=>JM b o xs (I.base.JM b o xs e),fun b D e=>?_⟩,?_,fun x c e=>?_,?_,fun x c e=>?_,fun p L=>?_,F,I.len⟩
 ·exact keep b o (B b o e) t (h b o e a) (I.base.keep b o e n t a) (I.base.free b o e n a)
 ·obtain⟨E,j⟩:=I.base.slot b o e n t a
  obtain⟨J,C⟩:=slot b _ (B b o e) t (h b o e a) j (I.base.free b o e n a)
  exact⟨J,C⟩
 ·obtain⟨A,j⟩:=I.base.there b o e a
  exact free b A (h b o e a) j (I.base.free b o e n a)
 ·obtain⟨A,j⟩:=I.base.there b o e a
  exact there b A (h b o e a) j
 ·obtain⟨P,j⟩:=I.base.Lw b D e
  obtain⟨Q,C⟩:=Lw b _ j
  exact⟨P++Q,by rw[C,Array.append_assoc]⟩
 ·obtain⟨m,R,S⟩:=I.loc
  refine⟨m,N m R,fun i x v j C T=>?_⟩
  obtain⟨u,r,l⟩:=S i x v j C T
  refine⟨u,r,?_⟩
  rcases l with l|⟨k,c,e,z⟩
  ·exact .inl l
  ·exact .inr ⟨k,c,e,cellK x c e _ z⟩
 ·obtain⟨v,z⟩:=I.cell x c e
  exact⟨v,cellK x c e v z⟩
 ·obtain⟨m,⟨o,_,_,y,_⟩,_⟩:=I.loc
  exact free _ o (fun z=>(f _ z).2.1 rfl) y I.free
 ·obtain⟨v,o,y,G⟩:=I.cell x c e
  exact free c o (fun z=>(f c z).2.2.1 x c e rfl) y (I.ER x c e)
 ·obtain⟨e,n,M,nf,d⟩:=I.pin p L
  have g:p.1∉ch:=fun z=>(f p.1 z).2.2.2 p L rfl
  exact⟨keep p.1 p.2 M nf g e n,free p.1 p.2 g e n,M,nf,d⟩
theorem Inv.un {t':Nat} (I:Inv X pins σ H s) (u:Un X.fs [] H H' s.heap h') (c:GQ X.prog X.w H' h'):Inv X pins σ H' {s with heap:=h',toks:=t'}:=by
 obtain⟨m,⟨o,l,p,h,r⟩,_⟩:=id I.loc
 obtain⟨q,i⟩:=u.any h I.free (by simp)
 exact I.step (g':=s.gens) (d':=s.drawn) (ch:=[]) (fun _ z=>nomatch z) (fun b o _ d _ e n=>u.keep b o e n d (by simp)) (fun b o _ d _ e n=>u.slot b o e n d (by simp)) (fun b o _ e n=>u.free b o e n (by simp)) (fun b o _ e=>u.there b o e (by simp)) u.Kh u.JM u.Lw (fun t j=>by
  obtain⟨v,f,g,a,k⟩:=j
  rw[h]at a;cases a
  exact⟨_,f,g,i,k⟩) c I.bare
theorem Inv.call {g':Array GenState} {t':Nat} {d':Drawn} {ch:List Addr} (I:Inv X pins σ H s) (u:Un (Tn X.stack) ch H H' s.heap h') (g:GQ X.prog X.w H' h') (l:AllBare g')
  (d:∀b∈ch,(b∈X.ex∨X.s₀.heap.objs.size<=b)/\b≠X.env.locals/\(∀x c,X.env.cells.lookup x=some c->c≠b)/\∀p∈X.pn++pins,p.1≠b):
  Inv X pins σ H' {s with heap:=h',gens:=g',drawn:=d',toks:=t'}:=by
 obtain⟨m,⟨o,y,A,k,r⟩,_⟩:=id I.loc
 obtain⟨B,h⟩:=u.any k I.free fun z=>(d _ z).2.1 rfl
 exact I.step (ch:=ch) d (fun b o h q a e n=>u.keep b o e n (fun z=>(List.mem_cons.mp (I.Lz b z)).elim h q) a) (fun b o _ _ a e n=>u.any e n a) (fun b o a e n=>u.free b o e n a) (fun b o a e=>u.there b o e a) u.Kh u.JM u.Lw (fun C t=>by
  obtain⟨D,i,j,f,v⟩:=t
  rw[k]at f;cases f
  exact⟨_,i,j,h,v⟩) g l
theorem Inv.turned {t':Nat} {it:Addr} (I:Inv X pins σ H s) (k:∀b o,b≠it->s.heap.get? b=some o->h'.get? b=some o) (g:H it=none) (f:it≠X.env.locals)
  (h:it∈X.ex∨X.s₀.heap.objs.size<=it) (i:∀x c,X.env.cells.lookup x=some c->c≠it) (j:∀p∈X.pn++pins,p.1≠it):Inv X pins σ H {s with heap:=h',toks:=t'}:=by
 have d:∀b u,H b=some u->b≠it:=fun b u e z=>by rw[z,g]at e;cases e
 refine I.step (g':=s.gens) (d':=s.drawn) (ch:=[it]) (fun b l=>?_) (fun b o _ _ a e _=>k b o (fun z=>a (by simp[z])) e) (fun b o _ _ a e _=>⟨o.slots,k b o (fun z=>a (by simp[z])) e⟩) (fun _ _ _ _ n=>n)
  (fun b o a e=>⟨o,k b o (fun z=>a (by simp[z])) e⟩) (fun _ _ e=>e) (fun _ _ _ e=>e) (fun b B e=>⟨#[],by rw[e];simp⟩) (fun m t=>?_) (fun b u e=>?_) I.bare
 ·have e:b=it:=by simpa using l
  subst e
  exact⟨h,f,i,j⟩
 ·obtain⟨o,w,y,A,r⟩:=t
  exact⟨o,w,y,k _ o (Ne.symm f) A,r⟩
 ·refine(I.Bl b u e).Ow (fun c v a q=>k c v ?_ q) (fun _ q=>q) fun _ _ q=>q
  rcases a with z|z
  ·rw[z];exact d b u e
  ·exact d c _ z
theorem Inv.tok (I:Inv X pins σ H s) (t:Nat):Inv X pins σ H {s with toks:=t}:=I.un (h':=s.heap) (t':=t) Un.refl I.Bl
theorem Inv.kept {t':Nat} (I:Inv X pins σ H s) (k:∀b u,s.heap.get? b=some u->h'.get? b=some u):Inv X pins σ H {s with heap:=h',toks:=t'}:=I.un (Un.kept k) (I.Bl.kept k)
theorem Inv.laid {a:Addr} {o:HO} {t':Nat} (I:Inv X pins σ H s) (k:∀b u,s.heap.get? b=some u->h'.get? b=some u) (c:s.heap.objs.size<=a) (new:BJ X.prog X.w (upd H a o) h' a o):
  Inv X pins σ (upd H a o) {s with heap:=h',toks:=t'}:=I.un (Un.laid k c (I.Bl.fresh c)) (I.Bl.laid k c new)
theorem Inv.write {x e:Addr} {o:HO} {t':Nat} (I:Inv X pins σ H s) (c:fN (H x)) (d:e=x∨H e=some (.own x)) (k:∀b u,b≠e->s.heap.get? b=some u->h'.get? b=some u) (a:∃u,h'.get? e=some u)
  (new:BJ X.prog X.w (upd H x o) h' x o):Inv X pins σ (upd H x o) {s with heap:=h',toks:=t'}:=I.un (Un.write c d k a) (I.Bl.write c d k a new)
theorem Inv.Qi {a:List (Addr×Obj)} (I:Inv X pins σ H s) (h:∀p∈a,s.heap.get? p.1=some p.2/\H p.1=none/\p.1≠X.env.locals/\p.1∉X.fs/\∀v,p.2.data≠.cell v):Inv X a σ H s:=
 ⟨I.ok,I.os,I.bare,I.base,I.loc,I.cell,I.free,I.ER,fun p b=>(List.mem_append.mp b).elim (fun z=>I.pin p (List.mem_append_left _ z)) (h p),I.Bl,I.len⟩
theorem ES {N:List Str} (c:N.Nodup) {i j:Nat} {x:Str} (a:N[i]?=some x) (b:N[j]?=some x):i=j:=by
 obtain⟨f,d⟩:=ACE a
 obtain⟨g,e⟩:=ACE b
 exact(List.getElem_inj c).mp (d.trans e.symm)
theorem Ky {M:Model} {A:Around} {E:Value->Shared->Prop} {i:Nat} {x:Str} {v:V} {u:Value} {Q:Unit->Shared->Prop} (I:Inv X pins σ H s) (hN:X.N.Nodup) (L:X.N[i]?=some x) (t:Loc X.env.scope x) (r:RelV v u)
  (h:∀Z,Inv X pins (σ.set i (some v)) H Z->(∃a,Heap.SameBut a s.heap Z.heap/\(a=X.env.locals∨X.env.cells.lookup x=some a))->Q () Z) (hf:X.fn x=true∨X.env.scope.names.lookup x=some .local:=by first|exact .inl rfl|exact .inr rfl|assumption):wpAny M A (storeName X.env x u) Q E s:=by
 obtain⟨m,hn,hl⟩:=id I.loc
 have O:(X.env.scope.kind==.class||(X.env.scope.kind==.module&&X.env.locals !=X.env.globals))=false:=by rw[I.ok.kind];rfl
 have D:i<σ.length:=by rw[I.len];exact(ACE L).1
 have ax:=I.ax
 have tracked:∀{a:Addr} {h':Heap},(∃o,s.heap.get? a=some o/\H a=none)->Heap.SameBut a s.heap h'->GQ X.prog X.w H h':=fun{a h'} ha f b ob e=>by
  obtain⟨_,_,B⟩:=ha
  refine(I.Bl b ob e).Ow (fun c U l q=>(f.2 c ?_).trans q) (fun _ q=>q) fun _ _ q=>q
  rintro rfl
  rcases l with rfl|l
  ·rw[B]at e;cases e
  ·rw[B]at l;cases l
 rcases t with F|F
 ·refine wpAny_storeName_local F hn (fun h' yC f=>?_) O
  obtain⟨oL,_,_,yD,_⟩:=id hn
  refine h _ ⟨I.ok,I.os,I.bare,⟨fun b o e n G t=>?_,fun b o e n G t=>?_,I.base.free,fun b o e t=>?_,I.base.Kh,I.base.JM,I.base.Lw⟩,⟨_,yC,fun j y v' g C e3=>?_⟩,fun y c e=>?_,I.free,I.ER,fun p hp=>?_,tracked ⟨oL,yD,I.free⟩ f,by simpa using I.len⟩ ⟨_,f,.inl rfl⟩
  ·exact(f.2 b (Nat.ne_of_lt (Nat.lt_of_lt_of_le (Heap.lt_size e) I.ok.above))).trans (I.base.keep b o e n G t)
  ·obtain⟨sl,g⟩:=I.base.slot b o e n G t
   exact⟨sl,(f.2 b (Nat.ne_of_lt (Nat.lt_of_lt_of_le (Heap.lt_size e) I.ok.above))).trans g⟩
  ·obtain⟨o',g⟩:=I.base.there b o e t
   exact⟨o',(f.2 b (Nat.ne_of_lt (Nat.lt_of_lt_of_le (Heap.lt_size e) I.ok.above))).trans g⟩
  ·by_cases J:j=i
   ·subst J
    rw[L]at g;cases g
    rw[List.getElem?_set_self D]at C
    cases C
    exact⟨u,r,.inl ⟨F,by simp⟩⟩
   ·rw[List.getElem?_set_ne (Ne.symm J)]at C
    obtain⟨u',r',q⟩:=hl j y v' g C e3
    refine⟨u',r',?_⟩
    rcases q with⟨k,e⟩|⟨k,c,e,z⟩
    ·refine .inl ⟨k,?_⟩
     have:y≠x:=fun e=>J (ES hN g (e▸L))
     simp[this,e]
    ·exact .inr ⟨k,c,e,z.sameBut f (ax y c e)⟩
  ·obtain⟨U,z⟩:=I.cell y c e
   exact⟨U,z.sameBut f (ax y c e)⟩
  ·obtain⟨e,n,W,nf,d⟩:=I.pin p hp
   exact⟨(f.2 p.1 W).trans e,n,W,nf,d⟩
 ·have K:X.fn x=true:=by
   rcases hf with z|z
   ·exact z
   ·rw[z]at F;cases F
  obtain⟨c,l⟩:=I.ok.has x (.inl F)
  obtain⟨U,z⟩:=I.cell x c l
  refine wpAny_storeName_cell I.ok.kind F l z (fun h' P f=>?_)
  obtain⟨oc,R,S⟩:=id z
  refine h {s with heap:=h'} ⟨I.ok,I.os,I.bare,⟨fun b o e n G t=>?_,fun b o e n G t=>?_,I.base.free,fun b o e t=>?_,I.base.Kh,I.base.JM,I.base.Lw⟩,⟨m,hn.sameBut f (Ne.symm (ax x c l)),fun j y v' g C e3=>?_⟩,fun y Y e=>?_,I.free,I.ER,fun p hp=>?_,tracked ⟨oc,R,I.ER x c l⟩ f,by simpa using I.len⟩ ⟨c,f,.inr l⟩
  ·exact(f.2 b (Nat.ne_of_lt (Nat.lt_of_lt_of_le (Heap.lt_size e) (I.ok.fO x c K l)))).trans (I.base.keep b o e n G t)
  ·obtain⟨sl,g⟩:=I.base.slot b o e n G t
   exact⟨sl,(f.2 b (Nat.ne_of_lt (Nat.lt_of_lt_of_le (Heap.lt_size e) (I.ok.fO x c K l)))).trans g⟩
  ·obtain⟨o',g⟩:=I.base.there b o e t
   exact⟨o',(f.2 b (Nat.ne_of_lt (Nat.lt_of_lt_of_le (Heap.lt_size e) (I.ok.fO x c K l)))).trans g⟩
  ·by_cases J:j=i
   ·subst J
    rw[L]at g;cases g
    rw[List.getElem?_set_self D]at C
    cases C
    exact⟨u,r,.inr ⟨.inl F,c,l,P⟩⟩
   ·rw[List.getElem?_set_ne (Ne.symm J)]at C
    obtain⟨u',r',q⟩:=hl j y v' g C e3
    refine⟨u',r',?_⟩
    rcases q with q|⟨k,Y,e,z'⟩
    ·exact .inl q
    ·refine .inr ⟨k,Y,e,z'.sameBut f ?_⟩
     rintro rfl
     exact J (ES hN g (I.ok.inj _ _ _ e l▸L))
  ·by_cases T:Y=c
   ·subst T;exact⟨_,P⟩
   ·obtain⟨w2,z2⟩:=I.cell y Y e
    exact⟨w2,z2.sameBut f T⟩
  ·obtain⟨e,n,W,nf,d⟩:=I.pin p hp
   refine⟨(f.2 p.1 ?_).trans e,n,W,nf,d⟩
   intro q
   rw[q,R]at e
   have q':oc=p.2:=ACF e
   exact d U (by rw[<-q'];exact S)
theorem NP {M:Model} {A:Around} {E:Value->Shared->Prop} {i:Nat} {x:Str} {v:V} {u:Value} {Q:Unit->Shared->Prop} (I:Inv X pins σ H s) (b:X.N.Nodup) (c:X.N[i]?=some x) (d:Loc X.env.scope x) (r:RelV v u)
  (h:∀a,Inv X pins (σ.set i (some v)) H a->Q () a) (e:X.fn x=true∨X.env.scope.names.lookup x=some .local:=by first|exact .inl rfl|exact .inr rfl|assumption):wpAny M A (storeName X.env x u) Q E s:=
 Ky I b c d r (fun a f _=>h a f) e
theorem Inv.fP {a:Shared} {ch:List Addr} (I:Inv X pins σ H s) (g:a.os=s.os) (u:Un (Tn X.stack) ch H H' s.heap a.heap) (d:GQ X.prog X.w H' a.heap) (h:AllBare a.gens)
  (f:∀b∈ch,(b∈X.ex∨X.s₀.heap.objs.size<=b)/\b≠X.env.locals/\(∀x c,X.env.cells.lookup x=some c->c≠b)/\∀p∈X.pn++pins,p.1≠b):Inv X pins σ H' a:=by
 obtain⟨h',g',d',t',i⟩:=a
 have e:i=s.os:=g
 subst e
 exact I.call (g':=g') (t':=t') (d':=d') u d h f
end
abbrev XK:=Value->Option Addr->Hp->Prop
abbrev St:=List (Option V)
abbrev VK:=V->Hp->Prop
abbrev TE:=St->Hp->VK->Prop
abbrev TT:=St->Hp->(Bool->Hp->Prop)->Prop
abbrev TA:=St->Hp->(List V->Hp->Prop)->Prop
structure Ends where
 nx:St->Hp->Prop
 rt:VK
 bk:St->Hp->Prop:=fun _ _=>False
 ct:St->Hp->Prop:=fun _ _=>False
abbrev TS:=Ends->St->Hp->Prop
inductive kY (x:V) (H:Hp) (Q:Bool->Hp->Prop):Prop
 |mk (c:Bool) (e:x=.bl c) (q:Q c H):kY x H Q
inductive fQ (a:TE) (σ:St) (x:V) (H:Hp) (Q:VK):Prop
 |mk (c:Bool) (e:x=.bl c) (q:if c=true then a σ H Q else Q (.bl false) H):fQ a σ x H Q
inductive wC (a:TE) (σ:St) (x:V) (H:Hp) (Q:VK):Prop
 |mk (c:Bool) (e:x=.bl c) (q:if c=true then Q (.bl true) H else a σ H Q):wC a σ x H Q
inductive fR (x:V) (H:Hp) (Q:VK):Prop
 |mk (c:Bool) (e:x=.bl c) (q:Q (.bl (!c)) H):fR x H Q
inductive yE (x y:V) (H:Hp) (k:Int->Int->Hp->Prop):Prop
 |mk (i j:Int) (e:x=.int i) (a:y=.int j) (q:k i j H):yE x y H k
inductive wD (x:V) (H:Hp) (Q:Option Int->Hp->Prop):Prop
 |mk (i:Int) (e:x=.int i) (q:Q (some i) H):wD x H Q
inductive kZ (i j:Nat) (N:St->Hp->Prop) (σ:St) (vs:List V) (H:Hp):Prop
 |mk (v w:V) (e:vs=[v,w]) (q:N ((σ.set i (some v)).set j (some w)) H):kZ i j N σ vs H
inductive EP (X:Cx) (pins:List (Addr×Obj)) (σ:St) (Q:VK) (u:Value) (a:Shared):Prop
 |mk (v:V) (b:Hp) (I:Inv X pins σ b a) (r:RelV v u) (q:Q v b):EP X pins σ Q u a
inductive TP (X:Cx) (pins:List (Addr×Obj)) (σ:St) (Q:Bool->Hp->Prop) (b:Bool) (a:Shared):Prop
 |mk (c:Hp) (I:Inv X pins σ c a) (q:Q b c):TP X pins σ Q b a
inductive AP (X:Cx) (pins:List (Addr×Obj)) (σ:St) (Q:List V->Hp->Prop) (us:List Value) (a:Shared):Prop
 |mk (vs:List V) (b:Hp) (I:Inv X pins σ b a) (r:Vals vs us) (q:Q vs b):AP X pins σ Q us a
theorem EP.elim {X:Cx} {pins:List (Addr×Obj)} {σ:St} {Q:VK} {u:Value} {b:Shared} {G:Prop} (h:EP X pins σ Q u b) (k:∀(v:V) (a:Hp),Inv X pins σ a b->RelV v u->Q v a->G):G:=by
 cases h with
 |mk v a I r q=>exact k v a I r q
theorem AP.elim {X:Cx} {pins:List (Addr×Obj)} {σ:St} {Q:List V->Hp->Prop} {us:List Value} {b:Shared} {G:Prop} (h:AP X pins σ Q us b) (k:∀(vs:List V) (a:Hp),Inv X pins σ a b->Vals vs us->Q vs a->G):G:=by
 cases h with
 |mk v a I r q=>exact k v a I r q
theorem TP.elim {X:Cx} {pins:List (Addr×Obj)} {σ:St} {Q:Bool->Hp->Prop} {b:Bool} {c:Shared} {G:Prop} (h:TP X pins σ Q b c) (k:∀a:Hp,Inv X pins σ a c->Q b a->G):G:=by
 cases h with
 |mk a I q=>exact k a I q
inductive jk (X:Cx) (pins:List (Addr×Obj)) (N:St->Hp->Prop) (a:Shared):Prop
 |mk (σ:St) (b:Hp) (I:Inv X pins σ b a) (q:N σ b):jk X pins N a
inductive wF (X:Cx) (pins:List (Addr×Obj)) (Q:VK) (u:Value) (a:Shared):Prop
 |mk (v:V) (σ:St) (b:Hp) (I:Inv X pins σ b a) (r:RelV v u) (q:Q v b):wF X pins Q u a
def SP (X:Cx) (pins:List (Addr×Obj)) (D:Ends) (f:Flow) (a:Shared):Prop:=
 match f with
 | .next=>jk X pins D.nx a
 | .brk=>jk X pins D.bk a
 | .cont=>jk X pins D.ct a
 | .ret u=>wF X pins D.rt u a
def PE (X:Cx) (e:Expr) (t:TE):Prop:=
 ∀(pins:List (Addr×Obj)) (s:Shared) (a:St) (H:Hp) (Q:VK),Inv X pins a H s->t a H Q->wpAny (model X.prog X.w) X.A (eval e X.env) (EP X pins a Q) X.xe s
def PT (X:Cx) (e:Expr) (t:TT):Prop:=
 ∀(pins:List (Addr×Obj)) (s:Shared) (a:St) (H:Hp) (Q:Bool->Hp->Prop),Inv X pins a H s->t a H Q->wpAny (model X.prog X.w) X.A (isTrue e X.env (eval e X.env)) (TP X pins a Q) X.xe s
def PW (X:Cx) (e:Expr) (t:TT):Prop:=
 ∀(whole:Sem Value) (pins:List (Addr×Obj)) (s:Shared) (a:St) (H:Hp) (Q:Bool->Hp->Prop),Inv X pins a H s->t a H Q->wpAny (model X.prog X.w) X.A (isTrue e X.env whole) (TP X pins a Q) X.xe s
theorem PW.pt {X:Cx} {e:Expr} {t:TT} (h:PW X e t):PT X e t:=h _
def PA (X:Cx) (b:List Expr) (t:TA):Prop:=
 ∀(pos:Pos) (pins:List (Addr×Obj)) (s:Shared) (a:St) (H:Hp) (Q:List V->Hp->Prop),Inv X pins a H s->t a H Q->wpAny (model X.prog X.w) X.A (spliced (backTo pos (starEach b X.env))) (AP X pins a Q) X.xe s
def PS (X:Cx) (st:Stmt) (t:TS):Prop:=
 ∀(pins:List (Addr×Obj)) (s:Shared) (a:St) (H:Hp) (D:Ends),Inv X pins a H s->t D a H->wpAny (model X.prog X.w) X.A (exec st X.env) (SP X pins D) X.xe s
def Rq (X:Cx) (st:List Stmt) (t:TS):Prop:=
 ∀(pins:List (Addr×Obj)) (s:Shared) (a:St) (H:Hp) (D:Ends),Inv X pins a H s->t D a H->wpAny (model X.prog X.w) X.A (execs st X.env) (SP X pins D) X.xe s
theorem BX {b:Type} {t:Sem b} {Q c:b->Shared->Prop} {M:Model} {A:Around} {E:Value->Shared->Prop} {s:Shared} (h:wpAny M A t Q E s) (d:∀a s,Q a s->c a s):wpAny M A t c E s:=wpAny_mono h d fun _ _ x=>x
section
variable{X:Cx}
inductive ZV (i:Nat) (σ:St) (H:Hp) (Q:VK):Prop
 |mk (v:_) (a:σ[i]?=some (some v)) (b:Q v H):ZV i σ H Q
def Ez (i:Nat):TE:=fun a H Q=>ZV i a H Q
def tC (v:V):TE:=fun _ H Q=>Q v H
theorem ay {i:Nat} {x:Str} {pos:Pos} (j:X.N[i]?=some x) (k:kU X.env.scope x) (d:(x==("__debug__":Str))=false:=by decide) (f:(x==("__classdict__":Str))=false:=by decide):PE X (.Name x pos) (Ez i):=by
 intro pins s n H Q I h
 obtain⟨v,e,h⟩:=h
 obtain⟨m,o,p⟩:=I.loc
 obtain⟨u,r,l⟩:=p i x v j e k
 have fin:EP X pins n Q u s:=⟨v,H,I,r,h⟩
 rcases l with⟨b,q⟩|⟨b,c,g,a⟩
 ·exact wpAny_Name (wpAny_loadName_local I.ok.kind b o q fin) d
 ·rcases b with b|b
  ·exact wpAny_Name (wpAny_loadName_cell I.ok.kind b g a fin) d
  ·exact wpAny_Name (wpAny_loadName_free I.ok.kind b g a fin f) d
theorem AD {i j pos}:PE X (.Constant (.int i) j pos) (tC (.int i)):=fun _ _ _ H _ I h=>wpAny_Constant_int ⟨.int i,H,I.tok _,⟨_,rfl⟩,h⟩
theorem IJ {b j pos}:PE X (.Constant (.bool b) j pos) (tC (.bl b)):=fun _ _ _ H _ I h=>Constant_bool ⟨.bl b,H,I,rfl,h⟩
theorem BE {j pos}:PE X (.Constant .none j pos) (tC .Ao):=fun _ _ _ H _ I h=>Constant_none ⟨.Ao,H,I,rfl,h⟩
theorem Ax {x j pos}:PE X (.Constant (.str x) j pos) (tC (.str x)):=fun _ _ _ H _ I h=>Calls.Constant_str ⟨.str x,H,I.tok _,⟨_,rfl⟩,h⟩
def Gl (X:Cx) (x:Str):Prop:=X.env.kindOf x=some .globalImplicit
theorem Qj {E:Value->Shared->Prop} {pins:List (Addr×Obj)} {s:Shared} {σ:St} {H:Hp} {x:Str} {u:Value} {pos:Pos} {Q:Value->Shared->Prop} (I:Inv X pins σ H s) (a:Gl X x) (b:X.mg x=some u) (h:Q u s)
  (c:(x==("__debug__":Str))=false:=by decide):wpAny (model X.prog X.w) X.A (eval (.Name x pos) X.env) Q E s:=
 Calls.Name_function_global I.ok.kind a (Calls.loadGlobal_global (by rw[I.ok.glob];exact I.mod.glob.keeps I.bk) b h) c
theorem Hh {E:Value->Shared->Prop} {pins:List (Addr×Obj)} {s:Shared} {σ:St} {H:Hp} {x:Str} {u:Value} {pos:Pos} {Q:Value->Shared->Prop} (I:Inv X pins σ H s) (a:Gl X x) (b:X.mg x=none) (c:bootBuiltins x=some u) (h:Q u s)
  (d:x≠"__name__":=by decide) (e:(x==("__debug__":Str))=false:=by decide):wpAny (model X.prog X.w) X.A (eval (.Name x pos) X.env) Q E s:=by
 obtain⟨i,f,g⟩:=I.mod.blt
 exact Calls.Name_function_global I.ok.kind a (Calls.loadGlobal_builtin (by rw[I.ok.glob];exact I.mod.glob.keeps I.bk) b (by rw[I.ok.blt];exact f.keeps I.bk) ((g x d).trans c) h) e
theorem L' {x:Str} {v:V} {u:Value} {pos:Pos} (a:Gl X x) (b:X.mg x=some u) (r:RelV v u) (c:(x==("__debug__":Str))=false:=by decide):PE X (.Name x pos) (tC v):=
 fun _ _ _ H _ I h=>Qj I a b ⟨v,H,I,r,h⟩ c
theorem CL {x:Str} {v:V} {u:Value} {pos:Pos} (a:Gl X x) (b:X.mg x=none) (c:bootBuiltins x=some u) (r:RelV v u) (d:x≠"__name__":=by decide) (e:(x==("__debug__":Str))=false:=by decide):PE X (.Name x pos) (tC v):=
 fun _ _ _ H _ I h=>Hh I a b c ⟨v,H,I,r,h⟩ d e
variable{a b:Expr} {ta tb:TE} {pos:Pos}
def PC (X:Cx) (op:CmpOp) (a b:Expr) (t:TE):Prop:=
 ∀(pins:List (Addr×Obj)) (s:Shared) (e:St) (H:Hp) (Q:VK),Inv X pins e H s->t e H Q->
  wpAny (model X.prog X.w) X.A (eval a X.env) (fun v c=>wpAny (model X.prog X.w) X.A (eval b X.env) (fun u d=>wpAny (model X.prog X.w) X.A (compareOp op v u) (EP X pins e Q) X.xe d) X.xe c) X.xe s
def tB (t:TE):TT:=fun c H Q=>t c H fun x d=>kY x d Q
theorem Tw {op:CmpOp} {t:TE} (h:PC X op a b t) (f:behindInMarks op b=false:=by first|exact e _ (by decide) (by decide)|rfl):PT X (.Compare a [op] [b] pos) (tB t):=by
 intro pins s g H Q I hw
 refine wpAny_isTrue_Compare1 (BX (h pins s g H _ I hw) fun v o f=>BX f fun u p i=>BX i fun c r j=>j.elim fun x k l m n=>?_) f
 obtain⟨d,rfl,q⟩:=n
 cases m
 exact wpAny_truthy_bool ⟨k,l,q⟩
theorem Aw {e:Expr} {t:TE} (h:PE X e t) (c:∀whole,isTrue e X.env whole=(do let v<-whole;standAt e.pos;holding [v] (truthy v)):=by intro _;rfl):PT X e (tB t):=by
 intro pins s f H Q I hw
 refine isTrue_plain (BX (h pins s f H _ I hw) fun v m g=>g.elim fun x i j k l=>?_) (c _)
 obtain⟨d,rfl,q⟩:=l
 cases k
 exact wpAny_truthy_bool ⟨i,j,q⟩
variable{tA jl:TT} {rest:List Expr}
def ka (t u:TT):TT:=fun d H Q=>t d H fun c e=>if c=true then u d e Q else Q false e
def yF (t u:TT):TT:=fun d H Q=>t d H fun c e=>if c=true then Q true e else u d e Q
def kb (t:TT):TT:=fun d H Q=>t d H fun c e=>Q (!c) e
theorem pw_and1 (d:PT X a tA):PW X (.BoolOp .And [a] pos) tA:=by
 intro g pins s f H Q I h
 refine isTrue_and (BX (d pins s f H Q I h) fun c i e=>?_)
 cases c with
 |true=>exact isTrue_and_nil e
 |false=>exact e
theorem pw_or1 (d:PT X a tA):PW X (.BoolOp .Or [a] pos) tA:=by
 intro g pins s f H Q I h
 refine isTrue_or (BX (d pins s f H Q I h) fun c i e=>?_)
 cases c with
 |false=>exact isTrue_or_nil e
 |true=>exact e
theorem pw_and (i:PT X a tA) (j:PW X (.BoolOp .And (b::rest) pos) jl):PW X (.BoolOp .And (a::b::rest) pos) (ka tA jl):=by
 intro k pins s d H Q I h
 refine isTrue_and (BX (i pins s d H _ I h) fun c l m=>m.elim fun e f g=>?_)
 cases c with
 |true=>exact j k pins l d e Q f g
 |false=>exact⟨e,f,g⟩
theorem pw_or (i:PT X a tA) (j:PW X (.BoolOp .Or (b::rest) pos) jl):PW X (.BoolOp .Or (a::b::rest) pos) (yF tA jl):=by
 intro k pins s d H Q I h
 refine isTrue_or (BX (i pins s d H _ I h) fun c l m=>m.elim fun e f g=>?_)
 cases c with
 |true=>exact⟨e,f,g⟩
 |false=>exact j k pins l d e Q f g
theorem E_ (e:PT X a tA):PT X (.UnaryOp .Not a pos) (kb tA):=by
 intro pins s f H Q I h
 exact isTrue_not (BX (e pins s f H (fun c d=>Q (!c) d) I h) fun c k g=>g.elim fun d i j=>⟨d,i,j⟩)
def fS (ta tb:TE):TE:=fun c H Q=>ta c H fun x d=>fQ tb c x d Q
def kc (ta tb:TE):TE:=fun c H Q=>ta c H fun x d=>wC tb c x d Q
def fT (ta:TE):TE:=fun c H Q=>ta c H fun x d=>fR x d Q
theorem GU {op} {t:TE} (h:PE X a t):PE X (.BoolOp op [a] pos) t:=fun pins s c H Q I hw=>BoolOp_one (h pins s c H Q I hw)
theorem FV (i:PE X a ta) (j:PE X (.BoolOp .And (b::rest) pos) tb):PE X (.BoolOp .And (a::b::rest) pos) (fS ta tb):=by
 intro pins s e H Q I h
 refine BoolOp_and (BX (i pins s e H _ I h) fun v k l=>l.elim fun x f g m d=>?_)
 obtain⟨c,rfl,d⟩:=d
 cases m
 refine wpAny_truthy_bool ?_
 cases c with
 |true=>exact j pins k e f Q g d
 |false=>exact⟨.bl false,f,g,rfl,d⟩
theorem fU (i:PE X a ta) (j:PE X (.BoolOp .Or (b::rest) pos) tb):PE X (.BoolOp .Or (a::b::rest) pos) (kc ta tb):=by
 intro pins s e H Q I h
 refine BoolOp_or (BX (i pins s e H _ I h) fun v k l=>l.elim fun x f g m d=>?_)
 obtain⟨c,rfl,d⟩:=d
 cases m
 refine wpAny_truthy_bool ?_
 cases c with
 |false=>exact j pins k e f Q g d
 |true=>exact⟨.bl true,f,g,rfl,d⟩
theorem Ox (e:PE X a ta):PE X (.UnaryOp .Not a pos) (fT ta):=by
 intro pins s f H Q I h
 refine UnaryOp_ (BX (e pins s f H _ I h) fun v l g=>g.elim fun x i j k d=>?_)
 obtain⟨c,rfl,d⟩:=d
 cases k
 exact not_of (wpAny_truthy_bool ⟨.bl (!c),i,j,rfl,d⟩)
def yG (t:TT) (ta tb:TE):TE:=fun d H Q=>t d H fun c e=>if c=true then ta d e Q else tb d e Q
theorem Tx {c:Expr} (k:PT X c tA) (l:PE X a ta) (m:PE X b tb):PE X (.IfExp c a b pos) (yG tA ta tb):=by
 intro pins s e H Q I h
 refine wpAny_IfExp (BX (k pins s e H _ I h) fun d f n=>n.elim fun g i j=>?_)
 cases d with
 |true=>exact l pins f e g Q i j
 |false=>exact m pins f e g Q i j
end
def Bd (K:ACH) (H:Hp) (a:Addr) (xs:List V):Prop:=
 Rd H a (.lst xs)∨
  ∃(o:Obj) (b:Array Value) (n:Nat),K.lookup a=some o/\o.cls=.type "list"/\o.dict=none/\o.data=.seq b n/\b.size<=sizeLine/\Vals xs b.toList
def Ah (K:ACH) (H:Hp) (a:Addr) (xs:List V):Prop:=
 Rd H a (.tup xs)∨
  ∃(o:Obj) (b:Array Value) (n:Nat),K.lookup a=some o/\o.cls=.type "tuple"/\o.data=.seq b n/\b.size<=sizeLine/\Vals xs b.toList
def kd:Value->Option V
 | .none=>some .Ao
 | .bool b=>some (.bl b)
 | .int i _=>some (.int i)
 | .str x _=>some (.str x)
 | .bytes b _=>some (.NO b)
 | .float b _=>some (.eQ b)
 | .ref a=>some (.ref a)
 | .type n=>some (.ty n)
 |_=>none
theorem RelV.abs {x:V} {u:Value} (r:RelV x u):kd u=some x:=by
 cases x with
 |Ao=>cases r;rfl
 |bl _=>cases r;rfl
 |int _=>obtain⟨t,rfl⟩:=r;rfl
 |str _=>obtain⟨t,rfl⟩:=r;rfl
 |NO _=>obtain⟨t,rfl⟩:=r;rfl
 |eQ _=>obtain⟨t,rfl⟩:=r;rfl
 |ref _=>cases r;rfl
 |ty _=>cases r;rfl
theorem RelV.inj {x y:V} {u:Value} (r:RelV x u) (q:RelV y u):x=y:=ACF (r.abs.symm.trans q.abs)
theorem Vals.inj {xs ys:List V} {us:List Value} (r:Vals xs us) (s:Vals ys us):xs=ys:=by
 induction r generalizing ys with
 |nil=>exact(List.eq_nil_of_length_eq_zero (Paired.length s)).symm
 |cons a _ b=>
  cases ys with
  |nil=>exact absurd (Paired.length s) (Nat.succ_ne_zero _).symm
  |cons y f=>
   obtain⟨u,g,e,h,t⟩:=Vals.inv s
   injection e with c d
   subst c d
   rw[a.inj h,b t]
section
variable{X:Cx} {pins:List (Addr×Obj)} {σ:St} {H:Hp} {s:Shared} {a:Addr} {xs ys:List V}
theorem Bd.of {K:ACH} (h:H a=some (.lst xs)):Bd K H a xs:=.inl (.inl h)
theorem Ah.of {K:ACH} (h:H a=some (.tup xs)):Ah K H a xs:=.inl (.inl h)
theorem Inv.list (I:Inv X pins σ H s) (h:Bd X.K H a xs):∃its:List Value,Vals xs its/\PlainL s.heap a its.toArray/\xs.length<=sizeLine:=by
 rcases h with h|⟨o,its,n,b,c,d,f,g,r⟩
 ·obtain⟨z,its,n,r,e⟩:=h.ok I.Bl
  exact⟨its,r,⟨_,n,e,rfl,rfl,rfl⟩,z⟩
 ·refine⟨its.toList,r,⟨o,n,I.Ly a o b,c,d,by simpa using f⟩,?_⟩
  have e:=r.length
  simp only[Array.length_toList]at e
  lia
theorem Inv.tuple (I:Inv X pins σ H s) (h:Ah X.K H a xs):∃its:List Value,Vals xs its/\IsTup s.heap a its.toArray/\xs.length<=sizeLine:=by
 rcases h with h|⟨o,its,n,b,c,d,f,r⟩
 ·obtain⟨z,its,r,p⟩:=h.ok I.Bl
  exact⟨its,r,p,z⟩
 ·refine⟨its.toList,r,⟨o,I.Ly a o b,c,n,by simpa using d⟩,?_⟩
  have e:=r.length
  simp only[Array.length_toList]at e
  lia
theorem Inv.Tz (I:Inv X pins σ H s) (h:Bd X.K H a xs) (h':Bd X.K H a ys):xs=ys:=by
 obtain⟨c,r,⟨o,n,e,_,_,d⟩,_⟩:=I.list h
 obtain⟨b,i,⟨k,l,f,_,_,g⟩,_⟩:=I.list h'
 rw[e]at f;cases f
 rw[d]at g
 injection g with j _
 have:c=b:=by simpa using congrArg Array.toList j
 subst this
 exact r.inj i
theorem Inv.Kz (I:Inv X pins σ H s) (h:Ah X.K H a xs) (h':Ah X.K H a ys):xs=ys:=by
 obtain⟨c,r,⟨o,e,_,n,d⟩,_⟩:=I.tuple h
 obtain⟨b,i,⟨k,f,_,l,g⟩,_⟩:=I.tuple h'
 rw[e]at f;cases f
 rw[d]at g
 injection g with j _
 have:c=b:=by simpa using congrArg Array.toList j
 subst this
 exact r.inj i
end
abbrev Cx.Ki (X:Cx) (E:Value->Shared->Prop):Cx:={X with xe:=E}
abbrev Cx.jm (X:Cx):Cx:=X.Ki fun _ _=>False
theorem Cx.Ok.Ki {X:Cx} (ok:X.Ok) (E:Value->Shared->Prop):(X.Ki E).Ok:=
 ⟨ok.mod,ok.kind,ok.glob,ok.blt,ok.above,ok.inj,ok.has,ok.fO,ok.hd,ok.frames,ok.jj,ok.eT,ok.bs,ok.XY,ok.Ro,ok.Rp,ok.JN,ok.eU⟩
theorem Cx.Ok.FW {X:Cx} {E:Value->Shared->Prop} (ok:(X.Ki E).Ok):X.Ok:=
 ⟨ok.mod,ok.kind,ok.glob,ok.blt,ok.above,ok.inj,ok.has,ok.fO,ok.hd,ok.frames,ok.jj,ok.eT,ok.bs,ok.XY,ok.Ro,ok.Rp,ok.JN,ok.eU⟩
section
variable{X:Cx} {pins:List (Addr×Obj)} {σ:St} {H:Hp} {s:Shared} {E:Value->Shared->Prop}
theorem Inv.Ki (I:Inv X pins σ H s) (E:Value->Shared->Prop):Inv (X.Ki E) pins σ H s:=⟨I.ok.Ki E,I.os,I.bare,I.base,I.loc,I.cell,I.free,I.ER,I.pin,I.Bl,I.len⟩
theorem Inv.FW (I:Inv (X.Ki E) pins σ H s):Inv X pins σ H s:=⟨I.ok.FW,I.os,I.bare,I.base,I.loc,I.cell,I.free,I.ER,I.pin,I.Bl,I.len⟩
theorem SP.FW {D:Ends} {f:Flow} {c:Shared} (h:SP (X.Ki E) pins D f c):SP X pins D f c:=by
 cases f with
 |next=>obtain⟨a,b,I,q⟩:=h;exact⟨a,b,I.FW,q⟩
 |brk=>obtain⟨a,b,I,q⟩:=h;exact⟨a,b,I.FW,q⟩
 |cont=>obtain⟨a,b,I,q⟩:=h;exact⟨a,b,I.FW,q⟩
 |ret u=>obtain⟨v,a,b,I,r,q⟩:=h;exact⟨v,a,b,I.FW,r,q⟩
theorem Rq.jm {st:List Stmt} {t:TS} (h:Rq X.jm st t):Rq X st t:=fun pins s σ H D I hw=>
 wpAny_mono (h pins s σ H D (I.Ki _) hw) (fun _ _ q=>q.FW) fun _ _ z=>False.elim z
end
section
variable{X:Cx} {st:Stmt} {rest:List Stmt} {t u:TS} {e:Expr} {te:TE} {pos:Pos}
def ZW:TS:=fun D a H=>D.nx a H
def Rt (t u:TS):TS:=fun D a H=>t {D with nx:=u D} a H
theorem AQ:Rq X [] ZW:=fun _ _ a H _ I h=>wpAny_execs_nil ⟨a,H,I,h⟩
theorem AE (b:PS X st t) (c:Rq X rest u):Rq X (st::rest) (Rt t u):=by
 intro pins s d H D I h
 refine wpAny_execs_cons (BX (b pins s d H {D with nx:=u D} I h) fun f g q=>?_)
 cases f with
 |next=>
  obtain⟨a,i,j,q⟩:=q
  exact c pins g a i D j q
 |ret v=>exact q
 |brk=>exact q
 |cont=>exact q
theorem AI (a:PS X st t):Rq X [st] t:=by
 intro pins s b H D I h
 refine wpAny_execs_cons (BX (a pins s b H D I h) fun f c q=>?_)
 cases f with
 |next=>exact wpAny_execs_nil q
 |ret v=>exact q
 |brk=>exact q
 |cont=>exact q
theorem Inv.quiet {pins:List (Addr×Obj)} {σ:St} {H:Hp} {s:Shared} (I:Inv X pins σ H s):interactive X.env=false:=by simp[interactive,I.ok.kind]
def fV (te:TE):TS:=fun D a H=>te a H fun _ b=>D.nx a b
theorem Dw (b:PE X e te) (hs:swapsWith e none pos.line X.env=pure false:=by rfl):PS X (.Expr e pos) (fV te):=by
 intro pins s a H D I h
 exact wpAny_Expr_any (BX (b pins s a H _ I h) fun v i c=>c.elim fun x d f j g=>⟨a,d,f,g⟩) I.quiet hs
def Xi (te:TE):TS:=fun D a H=>te a H D.rt
theorem AL (b:PE X e te):PS X (.Return (some e) pos) (Xi te):=by
 intro pins s a H D I h
 exact wpAny_Return_some (BX (b pins s a H _ I h) fun v j c=>c.elim fun x d f g i=>⟨x,a,d,f,g,i⟩)
def NQ (c:TT) (t u:TS):TS:=fun D a H=>c a H fun b d=>if b=true then t D a d else u D a d
theorem Ag {c:Expr} {a b:List Stmt} {g:TT} (m:PT X c g) (n:Rq X a t) (o:Rq X b u):PS X (.If c a b pos) (NQ g t u):=by
 intro pins s f H D I h
 refine wpAny_If (BX (m pins s f H _ I h) fun d i p=>p.elim fun j k l=>?_)
 cases d with
 |true=>exact n pins i f j D k l
 |false=>exact o pins i f j D k l
end
abbrev TG:=V->St->Hp->(St->Hp->Prop)->Prop
abbrev Xj:=List V->St->Hp->(St->Hp->Prop)->Prop
def PG (X:Cx) (target:Expr) (t:TG):Prop:=
 ∀(pins:List (Addr×Obj)) (s:Shared) (b:St) (H:Hp) (v:V) (u:Value) (Q:St->Hp->Prop),Inv X pins b H s->RelV v u->t v b H Q->
  wpAny (model X.prog X.w) X.A (assign target X.env u) (fun _ d=>∃a c,Inv X pins a c d/\Q a c) X.xe s
def jn (X:Cx) (f:List Expr) (t:Xj):Prop:=
 ∀(pins:List (Addr×Obj)) (s:Shared) (b:St) (H:Hp) (c:List V) (d:List Value) (Q:St->Hp->Prop),Inv X pins b H s->Vals c d->t c b H Q->
  wpAny (model X.prog X.w) X.A (assignInOrder ((assignEach f X.env).map (·.2)) d) (fun _ g=>∃a e,Inv X pins a e g/\Q a e) X.xe s
abbrev az:=V->V->V->Hp->(Hp->Prop)->Prop
def fW (X:Cx) (t:az):Prop:=
 ∀(pins:List (Addr×Obj)) (s:Shared) (a:St) (H:Hp) (o i v:V) (ov b u:Value) (Q:Hp->Prop),Inv X pins a H s->RelV o ov->RelV i b->RelV v u->t o i v H Q->
  wpAny (model X.prog X.w) X.A (setItem ov b u) (fun _ d=>∃c,Inv X pins a c d/\Q c) X.xe s
abbrev yH:=V->V->Hp->VK->Prop
section
variable{X:Cx} {pos:Pos}
def Dm (i:Nat):TG:=fun v a H Q=>Q (a.set i (some v)) H
theorem Dx {i:Nat} {x:Str} (a:X.N.Nodup) (b:X.N[i]?=some x) (c:Loc X.env.scope x) (d:X.fn x=true∨X.env.scope.names.lookup x=some .local:=by first|exact .inl rfl|exact .inr rfl|assumption):PG X (.Name x pos) (Dm i):=by
 intro pins s f H v u Q I r h
 exact wpAny_assign_Name (NP I a b c r (fun g e=>⟨_,H,e,h⟩) d)
def fX:Xj:=fun a b H Q=>a=[]/\Q b H
inductive T_ (t:TG) (u:Xj) (vs:List V) (σ:St) (H:Hp) (Q:(St->Hp->Prop)):Prop
 |mk (v:_) (r:_) (c:vs=v::r) (d:t v σ H fun a b=>u r a b Q):T_ t u vs σ H Q
def T' (t:TG) (u:Xj):Xj:=fun a b H Q=>T_ t u a b H Q
theorem Xk:jn X [] fX:=by
 intro pins s a H b c Q I r h
 obtain⟨e,h⟩:=h
 subst e
 cases r
 exact assignInOrder_nil ⟨a,H,I,h⟩
theorem NR {e:Expr} {a:List Expr} {t:TG} {u:Xj} (c:PG X e t) (d:jn X a u)
  (hs:(assignEach (e::a) X.env).map (·.2)=assign e X.env::(assignEach a X.env).map (·.2):=by rfl):jn X (e::a) (T' t u):=by
 intro pins s f H n o Q I r h
 obtain⟨v,p,g,h⟩:=h
 subst g
 cases r with
 |cons r i=>
  rw[hs]
  refine assignInOrder_cons (BX (c pins s f H _ _ _ I r h) fun _ j ⟨b,k,l,m⟩=>?_)
  exact d pins j b k _ _ Q l i m
inductive ZX (K:ACH) (n:Nat) (t:Xj) (v:V) (σ:St) (H:Hp) (Q:(St->Hp->Prop)):Prop
 |mk (a:_) (xs:_) (b:v=.ref a) (c:Ah K H a xs) (d:xs.length=n) (e:t xs σ H Q):ZX K n t v σ H Q
def fY (K:ACH) (n:Nat) (t:Xj):TG:=fun v a H Q=>ZX K n t v a H Q
theorem a_ {c:List Expr} {k:Nat} {t:Xj} {n:Nat} (i:X.calm=true) (h:jn X c t)
  (j:(assignEach c X.env).length=n:=by rfl) (d:(assignEach c X.env).findIdx? (·.1)=none:=by rfl):PG X (.Tuple c k pos) (fY X.K n t):=by
 intro pins s f H v u Q I r hw
 obtain⟨a,xs,l,m,p,hw⟩:=hw
 subst l
 cases r
 obtain⟨q,g,w,A⟩:=I.tuple m
 refine assign_Tuple_tuple (I.ok.hd i) w (by simp[j,<-p,g.length]) d fun x y=>?_
 have z:Inv X pins f H {s with heap:=x}:=I.kept (t':=s.toks) fun b o e=>y b o (Nat.ne_of_lt (Heap.lt_size e)) e
 exact h pins _ f H xs _ Q z (by simpa using g) hw
def ke (b c:TE) (t:az):TG:=fun v a H Q=>b a H fun o d=>c a d fun i e=>t o i v e fun f=>Q a f
theorem UA {o i:Expr} {d e:TE} {t:az} (f:PE X o d) (g:PE X i e) (hs:fW X t)
  (j:∀v,assign (.Subscript o i pos) X.env v=(do
   let ov<-holding [v] (eval o X.env)
   let a<-holding [v,ov] (eval i X.env)
   standAt pos
   holding [v,ov,a] (setItem ov a v)
   release [v,ov,a] []):=by intro _;rfl):PG X (.Subscript o i pos) (ke d e t):=by
 intro pins s b H v u Q I r h
 rw[j]
 refine wpAny_bind (wpAny_holding (BX (f pins s b H _ I h) fun ov k c=>c.elim fun x l m n p=>?_))
 refine wpAny_bind (wpAny_holding (BX (g pins k b l _ m p) fun a q c=>c.elim fun y w z A B=>?_))
 refine wpAny_bind (wpAny_standAt (wpAny_bind (wpAny_holding (BX (hs pins q b w x y v ov a u _ z n A r B) fun _ F ⟨C,D,E⟩=>?_))))
 exact wpAny_release ⟨b,C,D,E⟩
def bA (b:TE) (g:TG):TS:=fun D a H=>b a H fun x c=>g x a c D.nx
theorem UB {a e:Expr} {c:TE} {g:TG} (f:PE X e c) (i:PG X a g) (hs:swapsWithSole [a] e pos.line X.env=pure false:=by rfl) (hw:swappedStores [a] e X.env=pure none:=by rfl)
  (j:(assignEach [a] X.env).map (·.2)=[assign a X.env]:=by rfl):PS X (.Assign [a] e pos) (bA c g):=by
 intro pins s d H D I h
 refine wpAny_Assign_stores (BX (f pins s d H _ I h) fun v k l=>l.elim fun x m n o p=>?_) hs hw
 rw[j]
 exact BX (i pins k d m x v _ n o p) fun _ u ⟨b,q,r,t⟩=>⟨b,q,r,t⟩
theorem AV {i:Nat} {x:Str} {e:Expr} {a:TE} {pos':Pos} (b:X.N.Nodup) (c:X.N[i]?=some x) (d:Loc X.env.scope x) (f:PE X e a) (hs:swapsWith e (some (.Name x pos')) pos.line X.env=pure false:=by rfl) (g:X.fn x=true∨X.env.scope.names.lookup x=some .local:=by first|exact .inl rfl|exact .inr rfl|assumption):
  PS X (.Assign [.Name x pos'] e pos) (bA a (Dm i)):=by
 intro pins s j H D I h
 refine wpAny_Assign_Name (BX (f pins s j H _ I h) fun v q k=>k.elim fun y l m n o=>?_) hs
 exact NP m b c d n (fun r p=>⟨_,l,p,o⟩) g
inductive fZ (i:Nat) (a:TE) (b:yH) (D:Ends) (σ:St) (H:Hp):Prop
 |mk (x:_) (d:σ[i]?=some (some x)) (e:a σ H fun y c=>b x y c fun z H2=>D.nx (σ.set i (some z)) H2):fZ i a b D σ H
inductive kf (f:Int->Int->Int) (x:V) (y:V) (H:Hp) (Q:VK):Prop
 |mk (i:_) (j:_) (a:x=.int i) (b:y=.int j) (c:Q (.int (f i j)) H):kf f x y H Q
end
section
variable{X:Cx} {pos:Pos}
inductive Qk (c:TT) (d:TS) (D:Ends) (σ:St) (H:Hp):Prop
 |mk (W:Nat->St->Hp->Prop) (h:(∃m,W m σ H)) (i:∀m σ H,W m σ H->c σ H fun b e=>if b=true then∃N:St->Hp->Prop,(∀a f,N a f->∃g,g<m/\W g a f)/\d {D with nx:=N,ct:=N,bk:=D.nx} σ e else D.nx σ e):Qk c d D σ H
def UC (c:TT) (a:TS):TS:=fun D b H=>Qk c a D b H
theorem UD {c:Expr} {body:List Stmt} {q:TT} {r:TS} (t:PassesOwn (model X.prog X.w) X.A X.env X.xe) (C:PT X c q) (E:Rq X body r):PS X (.While c body [] pos) (UC q r):=by
 intro pins s F H D I h
 obtain⟨W,⟨G,J⟩,turn⟩:=h
 refine wpAny_While (codeAny_whileLoop (fun n K=>∃e u,Inv X pins e u K/\W n e u) ?_ G ⟨F,H,I,J⟩)
 rintro n L ⟨d,x,M,O⟩
 refine wpAny_passesOwn t (BX (C pins L d x _ M (turn n d x O)) fun b P Q=>Q.elim fun y z i=>?_)
 cases b with
 |true=>
  obtain⟨N,B,i⟩:=i
  rw[if_pos rfl]
  refine wpAny_passesOwn t (BX (E pins P d y _ z i) fun f R j=>?_)
  cases f with
  |next=>
   obtain⟨a,g,k,l⟩:=j
   obtain⟨m,o,p⟩:=B a g l
   exact⟨m,o,a,g,k,p⟩
  |cont=>
   obtain⟨a,g,k,l⟩:=j
   obtain⟨m,o,p⟩:=B a g l
   exact⟨m,o,a,g,k,p⟩
  |brk=>exact j
  |ret v=>exact j
 |false=>
  rw[if_neg Bool.false_ne_true]
  exact wpAny_execs_nil ⟨d,y,z,i⟩
end
structure It where
 go:Nat->Hp->Prop
 XZ:Nat->Hp->V->Hp->Prop
 stop:Nat->Hp->Prop
def EH (X:Cx) (pins:List (Addr×Obj)) (H:Hp) (b:Addr):Prop:=
 H b=none/\b≠X.env.locals/\b∉X.fs/\(b∈X.ex∨X.s₀.heap.objs.size<=b)/\(∀x c,X.env.cells.lookup x=some c->c≠b)/\∀p∈X.pn++pins,p.1≠b
theorem Inv.Oy {X:Cx} {pins:List (Addr×Obj)} {σ:St} {H d:Hp} {s:Shared} {b:Addr} (I:Inv X pins σ H s) (a:s.heap.objs.size<=b) (f:d b=none):EH X pins d b:=by
 refine⟨f,Nat.ne_of_gt (Nat.lt_of_lt_of_le I.lt a),I.kX a,.inr (Nat.le_trans I.sz a),fun x c e z=>?_,fun p g z=>?_⟩
 ·obtain⟨v,q⟩:=I.cell x c e
  exact absurd (Nat.lt_of_lt_of_le q.lt (by rw[z];exact a)) (Nat.lt_irrefl _)
 ·exact absurd (Nat.lt_of_lt_of_le (Heap.lt_size (I.pin p g).1) (by rw[z];exact a)) (Nat.lt_irrefl _)
structure Turn (P:Program) (w:World) (K:ACH) (tg:Expr) (J:It) (fp:List Addr) (it:Addr) (tn:Nat->Heap->Prop):Prop where
 mem:it∈fp
 obj:∀i h,tn i h->∀b∈fp,∃o,h.get? b=some o/\∀v,o.data≠.cell v
 keep:∀i h h',tn i h->(∀b∈fp,∀o,h.get? b=some o->h'.get? b=some o)->tn i h'
 item:∀(X:Cx),X.prog=P->X.w=w->X.K=K->X.calm=true->∀(i:Nat) (pins:List (Addr×Obj)) (s:Shared) (σ:St) (H:Hp) (E:Value->Shared->Prop),Inv X pins σ H s->(∀b∈fp,EH X pins H b)->tn i s.heap->J.go i H->
  wpAny (model P w) X.A (pyNext (.ref it)) (fun r s1=>∃u,r=some u/\
   wpAny (model P w) X.A (letOwnedTupleGo tg (.ref it) u) (fun _ s2=>∃x H',Inv X pins σ H' s2/\RelV x u/\J.XZ i H x H'/\tn (i+1) s2.heap/\∀b∈fp,H' b=none) E s1) E s
 done:∀(X:Cx),X.prog=P->X.w=w->X.K=K->X.calm=true->∀(i:Nat) (pins:List (Addr×Obj)) (s:Shared) (σ:St) (H:Hp) (E:Value->Shared->Prop),Inv X pins σ H s->(∀b∈fp,EH X pins H b)->tn i s.heap->J.stop i H->
  wpAny (model P w) X.A (pyNext (.ref it)) (fun r s1=>r=none/\Inv X pins σ H s1) E s
 self:∀(A:Around) (i:Nat) (s:Shared) (Q:Value->Shared->Prop) (E:Value->Shared->Prop),tn i s.heap->Q (.ref it) s->wpAny (model P w) A (pyIter (.ref it)) Q E s
abbrev TI:=St->Hp->(It->Hp->Prop)->Prop
inductive kg (X:Cx) (pins:List (Addr×Obj)) (σ:St) (g:Expr) (R:It->Hp->Prop) (a:Value) (c:Shared):Prop
 |mk (it:Addr) (h:List Addr) (i:Nat->Heap->Prop) (J:It) (d:Hp) (e:a=.ref it) (I:Inv X pins σ d c) (t:Turn X.prog X.w X.K g J h it i) (z:i 0 c.heap) (f:∀b∈h,EH X pins d b) (q:R J d):kg X pins σ g R a c
def PI (X:Cx) (b iter:Expr) (c:TI):Prop:=
 ∀(pins:List (Addr×Obj)) (s:Shared) (a:St) (H:Hp) (R:It->Hp->Prop),Inv X pins a H s->c a H R->
  wpAny (model X.prog X.w) X.A (eval iter X.env) (fun v d=>wpAny (model X.prog X.w) X.A (pyIter v) (kg X pins a b R) X.xe d) X.xe s
theorem Ql {M:Model} {A:Around} {E:Value->Shared->Prop} {s:Shared} {b:Expr} {it:Addr} {u:Value} {o:Obj} {n:String} {vs:Array Value} {Q:Unit->Shared->Prop} (c:s.heap.get? it=some o) (d:o.cls=.type n) (e:o.data=.fields vs)
  (f:["enumerate","zip","dict_itemiterator","dict_reverseitemiterator","odict_iterator","itertools.zip_longest","itertools.pairwise"].contains n=false) (a:Q () s):wpAny M A (letOwnedTupleGo b (.ref it) u) Q E s:=by
 unfold letOwnedTupleGo
 cases b<;>first
  |exact wpAny_pure a
  |(cases u<;>first
    |exact wpAny_pure a
    |(refine wpAny_bind (wpAny_load c ?_)
      rw[d,e]
      show wpAny M A (if(["enumerate","zip","dict_itemiterator","dict_reverseitemiterator","odict_iterator","itertools.zip_longest","itertools.pairwise"].contains n&&vs[0]?==some (rawInt _))=true then _ else _) Q E s
      rw[if_neg (by intro h;rw[f,Bool.false_and]at h;cases h)]
      exact wpAny_pure a))
def eV (K:ACH) (a:Addr):It:=
 ⟨fun i H=>∃xs x,Bd K H a xs/\xs[i]?=some x,fun i H x b=>b=H/\∀xs,Bd K H a xs->xs[i]?=some x,fun i H=>∃xs,Bd K H a xs/\xs.length<=i⟩
def fb (K:ACH) (a:Addr):It:=
 ⟨fun i H=>∃xs x,Ah K H a xs/\xs[i]?=some x,fun i H x b=>b=H/\∀xs,Ah K H a xs->xs[i]?=some x,fun i H=>∃xs,Ah K H a xs/\xs.length<=i⟩
def eW (lo:Int) (n:Nat):It:=⟨fun i _=>i<n,fun i H x a=>a=H/\x=.int (lo+i),fun i _=>n<=i⟩
theorem Ru {P:Program} {w:World} {K:ACH} {tg:Expr} (a it:Addr):Turn P w K tg (eV K a) [it] it (fun i h=>h.IsListIter it a i)where
 mem:=by simp
 obj:=fun i h st b hb=>by
  have e:b=it:=by simpa using hb
  subst e
  obtain⟨o,e,c,d⟩:=st
  exact⟨o,e,fun v z=>by rw[d]at z;cases z⟩
 keep:=fun i h h' st k=>st.at fun o e=>k it (by simp) o e
 item:=by
  intro X hP hw hK hc i pins s σ H E I hf st hg
  subst hP hw hK
  obtain⟨xs,x,hq,hx⟩:=hg
  obtain⟨its,rv,p,hz⟩:=I.list hq
  obtain⟨u,hu,ru⟩:=rv.get hx
  obtain⟨f0,f1,f2,f3,f4,f5⟩:=hf it (by simp)
  refine wpAny_pyNext_list_item st p.isList (x:=u) (by simpa using hu) fun h' UE sb=>?_
  have I1:Inv X pins σ H {s with heap:=h'}:=I.turned (t':=s.toks) (fun b o hb e=>(sb.2 b hb).trans e) f0 f1 f3 f4 f5
  obtain⟨o,e,c,d⟩:=id UE
  exact⟨u,rfl,Ql (s:={s with heap:=h'}) e c d (by decide) ⟨x,H,I1,ru,⟨rfl,fun ys hy=>by rw[I.Tz hy hq];exact hx⟩,UE,fun b hb=>(hf b hb).1⟩⟩
 done:=by
  intro X hP hw hK hc i pins s σ H E I hf st hg
  subst hP hw hK
  obtain⟨xs,hq,hx⟩:=hg
  obtain⟨its,rv,p,hz⟩:=I.list hq
  obtain⟨f0,f1,f2,f3,f4,f5⟩:=hf it (by simp)
  have hl:=rv.length
  exact wpAny_pyNext_list_end (I.ok.hd hc) st p.isList (by simp;lia) fun h' eb=>⟨rfl,I.turned (t':=s.toks) (fun b o hb e=>eb b o hb e) f0 f1 f3 f4 f5⟩
 self:=fun _ _ _ _ _ st h=>wpAny_pyIter_listiter st h
theorem Oz {P:Program} {w:World} {K:ACH} {tg:Expr} (a it:Addr):Turn P w K tg (fb K a) [it] it (fun i h=>h.IsTupleIter it a i)where
 mem:=by simp
 obj:=fun i h st b hb=>by
  have e:b=it:=by simpa using hb
  subst e
  obtain⟨o,e,c,d⟩:=st
  exact⟨o,e,fun v z=>by rw[d]at z;cases z⟩
 keep:=fun i h h' st k=>st.at fun o e=>k it (by simp) o e
 item:=by
  intro X hP hw hK hc i pins s σ H E I hf st hg
  subst hP hw hK
  obtain⟨xs,x,hq,hx⟩:=hg
  obtain⟨its,rv,p,hz⟩:=I.tuple hq
  obtain⟨u,hu,ru⟩:=rv.get hx
  obtain⟨f0,f1,f2,f3,f4,f5⟩:=hf it (by simp)
  refine wpAny_pyNext_tuple_item st (show s.heap.IsTuple a its.toArray from p) (x:=u) (by simpa using hu) fun h' UE sb=>?_
  have I1:Inv X pins σ H {s with heap:=h'}:=I.turned (t':=s.toks) (fun b o hb e=>(sb.2 b hb).trans e) f0 f1 f3 f4 f5
  obtain⟨o,e,c,d⟩:=id UE
  exact⟨u,rfl,Ql (s:={s with heap:=h'}) e c d (by decide) ⟨x,H,I1,ru,⟨rfl,fun ys hy=>by rw[I.Kz hy hq];exact hx⟩,UE,fun b hb=>(hf b hb).1⟩⟩
 done:=by
  intro X hP hw hK hc i pins s σ H E I hf st hg
  subst hP hw hK
  obtain⟨xs,hq,hx⟩:=hg
  obtain⟨its,rv,p,hz⟩:=I.tuple hq
  obtain⟨f0,f1,f2,f3,f4,f5⟩:=hf it (by simp)
  have hl:=rv.length
  exact wpAny_pyNext_tuple_end (I.ok.hd hc) st (show s.heap.IsTuple a its.toArray from p) (by simp;lia) fun h' eb=>⟨rfl,I.turned (t':=s.toks) (fun b o hb e=>eb b o hb e) f0 f1 f3 f4 f5⟩
 self:=fun _ _ _ _ _ st h=>wpAny_pyIter_tupleiter st h
theorem O_ {P:Program} {w:World} {K:ACH} {tg:Expr} (it:Addr) (lo:Int) (n:Nat):Turn P w K tg (eW lo n) [it] it (fun i h=>IsRangeIter h it (lo+(i:Nat)*1) ((n:Int)-(i:Nat)) 1)where
 mem:=by simp
 obj:=fun i h st b hb=>by
  have e:b=it:=by simpa using hb
  subst e
  exact⟨_,st,fun v z=>by
   have z':Data.fields _=Data.cell v:=z
   cases z'⟩
 keep:=fun i h h' st k=>k it (by simp) _ st
 item:=by
  intro X hP hw hK hc i pins s σ H E I hf st hg
  subst hP hw hK
  obtain⟨f0,f1,f2,f3,f4,f5⟩:=hf it (by simp)
  have W:=Walks.range (prog:=X.prog) (w:=X.w) (I.ok.hd hc) it lo 1 n
  refine W.item i s _ _ hg st fun v h' tk hv UE kk=>?_
  obtain⟨t,rfl⟩:=hv
  have I1:Inv X pins σ H {s with heap:=h',toks:=tk}:=I.turned (fun b o hb e=>kk b o (by simpa using hb) e) f0 f1 f3 f4 f5
  refine⟨_,rfl,Ql (s:={s with heap:=h',toks:=tk}) (n:="range_iterator") UE rfl rfl (by decide) ⟨.int (lo+i),H,I1,⟨t,?_⟩,⟨rfl,rfl⟩,UE,fun b hb=>(hf b hb).1⟩⟩
  rw[Int.mul_one]
 done:=by
  intro X hP hw hK hc i pins s σ H E I hf st hg
  subst hP hw hK
  obtain⟨f0,f1,f2,f3,f4,f5⟩:=hf it (by simp)
  exact wpAny_pyNext_range_end (I.ok.hd hc) st (by have:n<=i:=hg;lia) fun h' eb=>⟨rfl,I.turned (t':=s.toks) (fun b o hb e=>eb b o hb e) f0 f1 f3 f4 f5⟩
 self:=fun _ _ _ _ _ st h=>wpAny_pyIter_rangeiter st h
section
variable{X:Cx} {tg:Expr}
def fe (K:ACH) (c:TE):TI:=fun d H R=>c d H fun x b=>∃a,x=.ref a/\(∃xs,Bd K b a xs)/\R (eV K a) b
def kh (K:ACH) (c:TE):TI:=fun d H R=>c d H fun x b=>∃a,x=.ref a/\(∃xs,Ah K b a xs)/\R (fb K a) b
theorem Gw {l:Expr} {f:TE} (g:PE X l f):PI X tg l (fe X.K f):=by
 intro pins s i H R I h
 refine BX (g pins s i H _ I h) fun v c j=>j.elim fun x k d m n=>?_
 obtain⟨a,e,⟨xs,r⟩,q⟩:=n
 subst e
 cases m
 obtain⟨t,w,p,y⟩:=d.list r
 refine wpAny_pyIter_list p.isList ?_
 refine⟨c.heap.objs.size,[c.heap.objs.size],_,_,k,rfl,d.kept (t':=c.toks) fun b o e=>Heap.get?_push_of_some _ e,Ru a _,⟨_,Heap.get?_push_size _ rfl,rfl,rfl⟩,fun b u=>?_,q⟩
 have e:b=c.heap.objs.size:=by simpa using u
 subst e
 exact d.Oy (Nat.le_refl _) (d.Bl.fresh (Nat.le_refl _))
theorem bB {l:Expr} {g:TE} (i:PE X l g):PI X tg l (kh X.K g):=by
 intro pins s j H R I h
 refine BX (i pins s j H _ I h) fun v c k=>k.elim fun x m d n r=>?_
 obtain⟨a,e,⟨xs,t⟩,q⟩:=r
 subst e
 cases n
 obtain⟨f,w,p,y⟩:=d.tuple t
 refine wpAny_pyIter_tuple (show c.heap.IsTuple a f.toArray from p) ?_
 refine⟨c.heap.objs.size,[c.heap.objs.size],_,_,m,rfl,d.kept (t':=c.toks) fun b o e=>Heap.get?_push_of_some _ e,Oz a _,⟨_,Heap.get?_push_size _ rfl,rfl,rfl⟩,fun b u=>?_,q⟩
 have e:b=c.heap.objs.size:=by simpa using u
 subst e
 exact d.Oy (Nat.le_refl _) (d.Bl.fresh (Nat.le_refl _))
theorem UG {pins:List (Addr×Obj)} {σ:St} {H:Hp} {s:Shared} {R:It->Hp->Prop} {E:Value->Shared->Prop} {lo a:Int} {t u v:Tok} {tk:Nat} (I:Inv X pins σ H s) (d: -(2 ^ 62)<=lo) (f:lo<2 ^ 62) (g: -(2 ^ 62)<=a) (h:a<2 ^ 62)
  (q:R (eW lo (a-lo).toNat) H):wpAny (model X.prog X.w) X.A (pyIter (.ref s.heap.objs.size)) (kg X pins σ tg R) E {s with heap:=s.heap.push {cls:=.type "range",data:=.fields #[.int lo t,.int a u,.int 1 v]},toks:=tk}:=by
 refine wpAny_pyIter_range (IsRange.new ..) (small_one d f g h) ?_
 have c:Inv X pins σ H {s with heap:=s.heap.push {cls:=.type "range",data:=.fields #[.int lo t,.int a u,.int 1 v]},toks:=tk}:=I.kept fun b o e=>Heap.get?_push_of_some _ e
 refine⟨(s.heap.push {cls:=.type "range",data:=.fields #[.int lo t,.int a u,.int 1 v]}).objs.size,[(s.heap.push {cls:=.type "range",data:=.fields #[.int lo t,.int a u,.int 1 v]}).objs.size],_,_,H,rfl,
  c.kept (t':=tk) fun b o e=>Heap.get?_push_of_some _ e,O_ _ lo (a-lo).toNat,?_,fun b i=>?_,q⟩
 ·have j:lo+((0:Nat):Int)*1=lo:=by simp
  have k:(((a-lo).toNat:Nat):Int)-((0:Nat):Int)=Builtin.Range.rangeSize lo a 1:=by rw[rangeSize_one];split<;>lia
  show IsRangeIter _ _ (lo+((0:Nat):Int)*1) ((((a-lo).toNat:Nat):Int)-((0:Nat):Int)) 1
  rw[j,k]
  exact Heap.get?_push_size _ rfl
 ·have e:b=(s.heap.push {cls:=.type "range",data:=.fields #[.int lo t,.int a u,.int 1 v]}).objs.size:=by simpa using i
  subst e
  exact c.Oy (Nat.le_refl _) (c.Bl.fresh (Nat.le_refl _))
def fg (a:TA):TI:=fun b H R=>a b H fun c d=>∃j:Int,c=[.int j]/\ -(2 ^ 62)<=j/\j<2 ^ 62/\R (eW 0 j.toNat) d
theorem ET {a:Expr} {c:TA} {p pos:Pos} (d:Gl X "range") (f:X.mg "range"=none) (g:PA X [a] c) (hs:starEach [a] X.env=[(false,eval a X.env)]:=by rfl):PI X tg (.Call (.Name "range" p) [a] [] pos) (fg c):=by
 intro pins s i H R I h
 refine Call_ (Hh I d f boot_range (PyProof.Rows.callWith_type1 (BX (g pos pins s i H _ I h) fun u v k=>k.elim fun w x l m b=>?_) hs rfl))
 obtain⟨j,e,b,n,q⟩:=b
 subst e
 cases m with
 |cons r o=>
  cases o
  obtain⟨t,rfl⟩:=r
  exact call_range_1 (UG l (by lia) (by lia) b n (by simpa using q))
def ki (f:TI) (g:TG) (h:TS):TS:=fun D a H=>f a H fun J j=>∃W:Nat->Nat->St->Hp->Prop,(∃m,W 0 m a j)/\∀i m a H,W i m a H->
 (J.stop i H/\D.nx a H)∨(J.go i H/\∃N:St->Hp->Prop,(∀b c,N b c->∃e,e<m/\W (i+1) e b c)/\∀x c,J.XZ i H x c->g x a c fun d k=>h {D with nx:=N,ct:=N,bk:=D.nx} d k)
def Hj (a:List Addr) (h:Heap):List (Addr×Obj):=a.filterMap fun b=>(h.get? b).map fun o=>(b,o)
theorem C_ {a:List Addr} {h:Heap} {b:Addr} {o:Obj} (c:b∈a) (e:h.get? b=some o):(b,o)∈Hj a h:=List.mem_filterMap.mpr ⟨b,c,by rw[e];rfl⟩
theorem Rv {a:List Addr} {h:Heap} {p:Addr×Obj} (c:p∈Hj a h):p.1∈a/\h.get? p.1=some p.2:=by
 obtain⟨b,d,e⟩:=List.mem_filterMap.mp c
 cases q:h.get? b with
 |none=>rw[q]at e;cases e
 |some o=>
  rw[q]at e
  have f:(b,o)=p:=ACF e
  subst f
  exact⟨d,q⟩
theorem Inv.pinned {pins:List (Addr×Obj)} {σ:St} {H:Hp} {s:Shared} {a:List Addr} (I:Inv X pins σ H s) (g:∀b∈a,EH X pins H b) (h:∀b∈a,∃o,s.heap.get? b=some o/\∀v,o.data≠.cell v):Inv X (pins++Hj a s.heap) σ H s:=
 I.Qi fun p i=>(List.mem_append.mp i).elim (fun z=>I.pin p (List.mem_append_right _ z)) fun z=>by
  obtain⟨c,e⟩:=Rv z
  obtain⟨j,k,l,_⟩:=g p.1 c
  obtain⟨o,f,d⟩:=h p.1 c
  rw[e]at f;cases f
  exact⟨e,j,k,l,d⟩
theorem Inv.Dn {pins pl:List (Addr×Obj)} {σ:St} {H:Hp} {s:Shared} (I:Inv X (pins++pl) σ H s):Inv X pins σ H s:=I.Qi fun p a=>I.pin p (List.mem_append_right _ (List.mem_append_left _ a))
theorem JO {iter:Expr} {body:List Stmt} {S:TI} {g:TG} {U:TS} {pos:Pos} (B:PassesOwn (model X.prog X.w) X.A X.env X.xe) (V:X.calm=true) (hi:PI X tg iter S) (hg:PG X tg g) (c:Rq X body U)
  (hs:∀x,foldedSetIterable iter X.env x=pure x:=by intro _;rfl):PS X (.For tg iter body [] pos) (ki S g U):=by
 intro pins s Y H D I h
 refine wpAny_For (BX (hi pins s Y H _ I h) fun v s1 h1=>BX h1 fun itv s2 h2=>?_) hs
 obtain⟨it,C,Z,J,H2,e,I2,T,L,f2,W,⟨m0,w0⟩,turn⟩:=h2
 subst e
 have j:∀{t:Hp},(∀b∈C,t b=none)->∀b∈C,EH X pins t b:=fun hn b c=>⟨hn b c,(f2 b c).2⟩
 refine codeAny_forLoop_any (fun n s'=>∃i k t,Inv X pins k t s'/\Z i s'.heap/\(∀b∈C,t b=none)/\W i n k t) ?_ m0 ⟨0,Y,H2,I2,L,fun b c=>(f2 b c).1,w0⟩
 rintro n s3 ⟨i,l,K,I3,E,F,w3⟩
 rcases turn i n l K w3 with⟨stop,qn⟩|⟨go,N,hN,step⟩
 ·refine wpAny_passesOwn B (BX (T.done X rfl rfl rfl V i pins s3 l K X.xe I3 (j F) E stop) fun r s4 ⟨M,I4⟩=>?_)
  subst M
  exact wpAny_execs_nil ⟨l,K,I4,qn⟩
 ·refine wpAny_passesOwn B (BX (T.item X rfl rfl rfl V i pins s3 l K X.xe I3 (j F) E go) fun r s4 ⟨u,M,h4⟩=>?_)
  subst M
  refine wpAny_passesOwn B (BX h4 fun _ s5 ⟨x,H5,I5,r5,y5,z,O⟩=>?_)
  have P:=I5.pinned (j O) (T.obj _ _ z)
  refine wpAny_passesOwn B (BX (hg _ s5 l H5 x u _ P r5 (step x H5 y5)) fun _ s6 ⟨Q,H6,I6,q6⟩=>?_)
  refine wpAny_passesOwn B (BX (c _ s6 Q H6 _ I6 q6) fun f R y=>?_)
  have again:∀{a:St} {p:Hp},Inv X (pins++Hj C s5.heap) a p R->N a p->∃m,m<n/\∃i k t,Inv X pins k t R/\Z i R.heap/\(∀b∈C,t b=none)/\W i m k t:=fun{a p} q G=>by
   obtain⟨m',hm,w7⟩:=hN a p G
   refine⟨m',hm,i+1,a,p,q.Dn,T.keep _ _ _ z fun b c o e=>(q.pin (b,o) (List.mem_append_right _ (List.mem_append_right _ (C_ c e)))).1,fun b c=>?_,w7⟩
   obtain⟨o,e,d⟩:=T.obj _ _ z b c
   exact(q.pin (b,o) (List.mem_append_right _ (List.mem_append_right _ (C_ c e)))).2.1
  cases f with
  |next=>obtain⟨a,p,q,G⟩:=y;exact again q G
  |cont=>obtain⟨a,p,q,G⟩:=y;exact again q G
  |brk=>obtain⟨a,p,q,y⟩:=y;exact⟨a,p,q.Dn,y⟩
  |ret v=>obtain⟨x7,a,p,q,r7,y⟩:=y;exact⟨x7,a,p,q.Dn,r7,y⟩
end
theorem JP {K:ACH} {a:Addr} {xs:List V} {g:TG} {h:TS} {D:Ends} {σ:St} {H:Hp} (Pv:Nat->St->Hp->Prop) (k:Pv 0 σ H) (l:∀i σ H,i<=xs.length->Pv i σ H->Bd K H a xs)
  (hs:∀i x σ H,xs[i]?=some x->Pv i σ H->g x σ H fun b H2=>h {D with nx:=Pv (i+1),ct:=Pv (i+1),bk:=D.nx} b H2) (n:∀σ H,Pv xs.length σ H->D.nx σ H):
  ∃W:Nat->Nat->St->Hp->Prop,(∃m,W 0 m σ H)/\∀i m σ H,W i m σ H->
   ((eV K a).stop i H/\D.nx σ H)∨((eV K a).go i H/\∃N:St->Hp->Prop,(∀c d,N c d->∃j,j<m/\W (i+1) j c d)/\∀x d,(eV K a).XZ i H x d->g x σ d fun b H2=>h {D with nx:=N,ct:=N,bk:=D.nx} b H2):=by
 refine⟨fun i m σ H=>m=xs.length-i/\i<=xs.length/\Pv i σ H,⟨xs.length,by simp,Nat.zero_le _,k⟩,?_⟩
 rintro i m σ H ⟨rfl,o,p⟩
 have q:=l i σ H o p
 by_cases f:i<xs.length
 ·refine .inr ⟨⟨xs,xs[i],q,by simp[f]⟩,Pv (i+1),fun c d r=>⟨xs.length-(i+1),by lia,rfl,f,r⟩,fun x d y=>?_⟩
  obtain⟨e,y⟩:=y
  subst e
  exact hs i x σ _ (y xs q) p
 ·have e:i=xs.length:=by lia
  subst e
  exact .inl ⟨⟨xs,q,Nat.le_refl _⟩,n σ H p⟩
theorem Xl {K:ACH} {a:Addr} {xs:List V} {g:TG} {h:TS} {D:Ends} {σ:St} {H:Hp} (Pv:Nat->St->Hp->Prop) (k:Pv 0 σ H) (l:∀i σ H,i<=xs.length->Pv i σ H->Ah K H a xs)
  (hs:∀i x σ H,xs[i]?=some x->Pv i σ H->g x σ H fun b H2=>h {D with nx:=Pv (i+1),ct:=Pv (i+1),bk:=D.nx} b H2) (n:∀σ H,Pv xs.length σ H->D.nx σ H):
  ∃W:Nat->Nat->St->Hp->Prop,(∃m,W 0 m σ H)/\∀i m σ H,W i m σ H->
   ((fb K a).stop i H/\D.nx σ H)∨((fb K a).go i H/\∃N:St->Hp->Prop,(∀c d,N c d->∃j,j<m/\W (i+1) j c d)/\∀x d,(fb K a).XZ i H x d->g x σ d fun b H2=>h {D with nx:=N,ct:=N,bk:=D.nx} b H2):=by
 refine⟨fun i m σ H=>m=xs.length-i/\i<=xs.length/\Pv i σ H,⟨xs.length,by simp,Nat.zero_le _,k⟩,?_⟩
 rintro i m σ H ⟨rfl,o,p⟩
 have q:=l i σ H o p
 by_cases f:i<xs.length
 ·refine .inr ⟨⟨xs,xs[i],q,by simp[f]⟩,Pv (i+1),fun c d r=>⟨xs.length-(i+1),by lia,rfl,f,r⟩,fun x d y=>?_⟩
  obtain⟨e,y⟩:=y
  subst e
  exact hs i x σ _ (y xs q) p
 ·have e:i=xs.length:=by lia
  subst e
  exact .inl ⟨⟨xs,q,Nat.le_refl _⟩,n σ H p⟩
theorem Hk {lo:Int} {n:Nat} {g:TG} {f:TS} {D:Ends} {σ:St} {H:Hp} (Pv:Nat->St->Hp->Prop) (j:Pv 0 σ H)
  (hs:∀i σ H,i<n->Pv i σ H->g (.int (lo+i)) σ H fun a H2=>f {D with nx:=Pv (i+1),ct:=Pv (i+1),bk:=D.nx} a H2) (k:∀σ H,Pv n σ H->D.nx σ H):
  ∃W:Nat->Nat->St->Hp->Prop,(∃m,W 0 m σ H)/\∀i m σ H,W i m σ H->
   ((eW lo n).stop i H/\D.nx σ H)∨((eW lo n).go i H/\∃N:St->Hp->Prop,(∀b c,N b c->∃h,h<m/\W (i+1) h b c)/\∀x c,(eW lo n).XZ i H x c->g x σ c fun a H2=>f {D with nx:=N,ct:=N,bk:=D.nx} a H2):=by
 refine⟨fun i m σ H=>m=n-i/\i<=n/\Pv i σ H,⟨n,by simp,Nat.zero_le _,j⟩,?_⟩
 rintro i m σ H ⟨rfl,o,p⟩
 by_cases d:i<n
 ·refine .inr ⟨d,Pv (i+1),fun b c l=>⟨n-(i+1),by lia,rfl,d,l⟩,fun x c y=>?_⟩
  obtain⟨e,y⟩:=y
  subst e y
  exact hs i σ _ d p
 ·have e:i=n:=by lia
  subst e
  exact .inl ⟨Nat.le_refl _,k σ H p⟩
abbrev R2:=V->V->Hp->VK->Prop
def Dy (X:Cx) (f:Value->Value->Sem Value) (r:R2):Prop:=
 ∀(pins:List (Addr×Obj)) (s:Shared) (a:St) (H:Hp) (x y:V) (v u:Value) (Q:VK),Inv X pins a H s->RelV x v->RelV y u->r x y H Q->
  wpAny (model X.prog X.w) X.A (f v u) (EP X pins a Q) X.xe s
def kj (X:Cx) (f:Value->Sem Value) (r:V->Hp->VK->Prop):Prop:=
 ∀(pins:List (Addr×Obj)) (s:Shared) (a:St) (H:Hp) (x:V) (v:Value) (Q:VK),Inv X pins a H s->RelV x v->r x H Q->
  wpAny (model X.prog X.w) X.A (f v) (EP X pins a Q) X.xe s
def Dz (X:Cx) (f:Value) (r:List V->Hp->VK->Prop):Prop:=
 ∀(pins:List (Addr×Obj)) (s:Shared) (a:St) (H:Hp) (xs:List V) (b:List Value) (Q:VK),Inv X pins a H s->Vals xs b->r xs H Q->
  wpAny (model X.prog X.w) X.A (call f b) (EP X pins a Q) X.xe s
def km (X:Cx) (r:V->Hp->(Bool->Hp->Prop)->Prop):Prop:=
 ∀(pins:List (Addr×Obj)) (s:Shared) (a:St) (H:Hp) (x:V) (v:Value) (Q:Bool->Hp->Prop),Inv X pins a H s->RelV x v->r x H Q->
  wpAny (model X.prog X.w) X.A (truthy v) (TP X pins a Q) X.xe s
def NK (r:R2) (b c:TE):TE:=fun a H Q=>b a H fun x d=>c a d fun y e=>r x y e Q
def yI (r:V->Hp->VK->Prop) (a:TE):TE:=fun b H Q=>a b H fun x c=>r x c Q
inductive wG (C:Int->Int->Prop) (g:Int->Int->V) (x:V) (y:V) (H:Hp) (Q:VK):Prop
 |mk (i:_) (j:_) (a:x=.int i) (b:y=.int j) (c:C i j) (d:Q (g i j) H):wG C g x y H Q
def rI (C:Int->Int->Prop) (g:Int->Int->V):R2:=fun x y H Q=>wG C g x y H Q
inductive fh (g:Int->Int->V) (x:V) (y:V) (H:Hp) (Q:VK):Prop
 |mk (i:_) (j:_) (a:x=.int i) (b:y=.int j) (c:Q (g i j) H):fh g x y H Q
def Xm (g:Int->Int->V):R2:=fun x y H Q=>fh g x y H Q
inductive wH (g:Int->V) (x:V) (H:Hp) (Q:VK):Prop
 |mk (i:_) (a:x=.int i) (b:Q (g i) H):wH g x H Q
def rU (g:Int->V):V->Hp->VK->Prop:=fun x H Q=>wH g x H Q
section
variable{X:Cx} {a b c:Expr} {ta tb tc:TE} {pos:Pos}
theorem bC (k:PE X a ta) (l:PE X b tb) {pins:List (Addr×Obj)} {s:Shared} {σ:St} {H:Hp} {R:V->V->Hp->Prop} (I:Inv X pins σ H s)
  (h:ta σ H fun x i=>tb σ i fun y H2=>R x y H2) {Q:Value->Shared->Prop} {f:Value->Value->Sem Value}
  (m:∀v u g x y H2,Inv X pins σ H2 g->RelV x v->RelV y u->R x y H2->wpAny (model X.prog X.w) X.A (f v u) Q X.xe g):
  wpAny (model X.prog X.w) X.A (eval a X.env) (fun v d=>wpAny (model X.prog X.w) X.A (eval b X.env) (fun u e=>wpAny (model X.prog X.w) X.A (f v u) Q X.xe e) X.xe d) X.xe s:=by
 refine BX (k pins s σ H _ I h) fun v n j=>j.elim fun x i o p q=>?_
 refine BX (l pins n σ i _ o q) fun u g j=>j.elim fun y H2 r t z=>?_
 exact m v u g x y H2 r p t z
theorem AZ {op:Operator} {r:R2} (d:Dy X (binaryOp op) r) (e:PE X a ta) (f:PE X b tb):PE X (.BinOp a op b pos) (NK r ta tb):=by
 intro pins s g H Q I h
 exact wpAny_BinOp (bC e f I h fun v u i x y j k l m q=>d pins i g j x y v u Q k l m q)
theorem CG {op:UnaryOp} {r:V->Hp->VK->Prop} (e:kj X (unaryOp op) r) (f:PE X a ta):PE X (.UnaryOp op a pos) (yI r ta):=by
 intro pins s d H Q I h
 exact UnaryOp_ (BX (f pins s d H _ I h) fun v g i=>i.elim fun x j k l m=>e pins g d j x v Q k l m)
theorem jo {f:Value->Value->Sem Value} {C:Int->Int->Prop} {g:Int->Int->Int}
  (rule:∀(i j:Int) (t u:Tok) (s:Shared) (Q:Value->Shared->Prop) (E:Value->Shared->Prop),C i j->Q (.int (g i j) s.toks) {s with toks:=s.toks+1}->wpAny (model X.prog X.w) X.A (f (.int i t) (.int j u)) Q E s):
  Dy X f (rI C fun i j=>.int (g i j)):=by
 intro pins s m H x y v u Q I d e h
 obtain⟨i,j,rfl,rfl,k,q⟩:=h
 obtain⟨t,rfl⟩:=d
 obtain⟨l,rfl⟩:=e
 exact rule i j t l s _ _ k ⟨.int (g i j),H,I.tok _,⟨_,rfl⟩,q⟩
theorem fj {f:Value->Value->Sem Value} {g:Int->Int->Int}
  (rule:∀(i j:Int) (t u:Tok) (s:Shared) (Q:Value->Shared->Prop) (E:Value->Shared->Prop),Q (.int (g i j) s.toks) {s with toks:=s.toks+1}->wpAny (model X.prog X.w) X.A (f (.int i t) (.int j u)) Q E s):
  Dy X f (Xm fun i j=>.int (g i j)):=by
 intro pins s l H x y v u Q I d e h
 obtain⟨i,j,rfl,rfl,q⟩:=h
 obtain⟨t,rfl⟩:=d
 obtain⟨k,rfl⟩:=e
 exact rule i j t k s _ _ ⟨.int (g i j),H,I.tok _,⟨_,rfl⟩,q⟩
theorem Xn {f:Value->Value->Sem Value} {g:Int->Int->Bool}
  (rule:∀(i j:Int) (t u:Tok) (s:Shared) (Q:Value->Shared->Prop) (E:Value->Shared->Prop),Q (.bool (g i j)) s->wpAny (model X.prog X.w) X.A (f (.int i t) (.int j u)) Q E s):
  Dy X f (Xm fun i j=>.bl (g i j)):=by
 intro pins s l H x y v u Q I d e h
 obtain⟨i,j,rfl,rfl,q⟩:=h
 obtain⟨t,rfl⟩:=d
 obtain⟨k,rfl⟩:=e
 exact rule i j t k s _ _ ⟨.bl (g i j),H,I,rfl,q⟩
def Xo (i j:Int):Prop:=0<j/\j<1073741824
def kn (i j:Int):Prop:=0<=j/\j<=1000000/\i.natAbs<2 ^ 64
def Xp (i j:Int):Prop:=(-(2 ^ 64)<i/\i<2 ^ 64)∨(-(2 ^ 64)<j/\j<2 ^ 64)
theorem Xp.ok {i j:Int} (h:Xp i j):IntMulOk i j:=by
 rcases h with⟨d,e⟩|⟨d,e⟩
 ·exact .of_left (intBits_le_64 d e)
 ·exact .of_right (intBits_le_64 d e)
theorem BY:Dy X (binaryOp .Add) (Xm fun i j=>.int (i+j)):=fj fun _ _ _ _ _ _ _ q=>add_int q
theorem JQ:Dy X (binaryOp .Sub) (Xm fun i j=>.int (i-j)):=fj fun _ _ _ _ _ _ _ q=>sub_int q
theorem FX:Dy X (binaryOp .Mult) (rI Xp fun i j=>.int (i*j)):=jo fun _ _ _ _ _ _ _ d q=>mul_int q d.ok
theorem F_:Dy X (binaryOp .FloorDiv) (rI Xo fun i j=>.int (i/j)):=jo fun i j _ _ _ _ _ d q=>by
 have e:(0:Int)<j:=d.1
 have f:j<1073741824:=d.2
 exact floordiv_int (by lia) (by rw[Int.fdiv_eq_ediv_of_nonneg i (by lia)];exact q) (.inl (PyProof.noPylong_small (by lia)))
theorem Bk:Dy X (binaryOp .Mod) (rI (fun _ j=>0<j) fun i j=>.int (i % j)):=jo fun i j _ _ _ _ _ d q=>by
 have e:(0:Int)<j:=d
 exact mod_int' (by lia) (by rw[Int.fmod_eq_emod_of_nonneg i (by lia)];exact q)
theorem UH:Dy X (binaryOp .Pow) (rI kn fun i j=>.int (i ^ j.toNat)):=jo fun _ _ _ _ _ _ _ d q=>pow_int_small d.1 d.2.1 d.2.2 q
theorem yJ {f:Value->Sem Value} {g:Int->Int}
  (rule:∀(i:Int) (t:Tok) (s:Shared) (Q:Value->Shared->Prop) (E:Value->Shared->Prop),Q (.int (g i) s.toks) {s with toks:=s.toks+1}->wpAny (model X.prog X.w) X.A (f (.int i t)) Q E s):
  kj X f (rU fun i=>.int (g i)):=by
 intro pins s e H x v Q I d h
 obtain⟨i,rfl,q⟩:=h
 obtain⟨t,rfl⟩:=d
 exact rule i t s _ _ ⟨.int (g i),H,I.tok _,⟨_,rfl⟩,q⟩
theorem BV:kj X (unaryOp .USub) (rU fun i=>.int (-i)):=yJ fun _ _ _ _ _ q=>neg_int q
inductive MA (x:V) (y:V) (H:Hp) (Q:VK):Prop
 |mk (i:_) (k:_) (d:x=.int i) (e:y=.bl k) (f:Q (.int (i+b2i k)) H):MA x y H Q
end
def fk:V->V->Bool
 | .Ao,.Ao=>true| .Ao,.int _=>true| .int _,.Ao=>true| .Ao,.bl _=>true| .bl _,.Ao=>true| .Ao,.str _=>true| .str _,.Ao=>true
 | .int _,.int _=>true| .bl _,.bl _=>true| .str _,.str _=>true| .NO _,.NO _=>true
 | .int _,.str _=>true| .str _,.int _=>true| .bl _,.str _=>true| .str _,.bl _=>true
 |_,_=>false
def wI:R2:=fun x y H Q=>fk x y=true/\Q (.bl (decide (x=y))) H
def yK:R2:=fun x y H Q=>fk x y=true/\Q (.bl (!decide (x=y))) H
theorem Qm {i j:Int}:decide (V.int i=V.int j)=(i==j):=by
 rw[Bool.eq_iff_iff]
 simp
theorem UI {i j:Bool}:decide (V.bl i=V.bl j)=(i==j):=by
 rw[Bool.eq_iff_iff]
 simp
theorem Qn {i j:Str}:decide (V.str i=V.str j)=(i==j):=by
 rw[Bool.eq_iff_iff]
 simp
theorem Qo {i j:Array UInt8}:decide (V.NO i=V.NO j)=(i.toList==j.toList):=by
 rw[Bool.eq_iff_iff]
 cases i
 cases j
 simp
section
variable{X:Cx} {a b c:Expr} {ta tb tc:TE} {pos:Pos}
theorem A_ {pins:List (Addr×Obj)} {σ:St} {H:Hp} {s:Shared} {Q:VK} {k d:Bool} (I:Inv X pins σ H s) (q:Q (.bl k) H) (e:k=d):EP X pins σ Q (.bool d) s:=by
 subst e
 exact⟨.bl k,H,I,rfl,q⟩
theorem CP:Dy X (compareOp .Eq) wI:=by
 intro pins s k H x y v u Q I g d h
 obtain⟨f,q⟩:=h
 cases x with
 |Ao=>
  cases g
  cases y with
  |Ao=>cases d;exact PySem.EqNone.eq_none_none (A_ I q (by simp))
  |bl j=>cases d;exact PySem.EqNone.eq_none_bool (A_ I q (by simp))
  |int j=>obtain⟨e,rfl⟩:=d;exact PySem.EqNone.eq_none_int (A_ I q (by simp))
  |str j=>obtain⟨e,rfl⟩:=d;exact PySem.EqNone.eq_none_str (A_ I q (by simp))
  |_=>exact absurd (show false=true from f) Bool.false_ne_true
 |bl i=>
  cases g
  cases y with
  |Ao=>cases d;exact PySem.EqNone.eq_bool_none (A_ I q (by simp))
  |bl j=>cases d;exact eq_bool (A_ I q UI)
  |str j=>obtain⟨e,rfl⟩:=d;exact PySem.EqMixed.eq_bool_str (A_ I q (by simp))
  |_=>exact absurd (show false=true from f) Bool.false_ne_true
 |int i=>
  obtain⟨t,rfl⟩:=g
  cases y with
  |Ao=>cases d;exact PySem.EqNone.eq_int_none (A_ I q (by simp))
  |int j=>obtain⟨e,rfl⟩:=d;exact eq_int (A_ I q Qm)
  |str j=>obtain⟨e,rfl⟩:=d;exact PySem.EqMixed.eq_int_str (A_ I q (by simp))
  |_=>exact absurd (show false=true from f) Bool.false_ne_true
 |str i=>
  obtain⟨t,rfl⟩:=g
  cases y with
  |Ao=>cases d;exact PySem.EqNone.eq_str_none (A_ I q (by simp))
  |bl j=>cases d;exact PySem.EqMixed.eq_str_bool (A_ I q (by simp))
  |int j=>obtain⟨e,rfl⟩:=d;exact PySem.EqMixed.eq_str_int (A_ I q (by simp))
  |str j=>obtain⟨e,rfl⟩:=d;exact eq_str (A_ I q Qn)
  |_=>exact absurd (show false=true from f) Bool.false_ne_true
 |NO i=>
  obtain⟨t,rfl⟩:=g
  cases y with
  |NO j=>obtain⟨e,rfl⟩:=d;exact PySem.W.eq_bytes (A_ I q Qo)
  |_=>exact absurd (show false=true from f) Bool.false_ne_true
 |_=>cases y<;>exact absurd (show false=true from f) Bool.false_ne_true
theorem UJ:Dy X (compareOp .NotEq) yK:=by
 intro pins s k H x y v u Q I g d h
 obtain⟨f,q⟩:=h
 cases x with
 |Ao=>
  cases g
  cases y with
  |Ao=>cases d;exact PySem.EqNone.ne_none_none (A_ I q (by simp))
  |bl j=>cases d;exact PySem.EqNone.ne_none_bool (A_ I q (by simp))
  |int j=>obtain⟨e,rfl⟩:=d;exact PySem.EqNone.ne_none_int (A_ I q (by simp))
  |str j=>obtain⟨e,rfl⟩:=d;exact PySem.EqNone.ne_none_str (A_ I q (by simp))
  |_=>exact absurd (show false=true from f) Bool.false_ne_true
 |bl i=>
  cases g
  cases y with
  |Ao=>cases d;exact PySem.EqNone.ne_bool_none (A_ I q (by simp))
  |bl j=>cases d;exact ne_bool (A_ I q (congrArg not UI))
  |str j=>obtain⟨e,rfl⟩:=d;exact PySem.EqMixed.ne_bool_str (A_ I q (by simp))
  |_=>exact absurd (show false=true from f) Bool.false_ne_true
 |int i=>
  obtain⟨t,rfl⟩:=g
  cases y with
  |Ao=>cases d;exact PySem.EqNone.ne_int_none (A_ I q (by simp))
  |int j=>obtain⟨e,rfl⟩:=d;exact ne_int (A_ I q (congrArg not Qm))
  |str j=>obtain⟨e,rfl⟩:=d;exact PySem.EqMixed.ne_int_str (A_ I q (by simp))
  |_=>exact absurd (show false=true from f) Bool.false_ne_true
 |str i=>
  obtain⟨t,rfl⟩:=g
  cases y with
  |Ao=>cases d;exact PySem.EqNone.ne_str_none (A_ I q (by simp))
  |bl j=>cases d;exact PySem.EqMixed.ne_str_bool (A_ I q (by simp))
  |int j=>obtain⟨e,rfl⟩:=d;exact PySem.EqMixed.ne_str_int (A_ I q (by simp))
  |str j=>obtain⟨e,rfl⟩:=d;exact ne_str (A_ I q (congrArg not Qn))
  |_=>exact absurd (show false=true from f) Bool.false_ne_true
 |NO i=>
  obtain⟨t,rfl⟩:=g
  cases y with
  |NO j=>obtain⟨e,rfl⟩:=d;exact PySem.W.ne_bytes (A_ I q (congrArg not Qo))
  |_=>exact absurd (show false=true from f) Bool.false_ne_true
 |_=>cases y<;>exact absurd (show false=true from f) Bool.false_ne_true
theorem NS:Dy X (compareOp .Lt) (Xm fun i j=>.bl (decide (i<j))):=Xn fun _ _ _ _ _ _ _ q=>lt_int q
inductive UK (x:V) (y:V) (H:Hp) (Q:VK):Prop
 |mk (i:_) (j:_) (d:x=.str i) (e:y=.str j) (f:Q (.bl (decide (i.cps.toList<j.cps.toList))) H):UK x y H Q
theorem fm:Dy X (compareOp .LtE) (Xm fun i j=>.bl (decide (i<=j))):=Xn fun _ _ _ _ _ _ _ q=>le_int q
theorem ZY:Dy X (compareOp .Gt) (Xm fun i j=>.bl (decide (j<i))):=Xn fun _ _ _ _ _ _ _ q=>gt_int q
theorem ZZ:Dy X (compareOp .GtE) (Xm fun i j=>.bl (decide (j<=i))):=Xn fun _ _ _ _ _ _ _ q=>ge_int q
inductive MB (x:V) (y:V) (H:Hp) (Q:VK):Prop
 |mk (i:_) (j:_) (d:x=.str i) (e:y=.str j) (f:Q (.bl (!(Builtin.Str.occurrences j i 0 j.length 1).isEmpty)) H):MB x y H Q
theorem GV:Dy X (compareOp .Is) (fun x y H Q=>y=.Ao/\Q (.bl (decide (x=.Ao))) H):=by
 intro pins s f H x y v u Q I d e h
 obtain⟨rfl,q⟩:=h
 cases e
 refine is_none_gen (A_ I q ?_)
 cases x<;>first
  |(cases d;rfl)
  |(obtain⟨t,rfl⟩:=d;rfl)
theorem D_:Dy X (compareOp .IsNot) (fun x y H Q=>y=.Ao/\Q (.bl (!decide (x=.Ao))) H):=by
 intro pins s f H x y v u Q I d e h
 obtain⟨rfl,q⟩:=h
 cases e
 refine isnot_none_gen (A_ I q ?_)
 cases x<;>first
  |(cases d;rfl)
  |(obtain⟨t,rfl⟩:=d;rfl)
inductive Ii (x:V) (y:V) (H:Hp) (Q:VK):Prop
 |mk (i:_) (j:_) (d:x=.str i) (e:y=.str j) (f:Q (.bl (!(!(Builtin.Str.occurrences j i 0 j.length 1).isEmpty))) H):Ii x y H Q
def isObj:HO->Bool
 | .lst _=>true
 | .ins _ _ _=>true
 |_=>false
inductive MC (x:V) (y:V) (H:Hp) (Q:VK):Prop
 |mk (a:_) (b:_) (d:_) (e:_) (f:x=.ref a) (g:y=.ref b) (h:H a=some d) (i:isObj d=true) (j:H b=some e) (k:isObj e=true) (l:Q (.bl (decide (a=b))) H):MC x y H Q
inductive Ij (x:V) (y:V) (H:Hp) (Q:VK):Prop
 |mk (a:_) (b:_) (d:_) (e:_) (f:x=.ref a) (g:y=.ref b) (h:H a=some d) (i:isObj d=true) (j:H b=some e) (k:isObj e=true) (l:Q (.bl (!decide (a=b))) H):Ij x y H Q
theorem AX (b:Expr) {op:CmpOp} (h:op≠.In:=by decide) (d:op≠.NotIn:=by decide):behindInMarks op b=false:=by
 have e:(op==CmpOp.In)=false:=by cases op<;>first|rfl|exact absurd rfl h
 have f:(op==CmpOp.NotIn)=false:=by cases op<;>first|rfl|exact absurd rfl d
 cases b<;>simp[behindInMarks,e,f]
theorem CU {op:CmpOp} {r:R2} (d:Dy X (compareOp op) r) (e:PE X a ta) (f:PE X b tb) (g:behindInMarks op b=false):PE X (.Compare a [op] [b] pos) (NK r ta tb):=by
 intro pins s i H Q I h
 exact wpAny_Compare1 (bC e f I h fun v u j x y k l m n q=>d pins j i k x y v u Q l m n q) g
def UL (t:TE):TT:=fun d H Q=>t d H fun x e=>kY x e Q
theorem AS {op:CmpOp} {r:R2} (f:Dy X (compareOp op) r) (g:PE X a ta) (i:PE X b tb) (j:behindInMarks op b=false):PT X (.Compare a [op] [b] pos) (UL (NK r ta tb)):=by
 intro pins s d H Q I h
 refine wpAny_isTrue_Compare1 (BX (g pins s d H _ I h) fun v l m=>m.elim fun x n o p q=>BX (i pins l d n _ o q) fun u t ⟨y,w,A,B,C⟩=>
  BX (f pins t d w x y v u _ A p B C) fun c J ⟨z,D,E,F,k,e,G⟩=>?_) j
 subst e
 cases F
 exact wpAny_truthy_bool ⟨D,E,G⟩
def fo (K:ACH) (x:V) (H:Hp) (k:Bool):Prop:=
 match x with
 | .Ao=>k=false
 | .bl b=>k=b
 | .int i=>k=(i !=0)
 | .str y=>y.length<=sizeLine/\k=((y.length:Int) !=0)
 | .NO y=>y.size<=sizeLine/\k=((y.size:Int) !=0)
 | .ref p=>(∃xs,Bd K H p xs/\k= !xs.isEmpty)∨(∃xs,Ah K H p xs/\k= !xs.isEmpty)∨∃kvs,H p=some (.dK kvs)/\k= !kvs.isEmpty
 |_=>False
theorem O' {d:Type} {kvs:List (d×V)} {vs:List (d×Value)} (r:KV kvs vs):(!vs.isEmpty)= !kvs.isEmpty:=by
 cases r<;>rfl
theorem JR {xs:List V} {its:List Value} (r:Vals xs its):(!its.toArray.isEmpty)= !xs.isEmpty:=by
 cases r<;>simp
theorem GW:(sizeLine:Nat)<2 ^ 63:=by rw[sizeLine_eq];decide
theorem bD:km X (fun x H Q=>∃k,fo X.K x H k/\Q k H):=by
 intro pins s z H x v Q I f h
 obtain⟨k,e,q⟩:=h
 have A:=GW
 have B:sizeLine=16777216:=sizeLine_eq
 cases x with
 |Ao=>
  cases f
  have d:k=false:=e
  subst d
  exact truthy_none ⟨H,I,q⟩
 |bl b=>
  cases f
  have d:k=b:=e
  subst d
  exact wpAny_truthy_bool ⟨H,I,q⟩
 |int i=>
  obtain⟨t,rfl⟩:=f
  have d:k=(i !=0):=e
  subst d
  exact PySem.P.truthy_int ⟨H,I,q⟩
 |str y=>
  obtain⟨t,rfl⟩:=f
  obtain⟨o,d⟩:y.length<=sizeLine/\k=((y.length:Int) !=0):=e
  subst d
  exact PySem.P.truthy_str (by lia) ⟨H,I.tok _,q⟩
 |NO y=>
  obtain⟨t,rfl⟩:=f
  obtain⟨o,d⟩:y.size<=sizeLine/\k=((y.size:Int) !=0):=e
  subst d
  exact PySem.W.truthy_bytes (by lia) ⟨H,I.tok _,q⟩
 |ref p=>
  cases f
  have d:(∃xs,Bd X.K H p xs/\k= !xs.isEmpty)∨(∃xs,Ah X.K H p xs/\k= !xs.isEmpty)∨∃kvs,H p=some (.dK kvs)/\k= !kvs.isEmpty:=e
  rcases d with⟨xs,g,d⟩|⟨xs,g,d⟩|⟨kvs,g,d⟩
  ·subst d
   obtain⟨l,r,pl,n⟩:=I.list g
   have hlen:=r.length
   exact wpAny_truthy_list pl.isList (by simp only[List.size_toArray];lia) ⟨H,I.tok _,by rw[JR r];exact q⟩
  ·subst d
   obtain⟨l,r,pl,n⟩:=I.tuple g
   have hlen:=r.length
   exact truthy_tuple pl (by simp only[List.size_toArray];lia) ⟨H,I.tok _,by rw[JR r];exact q⟩
  ·subst d
   obtain⟨n,u,j,r,m⟩:kvs.length<=sizeLine/\(p==sysModules)=false/\∃j,KV kvs j/\s.heap.DictOf (Av X.prog X.w) p j:=I.Bl p _ g
   have hlen:kvs.length=j.length:=Paired.length r
   exact wpAny_truthy_dict u m (by lia) ⟨H,I.tok _,by rw[O' r];exact q⟩
 |_=>exact(show False from e).elim
theorem UM (e:PE X a ta) (f:∀whole,isTrue a X.env whole=(do let v<-whole;standAt a.pos;holding [v] (truthy v))):
  PT X a (fun σ H Q=>ta σ H fun x d=>∃k,fo X.K x d k/\Q k d):=by
 intro pins s σ H Q I h
 exact isTrue_plain (BX (e pins s σ H _ I h) fun v g i=>i.elim fun x j l m n=>bD pins g σ j x v Q l m n) (f _)
inductive GR (x:V) (y:V) (H:Hp) (Q:VK):Prop
 |mk (i:_) (j:_) (d:x=.str i) (e:y=.str j) (f:i.length+j.length<=sizeLine) (g:Q (.str (i++j)) H):GR x y H Q
def MD:V->V->Hp->VK->Prop:=fun x y H Q=>GR x y H Q
theorem JS:Dy X (binaryOp .Add) MD:=by
 intro pins s k H x y v u Q I d e h
 obtain⟨i,j,rfl,rfl,f,q⟩:=h
 obtain⟨t,rfl⟩:=d
 obtain⟨g,rfl⟩:=e
 exact add_str (fun g l=>⟨.str (i++j),H,I.tok _,⟨_,rfl⟩,q⟩) f
inductive JT (x:V) (y:V) (H:Hp) (Q:VK):Prop
 |mk (i:_) (j:_) (d:x=.str i) (e:y=.str j) (f:i.length+j.length<=sizeLine) (g:Q (.str (i++j)) H):JT x y H Q
inductive Kj (x:V) (y:V) (H:Hp) (Q:VK):Prop
 |mk (i:_) (j:_) (d:x=.NO i) (e:y=.NO j) (f:i.size+j.size<=16777216) (g:Q (.NO (i++j)) H):Kj x y H Q
theorem vals1 {x:V} {us:List Value} (r:Vals [x] us):∃u,us=[u]/\RelV x u:=by
 cases r with
 |cons d e=>cases e;exact⟨_,rfl,d⟩
theorem vals2 {x y:V} {us:List Value} (r:Vals [x,y] us):∃u d,us=[u,d]/\RelV x u/\RelV y d:=by
 cases r with
 |cons e f=>
  cases f with
  |cons g h=>cases h;exact⟨_,_,rfl,e,g⟩
inductive NT (xs:List V) (H:Hp) (Q:VK):Prop
 |mk (i:_) (d:xs=[.int i]) (e:Q (.int (if i<0 then-i else i)) H):NT xs H Q
inductive Gx (xs:List V) (H:Hp) (Q:VK):Prop
 |mk (i:_) (j:_) (d:xs=[.int i,.int j]) (e:Q (.int (if j>i then j else i)) H):Gx xs H Q
def NU:List V->Hp->VK->Prop:=fun xs H Q=>Gx xs H Q
theorem Ry (e:X.calm=true):Dz X (.builtin "max") NU:=by
 intro pins s f H xs g Q I r h
 obtain⟨i,j,rfl,q⟩:=h
 obtain⟨u,l,rfl,⟨t,rfl⟩,⟨m,rfl⟩⟩:=vals2 r
 refine max_two_ints (I.ok.hd e) fun n o k=>⟨_,H,I.kept k,?_,q⟩
 by_cases d:j>i
 ·rw[if_pos d,if_pos d];exact⟨_,rfl⟩
 ·rw[if_neg d,if_neg d];exact⟨_,rfl⟩
inductive Gy (xs:List V) (H:Hp) (Q:VK):Prop
 |mk (i:_) (j:_) (d:xs=[.int i,.int j]) (e:Q (.int (if j<i then j else i)) H):Gy xs H Q
def NV:List V->Hp->VK->Prop:=fun xs H Q=>Gy xs H Q
theorem Rz (e:X.calm=true):Dz X (.builtin "min") NV:=by
 intro pins s f H xs g Q I r h
 obtain⟨i,j,rfl,q⟩:=h
 obtain⟨u,l,rfl,⟨t,rfl⟩,⟨m,rfl⟩⟩:=vals2 r
 refine min_two_ints (I.ok.hd e) fun n o k=>⟨_,H,I.kept k,?_,q⟩
 by_cases d:j<i
 ·rw[if_pos d,if_pos d];exact⟨_,rfl⟩
 ·rw[if_neg d,if_neg d];exact⟨_,rfl⟩
theorem K_:Dz X (.type "int") (fun xs H Q=>(∃i,xs=[.int i]/\Q (.int i) H)∨∃k,xs=[.bl k]/\Q (.int (if k then 1 else 0)) H):=by
 intro pins s e H xs f Q I r h
 rcases h with⟨i,rfl,q⟩|⟨k,rfl,q⟩
 ·obtain⟨u,rfl,t,rfl⟩:=vals1 r
  exact call_int_int ⟨.int i,H,I,⟨_,rfl⟩,q⟩
 ·obtain⟨u,rfl,d⟩:=vals1 r
  cases d
  exact call_int_bool ⟨.int (if k then 1 else 0),H,I.tok _,⟨_,rfl⟩,q⟩
inductive Ik (xs:List V) (H:Hp) (Q:VK):Prop
 |mk (i:_) (d:xs=[.int i]) (e:i.natAbs.log2<1920) (f:Q (.str (toString i)) H):Ik xs H Q
inductive NW (xs:List V) (H:Hp) (Q:VK):Prop
 |mk (x:_) (d:xs=[.str x]) (e:x.length=1) (f:Q (.int (x.cps.getD 0 0:Nat)) H):NW xs H Q
inductive NX (xs:List V) (H:Hp) (Q:VK):Prop
 |mk (i:_) (d:xs=[.int i]) (e:0<=i) (f:i<=1114111) (g:Q (.str ⟨#[i.toNat]⟩) H):NX xs H Q
def ko (K:ACH) (x:V) (H:Hp) (n:Nat):Prop:=
 match x with
 | .str y=>y.length<=sizeLine/\n=y.length
 | .NO y=>y.size<=sizeLine/\n=y.size
 | .ref p=>(∃xs,Bd K H p xs/\n=xs.length)∨∃xs,Ah K H p xs/\n=xs.length
 |_=>False
inductive NY (K:ACH) (xs:List V) (H:Hp) (Q:VK):Prop
 |mk (x:_) (n:_) (d:xs=[x]) (e:ko K x H n) (f:Q (.int n) H):NY K xs H Q
inductive JU (xs:List V) (H:Hp) (Q:VK):Prop
 |mk (i:_) (j:_) (d:xs=[.int i,.int j]) (e:Xo i j) (f:∀p,H p=none->Q (.ref p) (upd H p (.tup [.int (i/j),.int (i % j)]))):JU xs H Q
end
structure bE (h:Heap) (x dx C:Addr) (mA:Str->Option Value):Prop where
 obj:h.get? x=some (PySem.W.instObj C dx)
 ns:h.Ns1 dx mA
 ne:dx≠x
theorem R_ {h:Heap} {c:Addr} {d:Str->Option Value} (n:h.Ns1 c d):∃f,h.get? c=some f/\∀name,PySem.W.lookIn name f=some (d name):=by
 obtain⟨o,g,r,i,j,k,_,l⟩:=n
 refine⟨o,i,fun name=>?_⟩
 have e:=l name
 unfold nsFind findBy at e
 rw[<-Array.find?_toList]at e
 unfold PySem.W.lookIn
 rw[j]
 dsimp only
 split
 ·rename_i y q
  rw[q]at e
  exact congrArg some e
 ·rename_i q
  rw[q]at e
  have a:g.toList.any (·.refKey)=false:=by
   rw[List.any_eq_false]
   intro y m
   obtain⟨z,t,b⟩:=k y (Array.mem_toList_iff.mp m)
   simp[DictEntry.refKey,b]
  have p:¬g.toList.any (·.refKey)=true:=by rw[a];exact Bool.false_ne_true
  rw[if_neg p]
  exact congrArg some e
theorem bE.look {h:Heap} {x b C:Addr} {c:Str->Option Value} (I:bE h x b C c):∃a,PySem.W.InstAt h x (PySem.W.instObj C b) C (some a)/\∀name,PySem.W.lookIn name a=some (c name):=
 let⟨a,d,e⟩:=R_ I.ns
 ⟨a,⟨I.obj,rfl,rfl,d⟩,e⟩
section
variable{prog:Program} {w:World} {A:Around} {E:Value->Shared->Prop} {s:Shared} {K:ACH} {x dx C f:Addr} {mA:Str->Option Value} {name:Str} {v:Value}
end
theorem Ih.some_of {v:V} {o:Option Value} (r:Ih (some v) o):∃u,o=some u/\RelV v u:=by
 cases o with
 |none=>exact(show False from r).elim
 |some u=>exact⟨u,rfl,r⟩
section
variable{P:Program} {w:World} {H H':Hp} {h h':Heap} {a C dx:Addr} {fs yB:List (Str×V)}
theorem Iy (c:GQ P w H h) (e:H a=some (.ins C dx fs)):∃b,bE h a dx C b/\(∀f,Ih (fs.lookup f) (b f))/\PySem.Within b (fs.map (·.1))/\fs.length<=1000/\H dx=some (.own a):=by
 obtain⟨d,z,g,i,b,n,r,q⟩:=(show BJ P w H h a (.ins C dx fs)from c a _ e)
 exact⟨b,⟨i,n,g⟩,r,q,z,d⟩
end
structure kq (K:ACH) (C:Addr):Prop where
 pg:PySem.W.plainGet K C Str.empty=true
 hd:PySem.W.hasDictIn K C=true
 po:PySem.W.plainOver K C=true
 sa:PySem.W.findIn K (.ref C) "__setattr__"=some (some (.builtin "object.__setattr__"))
theorem kq.get {K:ACH} {C:Addr} (c:kq K C) (f:Str):PySem.W.plainGet K C f=true:=c.pg
structure Con (K:ACH) (C:Addr) (f:Str) (v:V) (u:Value):Prop where
 at_:PySem.W.findIn K (.ref C) f=some (some u)
 rel:RelV v u
 get:PySem.W.specialIn K u "__get__"=some none
 cp:PySem.W.copiedNames.contains f=false
structure Meth (K:ACH) (C:Addr) (m:Str) (f:Addr):Prop where
 at_:PySem.W.findIn K (.ref C) m=some (some (.ref f))
 fn:PySem.W.isFn K (.ref f)=true
 kp:PySem.W.keepIn K (.ref f)=true
section
variable{X:Cx} {pins:List (Addr×Obj)} {σ:St} {H:Hp} {s:Shared} {a C dx:Addr} {fs:List (Str×V)} {f:Str} {v:V} {A:Around} {E:Value->Shared->Prop}
end
section
variable{X:Cx} {o e value:Expr} {f:Str} {pos pos' kr:Pos} {ta tv:TE}
inductive ft (x:V) (y:V) (H:Hp) (Q:VK):Prop
 |mk (i:_) (j:_) (a:x=.int i) (b:y=.int j) (c:Q (.int (i+j)) H):ft x y H Q
inductive fu (x:V) (y:V) (H:Hp) (Q:VK):Prop
 |mk (i:_) (j:_) (a:x=.int i) (b:y=.int j) (c:Q (.int (i-j)) H):fu x y H Q
end
section
variable{X:Cx} {pins:List (Addr×Obj)} {σ:St} {H:Hp} {s:Shared} {A:Around} {E:Value->Shared->Prop} {Q:Value->Shared->Prop} {c:Value} {b:Bool}
inductive Hl (K:ACH) (H:Hp):V->Value->Prop where
 |Ao:Hl K H .Ao (.type "NoneType")
 |bl (x:Bool):Hl K H (.bl x) (.type "bool")
 |int (i:Int):Hl K H (.int i) (.type "int")
 |str (x:Str):Hl K H (.str x) (.type "str")
 |eQ (x:UInt64):Hl K H (.eQ x) (.type "float")
 |lst {a:Addr} {xs:List V} (e:H a=some (.lst xs)):Hl K H (.ref a) (.type "list")
 |Cz {a:Addr} {o:Obj} {xs:List V} (e:H a=some (.Cz o (.lst xs))):Hl K H (.ref a) (.type "list")
 |tup {a:Addr} {xs:List V} (e:H a=some (.tup xs)):Hl K H (.ref a) (.type "tuple")
 |dK {a:Addr} {kvs:List (Key×V)} (e:H a=some (.dK kvs)):Hl K H (.ref a) (.type "dict")
 |dT {a:Addr} {kvs:List (List Key×V)} (e:H a=some (.dT kvs)):Hl K H (.ref a) (.type "dict")
 |ins {a C d:Addr} {fs:List (Str×V)} (e:H a=some (.ins C d fs)) (g:kq K C) (h:PySem.W.findIn K (.ref C) "__class__"=some (some (.builtin "object.__class__")))
   (j:PySem.W.specialIn K (.builtin "object.__class__") "__get__"=some (some (.builtin "getset_descriptor.__get__"))) (f:PySem.W.takesIn K (.builtin "object.__class__")=some true)
   (k:PySem.W.mroIn K C (.type "object")=some true):Hl K H (.ref a) (.ref C)
theorem EU {x:V} {u t:Value} (I:Inv X pins σ H s) (d:RelV x u) (ty:Hl X.K H x t) (e:PySem.W.kitOne X.K t c=some b) (h:∀tk,Q (.bool b) {s with toks:=tk}):
  wpAny (model X.prog X.w) A (call (.builtin "isinstance") [u,c]) Q E s:=by
 cases ty with
 |Ao=>cases(show u=Value.none from d);exact PySem.W.kia_one PySem.W.kitx_none I.Ly True.intro e (fun z=>nomatch z) h
 |bl y=>cases(show u=Value.bool y from d);exact PySem.W.kia_one PySem.W.kitx_bool I.Ly True.intro e (fun z=>nomatch z) h
 |int i=>obtain⟨t,q⟩:=(show∃t,u=Value.int i t from d);cases q;exact PySem.W.kia_one PySem.W.kitx_int I.Ly True.intro e (fun z=>nomatch z) h
 |str y=>obtain⟨t,q⟩:=(show∃t,u=Value.str y t from d);cases q;exact PySem.W.kia_one PySem.W.kitx_str I.Ly True.intro e (fun z=>nomatch z) h
 |eQ y=>obtain⟨t,q⟩:=(show∃t,u=Value.float y t from d);cases q;exact PySem.W.kia_one PySem.W.kitx_float I.Ly True.intro e (fun z=>nomatch z) h
 |@lst a xs f=>
  cases(show u=Value.ref a from d)
  obtain⟨_,_,n,_,g⟩:=(show BJ X.prog X.w H s.heap a (.lst xs)from I.Bl a _ f)
  exact PySem.W.kia_one PySem.W.kitx_list I.Ly ⟨_,g,rfl⟩ e (fun z=>nomatch z) h
 |@Cz a m xs f=>
  cases(show u=Value.ref a from d)
  obtain⟨_,_,_,n,_,g⟩:=(show BJ X.prog X.w H s.heap a (.Cz m (.lst xs))from I.Bl a _ f)
  exact PySem.W.kia_one PySem.W.kitx_list I.Ly ⟨_,g,rfl⟩ e (fun z=>nomatch z) h
 |@tup a xs f=>
  cases(show u=Value.ref a from d)
  obtain⟨_,_,_,p⟩:=(show BJ X.prog X.w H s.heap a (.tup xs)from I.Bl a _ f)
  obtain⟨o,g,j,_⟩:=p
  exact PySem.W.kia_one PySem.W.kitx_tuple I.Ly ⟨o,g,j⟩ e (fun z=>nomatch z) h
 |@dK a kvs f=>
  cases(show u=Value.ref a from d)
  obtain⟨_,_,G,_,p⟩:=(show BJ X.prog X.w H s.heap a (.dK kvs)from I.Bl a _ f)
  obtain⟨o,r,v,g,j,_⟩:=p
  exact PySem.W.kia_one PySem.W.kitx_dict I.Ly ⟨o,g,j.1⟩ e (fun z=>nomatch z) h
 |@dT a kvs f=>
  cases(show u=Value.ref a from d)
  obtain⟨_,_,xs,_,o,r,v,g,j,_⟩:=(show BJ X.prog X.w H s.heap a (.dT kvs)from I.Bl a _ f)
  exact PySem.W.kia_one PySem.W.kitx_dict I.Ly ⟨o,g,j.1⟩ e (fun z=>nomatch z) h
 |@ins a C L fs f l B D k F=>
  cases(show u=Value.ref a from d)
  obtain⟨M,O,_⟩:=Iy I.Bl f
  obtain⟨N,J,_⟩:=O.look
  exact PySem.W.kia_one (PySem.W.kitx_own (l.get _) l.hd B D k F) I.Ly J e (fun z=>nomatch z) h
end
structure Ac (k:Nat) (A:Around):Prop where
 hd:A.handled=none
 dp:A.depth+3*k+5<recursionLimit
 un:A.units+16*k+200<cLine
 gd:A.guards=some []
theorem Ac.mono {j k:Nat} {A:Around} (r:Ac k A) (h:j<=k):Ac j A:=⟨r.hd,by have:=r.dp;lia,by have:=r.un;lia,r.gd⟩
theorem Ac.deeper {k:Nat} {A:Around} (r:Ac (k+1) A) (env:Env):Ac k (A.deeper env):=
 ⟨r.hd,by have:=r.dp;show A.depth+1+3*k+5<_;lia,by have:=r.un;show A.units+3+16*k+200<_;lia,r.gd⟩
theorem Ac.depth {k:Nat} {A:Around} (r:Ac k A):A.depth<recursionLimit:=by have:=r.dp;lia
theorem Ac.units {k:Nat} {A:Around} (r:Ac k A):A.units+64<cLine:=by have:=r.un;lia
theorem Ac.GX {k:Nat} {A:Around} (r:Ac k A):A.units<cLine:=by have:=r.un;lia
def PB:TA:=fun _ H Q=>Q [] H
def Dp (b:TE) (tr:TA):TA:=fun a H Q=>b a H fun x c=>tr a c fun xs d=>Q (x::xs) d
section
variable{X:Cx} {e:Expr} {es:List Expr} {te:TE} {t:TA} {pos:Pos}
theorem AB:PA X [] PB:=fun _ _ _ _ H Q I h=>Calls.spliced_nil ⟨[],H,I,.nil,h⟩
theorem AA (c:PE X e te) (d:PA X es t) (hs:starEach (e::es) X.env=(false,eval e X.env)::starEach es X.env:=by rfl):PA X (e::es) (Dp te t):=by
 intro pos pins s b H Q I h
 rw[hs]
 show wpAny _ _ (spliced ((false,eval e X.env)::backTo pos (starEach es X.env))) _ _ s
 refine Calls.spliced_cons (BX (c pins s b H _ I h) fun u f a=>a.elim fun x g i j k=>?_)
 exact BX (d pos pins f b g _ i k) fun p q a=>a.elim fun xs l m n o=>⟨x::xs,l,m,.cons j n,o⟩
def UN (t:TA):TE:=fun b H Q=>t b H fun xs a=>xs.length<=sizeLine/\∀p,a p=none->Q (.ref p) (upd a p (.tup xs))
def fw (t:TA):TE:=fun b H Q=>t b H fun xs a=>xs.length<=sizeLine/\∀p,a p=none->Q (.ref p) (upd a p (.lst xs))
theorem A' {f} (h:PA X es t):PE X (.Tuple es f pos) (UN t):=by
 intro pins s g H Q I i
 refine wpAny_Tuple_spliced (BX (h pos pins s g H _ I i) fun j a ⟨xs,c,d,r,z,q⟩=>⟨by rw[<-r.length];exact z,?_⟩)
 have k:c a.heap.objs.size=none:=d.Bl.fresh (Nat.le_refl _)
 refine⟨.ref a.heap.objs.size,upd c a.heap.objs.size (.tup xs),d.laid (t':=a.toks) (fun b u e=>Heap.get?_push_of_some _ e) (Nat.le_refl _) ?_,rfl,q _ k⟩
 exact⟨z,j,r,⟨_,Heap.get?_push_size _ rfl,rfl,_,rfl⟩⟩
theorem EI (h:PA X es t):PE X (.List es pos) (fw t):=by
 intro pins s f H Q I g
 refine wpAny_List_spliced (BX (h pos pins s f H _ I g) fun i a ⟨xs,c,d,r,z,q⟩=>⟨by rw[<-r.length];exact z,?_⟩)
 have j:c a.heap.objs.size=none:=d.Bl.fresh (Nat.le_refl _)
 refine⟨.ref a.heap.objs.size,upd c a.heap.objs.size (.lst xs),d.laid (t':=a.toks) (fun b u e=>Heap.get?_push_of_some _ e) (Nat.le_refl _) ?_,rfl,q _ j⟩
 exact⟨z,i,0,r,Heap.get?_push_size _ rfl⟩
end
abbrev Sp:=List V->Hp->VK->XK->Prop
abbrev NZ:=List Env->Hp->Shared->XK->Value->Shared->Prop
structure UO (P:Program) (w:World) (K:ACH) (mg:Str->Option Value) (base:Heap) (A:Around) (outer:List Env) (s:Shared) (H:Hp):Prop where
 frames:A.frames=some outer
 mod:Mod K mg base
 bs:∀b o,base.get? b=some o->s.heap.get? b=some o/\H b=none
 XY:base.objs.size<=s.heap.objs.size
 JN:s.heap.FunFrames base outer
 eU:∀b∈Tn outer,H b=none
 Bl:GQ P w H s.heap
 bare:AllBare s.gens
inductive CE (outer:List Env) (P:Program) (w:World) (H:Hp) (s:Shared) (Q:VK) (u:Value) (a:Shared):Prop
 |mk (v:V) (b:Hp) (os:a.os=s.os) (bare:AllBare a.gens) (un:Un (Tn outer) [] H b s.heap a.heap) (c:GQ P w b a.heap) (r:RelV v u) (q:Q v b):CE outer P w H s Q u a
def CR (CX:NZ) (outer:List Env) (P:Program) (w:World) (H:Hp) (s:Shared) (Q:VK) (E:XK) (r:Result) (a:Shared):Prop:=
 match r with
 | .ok (.ret u)=>CE outer P w H s Q u a
 | .ok _=>False
 | .error e=>CX outer H s E e a
structure BG (P:Program) (w:World) (K:ACH) (mg:Str->Option Value) (base:Heap) (CX:NZ) (k:Nat) (f:Addr) (fd:FuncData) (ps:List Str) (sp:Sp):Prop where
 len:∀vs H Q E,sp vs H Q E->vs.length=ps.length
 run:∀(A:Around) (outer:List Env) (s:Shared) (H:Hp) (args:Args) (us:List Value) (vs:List V) (Q:VK) (E:XK),Ac k A->UO P w K mg base A outer s H->BindsTo s fd args (ps.zip us)->Vals vs us->sp vs H Q E->
  codeAny (model P w) A (.call (.ref f) args) (CR CX outer P w H s Q E) s
theorem BG.imp {P:Program} {w:World} {K:ACH} {mg:Str->Option Value} {base:Heap} {CX:NZ} {k:Nat} {f:Addr} {b:FuncData} {ps:List Str} {sp a:Sp} (F:BG P w K mg base CX k f b ps sp)
  (h:∀vs H Q E,a vs H Q E->sp vs H Q E):BG P w K mg base CX k f b ps a:=
 ⟨fun vs H Q E q=>F.len vs H Q E (h _ _ _ _ q),fun A outer s H args c vs Q E d e g i j=>F.run A outer s H args c vs Q E d e g i (h _ _ _ _ j)⟩
section
variable{X:Cx} {pins:List (Addr×Obj)} {σ:St} {H:Hp} {s s':Shared}
theorem Inv.ku (I:Inv X pins σ H s):UO X.prog X.w X.K X.mg X.base X.A X.stack s H:=
 ⟨I.ok.frames,I.ok.mod,I.bs,Nat.le_trans I.ok.XY I.sz,I.stack,I.L_,I.Bl,I.bare⟩
theorem Inv.after {Q:VK} {u:Value} (I:Inv X pins σ H s) (h:CE X.stack X.prog X.w H s Q u s'):EP X pins σ Q u s':=by
 obtain⟨v,e,os,bare,un,a,r,q⟩:=h
 obtain⟨f,g,d,t,c⟩:=s'
 obtain rfl:c=s.os:=os
 exact⟨v,e,I.call (h':=f) (g':=g) (d':=d) (t':=t) (ch:=[]) un a bare (fun b z=>absurd z (by simp)),r,q⟩
end
def Za (sp:Sp) (a:List V) (E:XK) (t:TA):TE:=fun b H Q=>t b H fun c d=>sp (c++a) d Q E
def Binds (K:ACH) (c:FuncData) (ps:List Str) (b:List Value):Prop:=
 ∀(s:Shared) (a:List Value),K.In s.heap->(a++b).length=ps.length->BindsTo s c ⟨a,[]⟩ (ps.zip (a++b))
theorem Binds.all {K:ACH} {a:FuncData} {ps:List Str} (h:∀us:List Value,us.length=ps.length->bindArgs a ⟨us,[]⟩=pure (ps.zip us)):Binds K a ps []:=fun s us _ b=>by
 rw[List.append_nil]at b⊢
 exact .of_eq (h us b)
def Passes (CX:NZ) (X:Cx) (E:XK):Prop:=∀(pins:List (Addr×Obj)) (b:St) (H:Hp) (s:Shared) (e:Value) (a:Shared),Inv X pins b H s->CX X.stack H s E e a->X.xe e a
section
variable{X:Cx} {CX:NZ} {k:Nat} {f C:Addr} {fd:FuncData} {ps:List Str} {sp:Sp} {Zb:List V} {ds:List Value} {E:XK} {x m:Str} {p pos apos:Pos} {e o:Expr} {es:List Expr} {ta:TE} {t:TA}
theorem bF {pins:List (Addr×Obj)} {σ:St} {H:Hp} {s:Shared} {Q:VK} {us:List Value} {vs:List V} (F:BG X.prog X.w X.K X.mg X.base CX k f fd ps sp) (c:Ac k X.A) (d:Binds X.K fd ps ds) (g:Vals Zb ds) (i:Passes CX X E)
  (I:Inv X pins σ H s) (r:Vals vs us) (h:sp (vs++Zb) H Q E):wpAny (model X.prog X.w) X.A (call (.ref f) us) (EP X pins σ Q) X.xe s:=by
 have b:Vals (vs++Zb) (us++ds):=r.append g
 have j:(us++ds).length=ps.length:=by rw[<-b.length];exact F.len _ _ _ _ h
 refine wpAny_call (codeAny_mono (F.run X.A X.stack s H ⟨us,[]⟩ (us++ds) (vs++Zb) Q E c I.ku (d s us I.Ly j) b h) fun r l a=>?_)
 cases r with
 |error e=>exact i pins σ H s e l I a
 |ok n=>
  cases n with
  |ret u=>exact I.after a
  |next=>exact False.elim a
  |brk=>exact False.elim a
  |cont=>exact False.elim a
theorem AG (F:BG X.prog X.w X.K X.mg X.base CX k f fd ps sp) (d:Ac k X.A) (g:Gl X x) (i:X.mg x=some (.ref f)) (j:PySem.W.keepIn X.K (.ref f)=true) (l:Binds X.K fd ps ds) (n:Vals Zb ds) (u:Passes CX X E)
  (v:PA X (e::es) t) (a:(x==("__debug__":Str))=false:=by decide) (y:starEach (e::es) X.env=(false,eval e X.env)::starEach es X.env:=by rfl) (b:(backTo pos (starEach es X.env)).any (·.1)=false:=by rfl):
  PE X (.Call (.Name x p) (e::es) [] pos) (Za sp Zb E t):=by
 intro pins s z H Q I h
 refine wpAny_Call_Name_kw (Qj I g i ?_ a)
 refine PySem.W.callWith_K (h₀:=X.base) I.ok.mod.kT j (BX (v pos pins s z H _ I h) fun D G B=>B.elim fun J L c r q=>⟨c.Ly,?_⟩) y b
 exact bF F d l n u c r q
structure Mk (K:ACH) (C f:Addr):Prop where
 makes:PySem.W.makesIn K C=true
 init:PySem.W.findIn K (.ref C) "__init__"=some (some (.ref f))
 fn:PySem.W.isFn K (.ref f)=true
 kp:PySem.W.keepIn K (.ref C)=true
end
section
variable{X:Cx} {CX:NZ} {k:Nat} {f C:Addr} {fd:FuncData} {ps ks:List Str} {sp:Sp} {E:XK} {x m:Str} {p pos apos yL:Pos} {e o:Expr} {es:List Expr} {kws:List Keyword} {te ta:TE} {t tk:TA} {nm:Option Str}
structure kx (K:ACH) (fd:FuncData) (ps ks:List Str) (g:List Value->List Value->List Value) (gV:List V->List V->List V):Prop where
 to:∀(s:Shared) (us ws:List Value),K.In s.heap->(g us ws).length=ps.length->BindsTo s fd ⟨us,ks.zip ws⟩ (ps.zip (g us ws))
 rel:∀{vs:List V} {us:List Value} {zs:List V} {ws:List Value},Vals vs us->Vals zs ws->Vals (gV vs zs) (g us ws)
variable{g:List Value->List Value->List Value} {gV:List V->List V->List V}
end
structure Aa (N P:List Str) (sc:Scope):Prop where
 kind:sc.kind=.function
 co:sc.isCoroutine=false
 gen:sc.isGenerator=false
 nd:N.Nodup
 pre:N.take P.length=P
 par:∀x∈P,sc.names.lookup x=some .local∨sc.names.lookup x=some .cell
 bG:∀y∈sc.names,y.2≠.free
theorem K' {kindOf:Str->Option NameKind} {x:Str}:∀{binds:List (Str×Value)} {m:Str->Option Value},(∀v,(x,v)∉binds)->bindL kindOf binds m x=m x
 |[],_,_=>rfl
 |(n,v)::r,m,h=>by
  unfold bindL
  rw[K' fun w hw=>h w (List.mem_cons_of_mem _ hw)]
  split
  ·have:x≠n:=by rintro rfl;exact h v List.mem_cons_self
   simp[this]
  ·rfl
theorem LA {kindOf:Str->Option NameKind} {x:Str}:∀{binds:List (Str×Value)} {m:Str->Option Value},(∀v,(x,v)∉binds)->bindC kindOf binds m x=m x
 |[],_,_=>rfl
 |(n,v)::r,m,h=>by
  unfold bindC
  rw[LA fun w hw=>h w (List.mem_cons_of_mem _ hw)]
  split
  ·rfl
  ·have:x≠n:=by rintro rfl;exact h v List.mem_cons_self
   simp[this]
theorem LB {kindOf:Str->Option NameKind} {x:Str} {v:Value}:∀{P:List Str} {vs:List Value} {i:Nat} {m:Str->Option Value},P.Nodup->P[i]?=some x->vs[i]?=some v->kindOf x=some .local->
  bindL kindOf (P.zip vs) m x=some v
 |[],_,_,_,_,h,_,_=>by simp at h
 |_::_,[],_,_,_,_,h,_=>by simp at h
 |p::P,w::vs,0,m,c,a,b,d=>by
  simp at a b;subst a;subst b
  show bindL kindOf ((p,w)::P.zip vs) m p=_
  unfold bindL
  rw[K' fun v e=>(List.nodup_cons.mp c).1 (List.of_mem_zip e).1,if_pos d]
  simp
 |p::P,w::vs,i+1,m,c,a,b,d=>by
  show bindL kindOf ((p,w)::P.zip vs) m x=_
  unfold bindL
  exact LB (i:=i) (List.nodup_cons.mp c).2 (by simpa using a) (by simpa using b) d
theorem LC {kindOf:Str->Option NameKind} {x:Str} {v:Value}:∀{P:List Str} {vs:List Value} {i:Nat} {m:Str->Option Value},P.Nodup->P[i]?=some x->vs[i]?=some v->kindOf x≠some .local->
  bindC kindOf (P.zip vs) m x=some v
 |[],_,_,_,_,h,_,_=>by simp at h
 |_::_,[],_,_,_,_,h,_=>by simp at h
 |p::P,w::vs,0,m,c,a,b,d=>by
  simp at a b;subst a;subst b
  show bindC kindOf ((p,w)::P.zip vs) m p=_
  unfold bindC
  rw[LA fun v e=>(List.nodup_cons.mp c).1 (List.of_mem_zip e).1,if_neg d]
  simp
 |p::P,w::vs,i+1,m,c,a,b,d=>by
  show bindC kindOf ((p,w)::P.zip vs) m x=_
  unfold bindC
  exact LC (i:=i) (List.nodup_cons.mp c).2 (by simpa using a) (by simpa using b) d
def start (N:List Str) (vs:List V):St:=vs.map some++List.replicate (N.length-vs.length) none
def R' (CX:NZ) (P:Program) (w:World) (K:ACH) (mg:Str->Option Value) (base:Heap) (N:List Str) (qual:Str) (scope:Scope) (f:Addr) (cd:Value) (A:Around) (outer:List Env) (s:Shared) (H:Hp) (E:XK):Cx where
 prog:=P
 w:=w
 K:=K
 mg:=mg
 base:=base
 A:=A.deeper (envOfC qual scope s.heap.objs.size f cd)
 N:=N
 s₀:=s
 H₀:=H
 env:=envOfC qual scope s.heap.objs.size f cd
 outer:=outer
 stack:=envOfC qual scope s.heap.objs.size f cd::outer
 ex:=[]
 calm:=true
 fn:=fun _=>true
 pn:=[]
 xe:=fun e s'=>wpAny (model P w) (A.deeper (envOfC qual scope s.heap.objs.size f cd)) (leaving (envOfC qual scope s.heap.objs.size f cd) e) (fun _ jq=>CX outer H s E e jq) (fun e' jq=>CX outer H s E e' jq) s'
theorem Na {a:Scope} {n:Nat} {x:Str} (h:a.names.lookup x=some .cell):∃c,(cellsFrom n a.names []).lookup x=some c:=by
 have q:=PySem.W.cellsFrom_some a.names n [] (.inl h)
 exact Option.isSome_iff_exists.mp q
theorem SA {CX:NZ} {P:Program} {w:World} {K:ACH} {mg:Str->Option Value} {base:Heap} {N ps:List Str} {qual:Str} {scope:Scope} {f:Addr} {t:Value} {A:Around} {outer:List Env} {s D:Shared} {H:Hp} {E:XK} {us:List Value} {vs:List V}
  (S:Aa N ps scope) (I:A.handled=none) (g:UO P w K mg base A outer s H) (O:vs.length=ps.length) (r:Vals vs us)
  (x:InCallC s s.heap.objs.size (bindL (envOfC qual scope s.heap.objs.size f t).kindOf (ps.zip us) fun _=>none) (cellsFrom (s.heap.objs.size+1) scope.names []) (bindC (envOfC qual scope s.heap.objs.size f t).kindOf (ps.zip us) fun _=>none) D):
  Inv (R' CX P w K mg base N qual scope f t A outer s H E) [] (start N vs) H D:=by
 have J:ps.length<=N.length:=by have:=congrArg List.length S.pre;rw[List.length_take]at this;lia
 obtain⟨B,Q,rfl,F⟩:=x.done
 have j:∀b:Addr,b∉(R' CX P w K mg base N qual scope f t A outer s H E).ex:=fun b z=>absurd (show b∈([]:List Addr)from z) (by simp)
 refine⟨⟨g.mod,S.kind,rfl,rfl,Nat.le_refl _,fun y z c B d=>?_,fun y l=>?_,fun y c _ h=>?_,fun _=>I,Around.frames_deeper g.frames,.inr ⟨rfl,rfl⟩,fun b z=>absurd z (j b),g.bs,g.XY,fun b _ _=>j b,fun b z=>absurd z (j b),g.JN,g.eU⟩,
  rfl,g.bare,Un.kept F,⟨_,x.toInCall.ns,fun i y v B d R=>?_⟩,fun y c h=>⟨_,x.cell y c h⟩,g.Bl.fresh (Nat.le_refl _),fun y c h=>?_,fun p m=>absurd (show p∈([]:List (Addr×Obj))from m) (by simp),g.Bl.kept F,?_⟩
 ·exact name_of_addr x.apart (PySem.mem_of_lookup B) (PySem.mem_of_lookup d)
 ·have l:scope.names.lookup y=some .cell∨scope.names.lookup y=some .free:=l
  rcases l with l|l
  ·exact Na l
  ·exact absurd rfl (S.bG _ (PySem.mem_of_lookup l))
 ·exact Nat.le_of_lt (x.above y c (PySem.mem_of_lookup h))
 ·have C:i<vs.length:=by
   unfold start at d
   by_cases C:i<vs.length
   ·exact C
   ·rw[List.getElem?_append_right (by simpa using C)]at d
    rw[List.getElem?_replicate]at d
    split at d<;>cases d
  have L:vs[i]?=some v:=by
   unfold start at d
   rw[List.getElem?_append_left (by simpa using C),List.getElem?_map]at d
   cases e:vs[i]? with
   |none=>rw[e]at d;cases d
   |some a=>rw[e]at d;cases d;rfl
  obtain⟨u,G,M⟩:=r.get L
  have m:ps[i]?=some y:=by
   rw[<-S.pre,List.getElem?_take_of_lt (by lia)];exact B
  have o:ps.Nodup:=by rw[<-S.pre];exact S.nd.sublist (List.take_sublist _ _)
  refine⟨u,M,?_⟩
  rcases S.par y (ACG m)with k|k
  ·exact .inl ⟨k,LB o m G k⟩
  ·obtain⟨c,e⟩:=Na (n:=s.heap.objs.size+1) k
   refine .inr ⟨.inl k,c,e,?_⟩
   have q:=x.cell y c e
   rw[LC o m G (by show scope.names.lookup y≠_;rw[k];decide)]at q
   exact q
 ·exact g.Bl.fresh (Nat.le_of_lt (x.above y c (PySem.mem_of_lookup h)))
 ·unfold start
  show _=N.length
  rw[List.length_append,List.length_map,List.length_replicate]
  lia
theorem fz {CX:NZ} {P:Program} {w:World} {K:ACH} {mg:Str->Option Value} {base:Heap} {k:Nat} {f:Addr} {name qual:Str} {params:Arguments} {body:List Stmt} {scope:Scope} {F kV doc G a ct R:Value} {L T:Option Addr}
  {m:Array (Option Value)} {N ps:List Str} {sp:Sp} (lk:K.lookup f=some ⟨R,T,.func (PySem.W.fnOf name qual params body scope F kV doc G L a ct),m⟩) (p:PySem.W.codeIn K a qual=true) (S:Aa N ps scope)
  (len:∀vs H Q E,sp vs H Q E->vs.length=ps.length)
  (g:∀(A:Around) (outer:List Env) (s:Shared) (H:Hp) (vs:List V) (Q:VK) (E:XK),Ac k (A.deeper (envOfC qual scope s.heap.objs.size f a))->sp vs H Q E->
   ∃t,Rq (R' CX P w K mg base N qual scope f a A outer s H E) body t/\t {nx:=fun _ d=>Q .Ao d,rt:=Q} (start N vs) H):
  BG P w K mg base CX (k+1) f (PySem.W.fnOf name qual params body scope F kV doc G L a ct) ps sp:=by
 refine⟨len,fun A outer s H args U vs Q E z j X r l=>?_⟩
 have Y:=len _ _ _ _ l
 have M:K.In s.heap:=j.mod.kT.keeps fun b o e=>(j.bs b o e).1
 have B:s.heap.NoLimit:=j.mod.nolimit.keeps fun b o e=>(j.bs b o e).1
 have h:∀y∈ps.zip U,scope.names.lookup y.1=some .local∨(scope.names.lookup y.1=some .cell/\((cellsFrom (s.heap.objs.size+1) scope.names []).lookup y.1).isSome=true):=fun⟨n,v⟩ Z=>by
  rcases S.par n (List.of_mem_zip Z).1 with q|q
  ·exact .inl q
  ·exact .inr ⟨q,PySem.W.cellsFrom_some _ _ _ (.inl q)⟩
 refine codeAny_call_function z.depth (M _ _ lk) rfl S.co S.gen rfl (PySem.W.codeRec_of M p) (X _ _ _ _ ?_)
 refine wpAny_newFunctionEnv_cells S.kind h fun env he O x=>?_
 subst he
 refine⟨B.keeps x.toInCall.keep,codeAny_func ?_⟩
 obtain⟨t,ht,hq⟩:=g A outer s H vs Q E (z.deeper _) l
 have I:Inv (R' CX P w K mg base N qual scope f a A outer s H E) [] (start N vs) H O:=SA S z.hd j Y r x
 refine wpAny_mono (ht [] O (start N vs) H _ I hq) (fun fl C i=>?_) fun e C i=>i
 have fin:∀{c:St} {d:Hp} {v:V} {u:Value},Inv (R' CX P w K mg base N qual scope f a A outer s H E) [] c d C->RelV v u->Q v d->CE outer P w H s Q u C:=
  fun{c d v u} J D q=>⟨v,d,J.os,J.bare,J.base,J.Bl,D,q⟩
 cases fl with
 |ret u=>
  obtain⟨v,c,d,J,D,q⟩:=i
  exact fin J D q
 |next=>
  obtain⟨c,d,J,q⟩:=i
  exact fin (v:=V.Ao) (u:=Value.none) J rfl q
 |brk=>
  obtain⟨_,_,_,q⟩:=i
  exact False.elim q
 |cont=>
  obtain⟨_,_,_,q⟩:=i
  exact False.elim q
section
variable{X:Cx} {x:Str} {p pos:Pos} {e:Expr} {es:List Expr} {t:TA} {id T:String} {r:List V->Hp->VK->Prop}
def wJ (r:List V->Hp->VK->Prop) (t:TA):TE:=fun a H Q=>t a H fun b c=>r b c Q
theorem Ad (d:Dz X (.builtin id) r) (f:Gl X x) (g:X.mg x=none) (i:bootBuiltins x=some (.builtin id)) (j:PA X (e::es) t) (k:x≠"__name__":=by decide) (a:(x==("__debug__":Str))=false:=by decide)
  (l:starEach (e::es) X.env=(false,eval e X.env)::starEach es X.env:=by rfl) (b:(backTo pos (starEach es X.env)).any (·.1)=false:=by rfl):PE X (.Call (.Name x p) (e::es) [] pos) (wJ r t):=by
 intro pins s c H Q I h
 refine wpAny_Call_Name_kw (Hh I f g i ?_ k a)
 exact PyProof.Rows.callWith_builtin1 (BX (j pos pins s c H _ I h) fun m n o=>o.elim fun q u v w y=>d pins n c u q m Q v w y) l b
theorem C' (d:Dz X (.type T) r) (f:Gl X x) (g:X.mg x=none) (i:bootBuiltins x=some (.type T)) (j:PA X (e::es) t) (k:x≠"__name__":=by decide) (a:(x==("__debug__":Str))=false:=by decide)
  (l:starEach (e::es) X.env=(false,eval e X.env)::starEach es X.env:=by rfl) (b:(backTo pos (starEach es X.env)).any (·.1)=false:=by rfl):PE X (.Call (.Name x p) (e::es) [] pos) (wJ r t):=by
 intro pins s c H Q I h
 refine wpAny_Call_Name_kw (Hh I f g i ?_ k a)
 exact PyProof.Rows.callWith_type1 (BX (j pos pins s c H _ I h) fun m n o=>o.elim fun q u v w y=>d pins n c u q m Q v w y) l b
end
end L2
namespace HT
open PySem PyProof.Rows
def lexLt:List Int->List Int->Bool
 |[],[]=>false
 |[],_::_=>true
 |_::_,[]=>false
 |x::xs,y::ys=>if x=y then lexLt xs ys else decide (x<y)
section
open PySem.SeqAt
open PySem.AutoSeq1 (wpAny_loadPart')
open PySem.MeetsSeq PySem.MeetsSeq2 PySem.MeetsSeq3
end
section
variable{prog:Program} {w:World} {A:Around} {E:Value->Shared->Prop} {s:Shared}
theorem Xq {t b:Addr} {vs ws:List Value} {Q:Value->Shared->Prop} (r:IsTup s.heap t vs.toArray) (u:IsTup s.heap b ws.toArray) (j:vs≠[])
  (v:ws=[]->Q (.ref t) s) (x:ws≠[]->Q (.ref s.heap.objs.size) {s with heap:=s.heap.push {cls:=.type "tuple",data:=.seq (vs++ws).toArray}})
  (i:vs.length+ws.length<=sizeLine):wpAny (model prog w) A (binaryOp .Add (.ref t) (.ref b)) Q E s:=by
 obtain⟨⟨cls,k,data,l⟩,h,m,n,o⟩:=id r
 obtain⟨⟨p,c,data2,d⟩,a,f,q,g⟩:=id u
 simp only at m o f g
 subst m o f g
 have e:vs.toArray++ws.toArray=(vs++ws).toArray:=by simp
 by_cases hw:ws=[]
 ·exact concat_meets ⟨_,h,rfl⟩ ⟨_,a,rfl⟩ noFill_tuple_add seq_tuple_add PySem.F.slot_tuple_add PySem.F.entry_tuple_add (PySem.F.args_tuple_add_2 _ _)
   (tuple_addW1 t b vs.toArray ws.toArray n q k c l d (by simpa using j) (by simp[hw])) ⟨h,a,v hw⟩
 ·refine concat_meets ⟨_,h,rfl⟩ ⟨_,a,rfl⟩ noFill_tuple_add seq_tuple_add PySem.F.slot_tuple_add PySem.F.entry_tuple_add (PySem.F.args_tuple_add_2 _ _)
   (tuple_addW2 t b vs.toArray ws.toArray n q k c l d (by simpa using j) (by simpa using hw) (by rw[List.size_toArray,List.size_toArray];exact i)) ⟨h,a,?_⟩
  rw[e]
  exact x hw
def CZ (n d:Nat):Option Int->Nat
 |none=>d
 |some v=>if v<0 then(v+(n:Int)).toNat else min v.toNat n
theorem Nb (n d:Nat):CZ n d none=d:=rfl
theorem Qp (n d k:Nat):CZ n d (some (k:Int))=min k n:=by
 show(if(k:Int)<0 then((k:Int)+(n:Int)).toNat else min (k:Int).toNat n)=min k n
 rw[if_neg (by lia),Int.toNat_natCast]
theorem bH (n d:Nat) (b:d<=n) (o:Option Int):CZ n d o<=n:=by
 cases o with
 |none=>exact b
 |some v=>
  show(if v<0 then(v+(n:Int)).toNat else min v.toNat n)<=n
  by_cases a:v<0
  ·rw[if_pos a];lia
  ·rw[if_neg a];exact Nat.min_le_right _ _
theorem Qq (v:Int) (n d:Nat):(if v<0 then max (v+(n:Int)) 0 else min v (n:Int))=((CZ n d (some v):Nat):Int):=by
 show(if v<0 then max (v+(n:Int)) 0 else min v (n:Int))=(((if v<0 then(v+(n:Int)).toNat else min v.toNat n):Nat):Int)
 by_cases a:v<0
 ·simp only[if_pos a];exact(Int.toNat_eq_max _).symm
 ·simp only[if_neg a]
  obtain⟨m,rfl⟩:=Int.eq_ofNat_of_zero_le (Int.not_lt.mp a)
  show min (m:Int) (n:Int)=((min m n:Nat):Int)
  by_cases h:m<=n
  ·rw[Nat.min_eq_left h,Int.min_eq_left (Int.ofNat_le.mpr h)]
  ·rw[Nat.min_eq_right (Nat.le_of_not_le h),Int.min_eq_right (Int.ofNat_le.mpr (Nat.le_of_not_le h))]
theorem PD (lo a:Option Int) (n:Nat):Builtin.Slice.sliceAdjust lo a 1 (n:Int)=(((CZ n 0 lo:Nat):Int),((CZ n n a:Nat):Int)):=by
 have b:¬((1:Int)<0):=by lia
 unfold Builtin.Slice.sliceAdjust
 simp only[b,if_false]
 refine Prod.ext ?_ ?_
 ·cases lo with
  |none=>rfl
  |some v=>exact Qq v n 0
 ·cases a with
  |none=>rfl
  |some v=>exact Qq v n n
theorem PF (i j:Nat):Builtin.Slice.slicePlaces (i:Int) (j:Int) 1=j-i:=by
 unfold Builtin.Slice.slicePlaces
 have a:(1:Int)>0:=by lia
 simp only[a,if_true,Int.ediv_one]
 split<;>lia
theorem JV {v:Value} {o:Option Int} {Q:Option Int->Shared->Prop} (p:IsPart v o) (h:Q o s):wpAny (model prog w) A (Builtin.Slice.slicePartIndex v) Q E s:=by
 cases p with
 |none=>exact slicePart_none h
 |int i t=>exact slicePart_int h
theorem EV {f:Addr} {d e:Value} {lo a:Option Int} {n:Nat} {Q:Int×Int×Nat->Shared->Prop} (hs:s.heap.IsSliceOf f d e .none) (pl:IsPart d lo) (g:IsPart e a)
  (h:Q (((CZ n 0 lo:Nat):Int),1,CZ n n a-CZ n 0 lo) s):wpAny (model prog w) A (Builtin.Slice.sliceApplied (.ref f) (pure (n:Int))) Q E s:=by
 obtain⟨os,b,i,c⟩:=id hs
 unfold Builtin.Slice.sliceApplied Builtin.Slice.sliceFields
 refine wpAny_bind (wpAny_bind (wpAny_field b c (x:=d) rfl (wpAny_bind (wpAny_field b c (x:=e) rfl (wpAny_bind (wpAny_field b c (x:=.none) rfl (wpAny_pure ?_)))))))
 refine wpAny_bind (slicePart_none ?_)
 show wpAny _ _ (if((1:Int)==0)=true then _ else _) _ _ s
 rw[if_neg (by decide)]
 refine wpAny_bind (JV pl (wpAny_bind (JV g (wpAny_bind (wpAny_pure ?_)))))
 show wpAny _ _ (match Builtin.Slice.sliceAdjust lo a 1 (n:Int)with|(lo,a)=>pure (lo,(1:Int),Builtin.Slice.slicePlaces lo a 1)) _ _ s
 rw[PD lo a n]
 show wpAny _ _ (pure (((CZ n 0 lo:Nat):Int),(1:Int),Builtin.Slice.slicePlaces ((CZ n 0 lo:Nat):Int) ((CZ n n a:Nat):Int) 1)) _ _ s
 rw[PF]
 exact wpAny_pure h
theorem UP (xs:Array Value) (i k:Nat):((List.range k).filterMap fun(m:Nat)=>xs[((i:Int)+(m:Int)*1).toNat]?).toArray=((xs.toList.drop i).take k).toArray:=by
 have e:(fun(m:Nat)=>xs[((i:Int)+(m:Int)*1).toNat]?)=fun m=>xs[i+m]?:=by
  funext m
  have:((i:Int)+(m:Int)*1).toNat=i+m:=by lia
  rw[this]
 rw[e]
 have:=pick_run xs i k
 rw[List.filterMap_map]at this
 have a:((fun x=>xs[x]?)∘fun x=>i+x)=fun m=>xs[i+m]?:=rfl
 rw[a]at this
 rw[this]
theorem Gz {t d:Addr} {items:Array Value} {j k:Value} {lo b:Option Int} {Q:Value->Shared->Prop} (c:IsTup s.heap t items) (hs:s.heap.IsSliceOf d j k .none) (pl:IsPart j lo) (l:IsPart k b)
  (hw:¬(CZ items.size 0 lo=0/\CZ items.size items.size b=items.size))
  (h:Q (.ref s.heap.objs.size) {s with heap:=s.heap.push {cls:=.type "tuple",data:=.seq ((items.toList.drop (CZ items.size 0 lo)).take (CZ items.size items.size b-CZ items.size 0 lo)).toArray}})
  (n:items.size<=sizeLine):wpAny (model prog w) A (getItem (.ref t) (.ref d)) Q E s:=by
 have a:sizeOk (.seq ((items.toList.drop (CZ items.size 0 lo)).take (CZ items.size items.size b-CZ items.size 0 lo)).toArray):=by
  show((items.toList.drop (CZ items.size 0 lo)).take (CZ items.size items.size b-CZ items.size 0 lo)).toArray.size<=sizeLine
  rw[List.size_toArray,List.length_take,List.length_drop,Array.length_toList]
  lia
 have p:CZ items.size items.size b<=items.size:=bH _ _ (Nat.le_refl _) b
 obtain⟨os,e,f,o⟩:=id hs
 have g:s.TypeIs (.ref d) "slice":=⟨os,e,f⟩
 unfold getItem
 try with_reducible refine wpAny_holding ?_
 first|refine wpAny_bind (wpAny_pure ?_)|skip
 refine wpAny_bind (wpAny_sequenceKey c.typeIs (by decide) ?_)
 refine wpAny_bind (wpAny_callSpecial?_slot (name:=Str.ofString "__getitem__") c.typeIs PyProof.Rows.slot_tuple_getitem
  (wpAny_call_entry PyProof.Rows.slot_tuple_getitem c.typeIs entry_tuple_getitem ?_ (args_tuple_getitem _ _)))
 show wpAny _ _ (Builtin.Tuple.tupleItemsOf (.ref t)>>=_) _ _ s
 refine wpAny_bind (tupleItemsOf_ c ?_)
 refine wpAny_bind (wpAny_typeOf g ?_)
 rw[if_pos (by decide)]
 refine wpAny_bind (EV hs pl l ?_)
 have i:¬((((CZ items.size 0 lo:Nat):Int)==0&&(1:Int)==1&&(CZ items.size items.size b-CZ items.size 0 lo)==items.size)=true):=by
  intro q
  rw[Bool.and_eq_true,Bool.and_eq_true]at q
  have r:((CZ items.size 0 lo:Nat):Int)=0:=eq_of_beq q.1.1
  have u:CZ items.size items.size b-CZ items.size 0 lo=items.size:=eq_of_beq q.2
  exact hw ⟨by lia,by lia⟩
 show wpAny _ _ (if(((CZ items.size 0 lo:Nat):Int)==0&&(1:Int)==1&&(CZ items.size items.size b-CZ items.size 0 lo)==items.size)=true then _ else _) _ _ s
 rw[if_neg i,UP]
 first
  |exact wpAny_bind (m:=Builtin.Tuple.tupleExact _) (wpAny_newObj_type (wpAny_pure ⟨_,rfl,wpAny_pure h⟩) a)
  |exact wpAny_bind (m:=Builtin.Tuple.tupleExact _) (wpAny_newObj_type (wpAny_bind (wpAny_pure (wpAny_pure ⟨_,rfl,wpAny_pure h⟩))) a)
  |exact wpAny_bind (wpAny_bind (m:=Builtin.Tuple.tupleExact _) (wpAny_newObj_type (wpAny_pure (wpAny_pure ⟨_,rfl,wpAny_pure h⟩)) a))
  |exact wpAny_bind (wpAny_bind (m:=Builtin.Tuple.tupleExact _) (wpAny_newObj_type (wpAny_pure ⟨_,rfl,wpAny_pure h⟩) a))
end
end HT
namespace L2
open PySem PySem.Spec PyProof.Rows
abbrev TO:=St->Hp->(Option Int->Hp->Prop)->Prop
def PO (X:Cx) (e:Option Expr) (t:TO):Prop:=
 ∀(pins:List (Addr×Obj)) (s:Shared) (a:St) (H:Hp) (Q:Option Int->Hp->Prop),Inv X pins a H s->t a H Q->
  wpAny (model X.prog X.w) X.A (evalPart e X.env) (fun u c=>∃o b,Inv X pins a b c/\IsPart u o/\Q o b) X.xe s
def Xr:TO:=fun _ H Q=>Q none H
def f_ (t:TE):TO:=fun a H Q=>t a H fun x b=>wD x b Q
section
variable{X:Cx} {e:Expr} {te:TE} {lo hi:Option Expr} {tl th:TO} {pos p2:Pos}
theorem Bn:PO X none Xr:=by
 intro pins s a H Q I h
 rw[evalPart_none]
 exact wpAny_pure ⟨none,H,I,.none,h⟩
theorem BZ (h:PE X e te):PO X (some e) (f_ te):=by
 intro pins s a H Q I hw
 rw[evalPart_some]
 refine BX (h pins s a H _ I hw) fun u j b=>b.elim fun x c d f g=>?_
 obtain⟨i,rfl,q⟩:=g
 obtain⟨t,rfl⟩:=f
 exact⟨some i,c,d,.int i t,q⟩
def jr (X:Cx) (r:V->Option Int->Option Int->Hp->VK->Prop):Prop:=
 ∀(pins:List (Addr×Obj)) (s:Shared) (a:St) (H:Hp) (x:V) (v b c:Value) (lo hi:Option Int) (d:Addr) (Q:VK),Inv X pins a H s->RelV x v->s.heap.IsSliceOf d b c .none->IsPart b lo->IsPart c hi->r x lo hi H Q->
  ∃T id,typeLookup (.type T) "__getitem__"=pure (some (.builtin id))/\s.TypeIs v T/\wpAny (model X.prog X.w) X.A (getItem v (.ref d)) (EP X pins a Q) X.xe s
def yM (r:V->Option Int->Option Int->Hp->VK->Prop) (te:TE) (tl th:TO):TE:=fun a H Q=>te a H fun x b=>tl a b fun l c=>th a c fun u d=>r x l u d Q
theorem BK {r:V->Option Int->Option Int->Hp->VK->Prop} (i:jr X r) (j:PE X e te) (k:PO X lo tl) (m:PO X hi th):PE X (.Subscript e (.Slice lo hi none p2) pos) (yM r te tl th):=by
 intro pins s c H Q I h
 refine Subscript_ (BX (j pins s c H _ I h) fun v n o=>o.elim fun x p t y z=>?_)
 refine wpAny_Slice (BX (k pins n c p _ t z) fun d B ⟨l,C,D,pl,E⟩=>BX (m pins B c C _ D E) fun f a ⟨u,g,F,G,J⟩=>?_)
 rw[evalPart_none]
 refine wpAny_pure ?_
 have K:Inv X pins c g {a with heap:=a.heap.push {cls:=.type "slice",data:=.fields #[d,f,.none]}}:=F.kept (t':=a.toks) fun b O q=>Heap.get?_push_of_some _ q
 obtain⟨T,id,L,M,N⟩:=i pins {a with heap:=a.heap.push {cls:=.type "slice",data:=.fields #[d,f,.none]}} c g x v d f l u a.heap.objs.size Q K y (Heap.IsSliceOf.new ..) pl G J
 show wpAny (model X.prog X.w) X.A (subscriptTail e (.Slice lo hi none p2) v (.ref a.heap.objs.size)) (EP X pins c Q) X.xe {a with heap:=a.heap.push {cls:=.type "slice",data:=.fields #[d,f,.none]}}
 exact tail_any (ops:=[.ref a.heap.objs.size,v]) M L N (by with_unfolding_all rfl)
def FY (xs:List V) (lo hi:Option Int):List V:=(xs.drop (HT.CZ xs.length 0 lo)).take (HT.CZ xs.length xs.length hi-HT.CZ xs.length 0 lo)
theorem Nc (xs:List V) (lo hi:Option Int):(FY xs lo hi).length<=xs.length:=by
 unfold FY
 rw[List.length_take,List.length_drop]
 lia
inductive Zc (K:ACH) (x:V) (lo:Option Int) (hi:Option Int) (H:Hp) (Q:VK):Prop
 |mk (a:_) (xs:_) (b:x=.ref a) (c:Ah K H a xs) (d:¬(HT.CZ xs.length 0 lo=0/\HT.CZ xs.length xs.length hi=xs.length)) (f:∀p,H p=none->Q (.ref p) (upd H p (.tup (FY xs lo hi)))):Zc K x lo hi H Q
def ky (K:ACH):V->Option Int->Option Int->Hp->VK->Prop:=fun x lo hi H Q=>Zc K x lo hi H Q
theorem bJ:jr X (ky X.K):=by
 intro pins s l H x v m n lo hi p Q I g i pl j h
 obtain⟨a,xs,rfl,k,hw,q⟩:=h
 cases g
 obtain⟨c,r,d,f⟩:=I.tuple k
 have hlen:c.toArray.size=xs.length:=by rw[List.size_toArray];exact r.length.symm
 refine⟨"tuple",_,PyProof.Rows.slot_tuple_getitem.lookup,d.typeIs,?_⟩
 refine HT.Gz d i pl j (by rw[hlen];exact hw) ?_ (by rw[hlen];exact f)
 rw[hlen]
 refine⟨.ref s.heap.objs.size,_,I.laid (t':=s.toks) (o:=.tup (FY xs lo hi)) (fun b t q=>Heap.get?_push_of_some _ q) (Nat.le_refl _) ?_,rfl,q _ (I.Bl.fresh (Nat.le_refl _))⟩
 exact⟨Nat.le_trans (Nc xs lo hi) f,_,(r.drop (HT.CZ xs.length 0 lo)).take (HT.CZ xs.length xs.length hi-HT.CZ xs.length 0 lo),IsTup.new _ _⟩
inductive f' (K:ACH) (x:V) (y:V) (H:Hp) (Q:VK):Prop
 |mk (a:_) (b:_) (c:_) (d:_) (f:x=.ref a) (g:y=.ref b) (h:Ah K H a (c.map V.int)) (i:Ah K H b (d.map V.int)) (j:Q (.bl (HT.lexLt c d)) H):f' K x y H Q
inductive UQ (K:ACH) (x:V) (y:V) (H:Hp) (Q:VK):Prop
 |mk (a:_) (b:_) (xs:_) (ys:_) (c:x=.ref a) (d:y=.ref b) (f:Ah K H a xs) (g:Ah K H b ys) (h:xs≠[]) (i:xs.length+ys.length<=sizeLine) (j:(ys=[]->Q (.ref a) H)) (k:(ys≠[]->∀p,H p=none->Q (.ref p) (upd H p (.tup (xs++ys))))):UQ K x y H Q
def gA (K:ACH):R2:=fun x y H Q=>UQ K x y H Q
theorem Vals.Iz {xs:List V} {us:List Value} (r:Vals xs us):us=[]↔xs=[]:=by
 cases r with
 |nil=>simp
 |cons _ _=>simp
theorem Xs:Dy X (binaryOp .Add) (gA X.K):=by
 intro pins s B H x y v u Q I i j h
 obtain⟨a,b,xs,k,rfl,rfl,l,m,n,f,p,r⟩:=h
 cases i
 cases j
 obtain⟨t,d,A,_⟩:=I.tuple l
 obtain⟨g,c,p2,_⟩:=I.tuple m
 refine HT.Xq A p2 (fun z=>n (d.Iz.mp z)) (fun z=>⟨.ref a,H,I,rfl,p (c.Iz.mp z)⟩) (fun z=>?_) (by rw[<-d.length,<-c.length];exact f)
 refine⟨.ref s.heap.objs.size,_,I.laid (t':=s.toks) (o:=.tup (xs++k)) (fun b C q=>Heap.get?_push_of_some _ q) (Nat.le_refl _) ?_,rfl,r (fun w=>z (c.Iz.mpr w)) _ (I.Bl.fresh (Nat.le_refl _))⟩
 exact⟨by rw[List.length_append];exact f,_,d.append c,IsTup.new _ _⟩
inductive JW (K:ACH) (xs:List V) (H:Hp) (Q:VK):Prop
 |mk (a:_) (ys:_) (b:xs=[.ref a]) (c:Ah K H a ys) (d:Q (.ref a) H):JW K xs H Q
end
def SD (n:Nat) (i:Int):Option Nat:=if 0<=i then(if i<n then some i.toNat else none)else if-(n:Int)<=i then some (i+n).toNat else none
def NL {a:Type} (xs:List a) (i:Int):Option a:=(SD xs.length i).bind fun j=>xs[j]?
theorem I_ {n:Nat} {i:Int} {j:Nat} (h:SD n i=some j):seqIndex? i n=some j/\j<n/\ -(n:Int)<=i/\i<n:=by
 unfold SD at h
 by_cases b:0<=i
 ·rw[if_pos b]at h
  by_cases a:i<n
  ·rw[if_pos a]at h
   have e:i.toNat=j:=ACF h
   exact⟨by rw[seqIndex_of b a,e],by lia,by lia,a⟩
  ·rw[if_neg a]at h;cases h
 ·rw[if_neg b]at h
  by_cases a: -(n:Int)<=i
  ·rw[if_pos a]at h
   have e:(i+n).toNat=j:=ACF h
   exact⟨by rw[seqIndex_neg (by lia) a,e],by lia,a,by lia⟩
  ·rw[if_neg a]at h;cases h
theorem G_ {a:Type} {xs:List a} {i:Int} {v:a} (h:NL xs i=some v):∃j,seqIndex? i xs.length=some j/\xs[j]?=some v/\j<xs.length/\ -(xs.length:Int)<=i/\i<xs.length:=by
 unfold NL at h
 cases e:SD xs.length i with
 |none=>rw[e]at h;cases h
 |some j=>
  rw[e]at h
  obtain⟨b,c,d,f⟩:=I_ e
  exact⟨j,b,h,c,d,f⟩
theorem CM {a:Type} {xs:List a} {j:Nat} {v:a} (h:xs[j]?=some v):NL xs (j:Int)=some v:=by
 have b:j<xs.length:=(ACE h).1
 have e:SD xs.length (j:Int)=some j:=by
  unfold SD
  rw[if_pos (by lia),if_pos (by lia)];simp
 unfold NL;rw[e];exact h
theorem Bo {a:Type} (xs:List a) (v:a):NL (xs++[v]) (-1)=some v:=by
 have b:(xs++[v]).length=xs.length+1:=by simp
 have e:SD (xs++[v]).length (-1)=some xs.length:=by
  unfold SD
  rw[b,if_neg (by decide),if_pos (by lia)]
  congr 1
  lia
 unfold NL
 rw[e]
 show(xs++[v])[xs.length]?=some v
 simp
def Xt (b:Expr):Prop:=∀o i,subscripted b false o i=operate [o,i] (getItem o i)
def js (X:Cx) (r:R2):Prop:=
 ∀(value slice:Expr) (pins:List (Addr×Obj)) (s:Shared) (a:St) (H:Hp) (x y:V) (v u:Value) (Q:VK),Inv X pins a H s->RelV x v->RelV y u->r x y H Q->
  subscripted slice false v u=operate [v,u] (getItem v u)->wpAny (model X.prog X.w) X.A (subscriptTail value slice v u) (EP X pins a Q) X.xe s
def kz (X:Cx) (id:String) (r:V->List V->Hp->VK->Prop):Prop:=
 ∀(pins:List (Addr×Obj)) (s:Shared) (a:St) (H:Hp) (x:V) (xs:List V) (v:Value) (b:List Value) (Q:VK),Inv X pins a H s->RelV x v->Vals xs b->r x xs H Q->
  wpAny (model X.prog X.w) X.A (call (.builtin id) (v::b)) (EP X pins a Q) X.xe s
section
variable{X:Cx} {a b:Expr} {ta tb:TE} {pos:Pos}
theorem AO {r:R2} (c:js X r) (d:PE X a ta) (e:PE X b tb) (hs:Xt b):PE X (.Subscript a b pos) (NK r ta tb):=by
 intro pins s f H Q I h
 exact Subscript_ (bC d e I h fun v u g x y i j k l q=>c a b pins g f i x y v u Q j k l q (hs _ _))
inductive Zd (K:ACH) (x:V) (y:V) (H:Hp) (Q:VK):Prop
 |mk (p:_) (xs:_) (i:_) (v:_) (c:x=.ref p) (d:y=.int i) (e:Bd K H p xs) (f:NL xs i=some v) (g:Q v H):Zd K x y H Q
def EJ (K:ACH):R2:=fun x y H Q=>Zd K x y H Q
inductive Ze (K:ACH) (x:V) (y:V) (H:Hp) (Q:VK):Prop
 |mk (p:_) (xs:_) (i:_) (v:_) (c:x=.ref p) (d:y=.int i) (e:Ah K H p xs) (f:NL xs i=some v) (g:Q v H):Ze K x y H Q
def Af (K:ACH):R2:=fun x y H Q=>Ze K x y H Q
inductive Zf (x:V) (y:V) (H:Hp) (Q:VK):Prop
 |mk (z:_) (i:_) (c:_) (d:x=.str z) (e:y=.int i) (f:z.length<=sizeLine) (g:NL z.cps.toList i=some c) (h:Q (.str ⟨#[c]⟩) H):Zf x y H Q
def k_:R2:=fun x y H Q=>Zf x y H Q
theorem Bp:js X (EJ X.K):=by
 intro value slice pins s g H x y v u Q I n o h k
 obtain⟨p,xs,i,z,rfl,rfl,A,B,q⟩:=h
 cases n
 obtain⟨t,rfl⟩:=o
 obtain⟨d,r,pl,J⟩:=I.list A
 obtain⟨j,c,C,L,D,E⟩:=G_ B
 obtain⟨w,l,e⟩:=r.get C
 have F:=r.length
 have M:=GW
 have fin:EP X pins g Q w s:=⟨z,H,I,e,q⟩
 by_cases m:0<=i
 ·have f:i.toNat=j:=by
   rw[seqIndex_of m E]at c
   exact ACF c
  exact item_listR pl.isList m (by lia) (by rw[f];simpa using l) fin k
 ·have f:(i+(d.toArray.size:Int)).toNat=j:=by
   rw[seqIndex_neg (by lia) D]at c
   rw[List.size_toArray,<-F]
   exact ACF c
  exact subscriptTail_builtinR (x:=w) pl.isList.typeIs slot_list_getitem.lookup
   (wpAny_getItem_list_neg (Q:=fun r G=>r=w/\EP X pins g Q r G) pl.isList (by lia) (by rw[List.size_toArray]<;>lia) (by lia) (by rw[f];simpa using l) ⟨rfl,fin⟩) k
theorem AM:js X (Af X.K):=by
 intro value slice pins s d H x y v u Q I e f h g
 obtain⟨p,xs,i,z,rfl,rfl,k,l,q⟩:=h
 cases e
 obtain⟨t,rfl⟩:=f
 obtain⟨m,r,pl,D⟩:=I.tuple k
 obtain⟨j,n,o,E,F,G⟩:=G_ l
 obtain⟨w,A,c⟩:=r.get o
 have B:=r.length
 have J:=GW
 have fin:EP X pins d Q w s:=⟨z,H,I,c,q⟩
 exact subscriptTail_builtinR (x:=w) pl.typeIs slot_tuple_getitem.lookup
  (getItem_tuple (j:=j) (Q:=fun r C=>r=w/\EP X pins d Q r C) pl (by lia) (by lia) (by rw[List.size_toArray,<-B];exact n) (by simpa using A) ⟨rfl,fin⟩) g
theorem UR:js X k_:=by
 intro value slice pins s w H x y v u Q I e f h g
 obtain⟨z,i,c,rfl,rfl,A,k,q⟩:=h
 obtain⟨t,rfl⟩:=e
 obtain⟨B,rfl⟩:=f
 obtain⟨j,d,l,C,m,n⟩:=G_ k
 have o:z.cps.toList.length=z.length:=by simp[Str.length]
 rw[o]at d m n
 have D:=GW
 exact tail_any (typeIs_str s z t) slot_str_getitem.lookup (getItem_str (c:=c) (by
  have p:decide (i< -(2 ^ 63:Int))=false:=decide_eq_false (by lia)
  have r:decide (i≥2 ^ 63)=false:=decide_eq_false (by lia)
  rw[p,r,Bool.or_false]) (by rw[d];simpa using l) ⟨.str ⟨#[c]⟩,H,I.tok _,⟨_,rfl⟩,q⟩) g
theorem PH (its:List Value) (n j:Nat) (u:Value):Obj.mapSeq (·.setIfInBounds j u) {cls:=.type "list",data:=.seq its.toArray n}={cls:=.type "list",data:=.seq (its.set j u).toArray n}:=by
 simp[Obj.mapSeq]
theorem Inv.lst {pins:List (Addr×Obj)} {σ:St} {H:Hp} {s:Shared} {p:Addr} {xs:List V} (I:Inv X pins σ H s) (h:H p=some (.lst xs)):
  ∃(its:List Value) (n:Nat),Vals xs its/\s.heap.get? p=some {cls:=.type "list",data:=.seq its.toArray n}/\xs.length<=sizeLine:=by
 obtain⟨z,its,n,r,e⟩:=I.Bl p _ h
 exact⟨its,n,r,e,z⟩
theorem Inv.bK {pins:List (Addr×Obj)} {σ:St} {H:Hp} {s:Shared} {p:Addr} {xs ys:List V} {its its':List Value} {n c:Nat} {f:Obj->Obj} (I:Inv X pins σ H s) (h:H p=some (.lst xs))
  (g:s.heap.get? p=some {cls:=.type "list",data:=.seq its.toArray n}) (d:f {cls:=.type "list",data:=.seq its.toArray n}={cls:=.type "list",data:=.seq its'.toArray c}) (r:Vals ys its') (i:ys.length<=sizeLine) (t:Nat):
  Inv X pins σ (upd H p (.lst ys)) {s with heap:=s.heap.update p f,toks:=t}:=by
 have e:(s.heap.update p f).get? p=some {cls:=.type "list",data:=.seq its'.toArray c}:=by
  rw[Heap.get?_update_self f g (by rw[d]<;>rfl),d]
 refine I.write (x:=p) (e:=p) (by rw[h];trivial) (.inl rfl) (fun b u j q=>(Heap.get?_update_other _ _ (Ne.symm j)).trans q) ⟨_,e⟩ ?_
 exact⟨i,its',c,r,e⟩
inductive US (o:V) (i:V) (v:V) (H:Hp) (Q:(Hp->Prop)):Prop
 |mk (p:_) (xs:_) (k:_) (j:_) (c:o=.ref p) (d:i=.int k) (e:H p=some (.lst xs)) (f:SD xs.length k=some j) (g:Q (upd H p (.lst (xs.set j v)))):US o i v H Q
def gB:V->V->V->Hp->(Hp->Prop)->Prop:=fun o i v H Q=>US o i v H Q
theorem set_list:fW X gB:=by
 intro pins s z H o i v ov F u Q I A B C h
 obtain⟨p,xs,k,j,rfl,rfl,l,D,q⟩:=h
 cases A
 obtain⟨t,rfl⟩:=B
 obtain⟨c,n,r,e,E⟩:=I.lst l
 obtain⟨d,G,m,w⟩:=I_ D
 have f:=r.length
 have J:=GW
 have x:Inv X pins z (upd H p (.lst (xs.set j v))) {s with heap:=s.heap.update p (Obj.mapSeq (·.setIfInBounds j u))}:=
  I.bK l e (PH c n j u) (r.set C j) (by rw[List.length_set];exact E) s.toks
 by_cases y:0<=k
 ·have g:k.toNat=j:=by
   rw[seqIndex_of y w]at d
   exact ACF d
  exact PySem.W.ki_setAt e y (by lia) (by rw[List.size_toArray,<-f];exact w) (by rw[g];exact⟨_,x,q⟩)
 ·have g:(k+(c.toArray.size:Int)).toNat=j:=by
   rw[seqIndex_neg (by lia) m]at d
   rw[List.size_toArray,<-f]
   exact ACF d
  exact PySem.W.ki_setBack e (by lia) (by rw[List.size_toArray,<-f];exact m) (by lia) (by rw[g];exact⟨_,x,q⟩)
inductive gC (K:ACH) (x:V) (lo:Option Int) (c:Option Int) (H:Hp) (Q:VK):Prop
 |mk (a:_) (xs:_) (d:x=.ref a) (e:Bd K H a xs) (f:∀p,H p=none->Q (.ref p) (upd H p (.lst (FY xs lo c)))):gC K x lo c H Q
def Bg:V->Bool
 | .Ao=>true
 | .bl _=>true
 | .int _=>true
 | .str _=>true
 |_=>false
def F':V->V->Bool
 | .Ao,.Ao=>true
 | .bl a,.bl b=>a==b
 | .bl a,.int b=>(if a then 1 else 0)==b
 | .int a,.bl b=>a==(if b then 1 else 0)
 | .int a,.int b=>a==b
 | .str a,.str b=>a==b
 |_,_=>false
theorem JX {A:Around} {s:Shared} {y x:V} {u v:Value} (e:RelV y u) (c:RelV x v) (g:Bg y=true) (f:Bg x=true):SeqAt.EqAt A s u v (F' y x):=by
 cases y with
 |Ao=>
  cases e
  cases x with
  |Ao=>cases c;exact SeqAt.EqAt.same _
  |bl b=>cases c;exact SeqAt.EqAt.none_bool b
  |int b=>obtain⟨t,rfl⟩:=c;exact SeqAt.EqAt.none_int b t
  |str b=>obtain⟨t,rfl⟩:=c;exact SeqAt.EqAt.none_str b t
  |_=>exact absurd (show false=true from f) Bool.false_ne_true
 |bl a=>
  cases e
  cases x with
  |Ao=>cases c;exact SeqAt.EqAt.bool_none a
  |bl b=>cases c;exact SeqAt.EqAt.bool_bool a b
  |int b=>obtain⟨t,rfl⟩:=c;exact SeqAt.EqAt.bool_int a b t
  |str b=>obtain⟨t,rfl⟩:=c;exact SeqAt.EqAt.bool_str a b t
  |_=>exact absurd (show false=true from f) Bool.false_ne_true
 |int a=>
  obtain⟨d,rfl⟩:=e
  cases x with
  |Ao=>cases c;exact SeqAt.EqAt.int_none a d
  |bl b=>cases c;exact SeqAt.EqAt.int_bool a d b
  |int b=>obtain⟨t,rfl⟩:=c;exact SeqAt.EqAt.int_int a d b t
  |str b=>obtain⟨t,rfl⟩:=c;exact SeqAt.EqAt.int_str a d b t
  |_=>exact absurd (show false=true from f) Bool.false_ne_true
 |str a=>
  obtain⟨d,rfl⟩:=e
  cases x with
  |Ao=>cases c;exact SeqAt.EqAt.str_none a d
  |bl b=>cases c;exact SeqAt.EqAt.str_bool a d b
  |int b=>obtain⟨t,rfl⟩:=c;exact SeqAt.EqAt.str_int a d b t
  |str b=>obtain⟨t,rfl⟩:=c;exact SeqAt.EqAt.str_str a d b t
  |_=>exact absurd (show false=true from f) Bool.false_ne_true
 |_=>exact absurd (show false=true from g) Bool.false_ne_true
def PJ (x:V) (u:Value):Bool:=match u with
 | .none=>F' .Ao x
 | .bool b=>F' (.bl b) x
 | .int i _=>F' (.int i) x
 | .str z _=>F' (.str z) x
 |_=>false
theorem UT {x y:V} {u:Value} (r:RelV y u) (f:Bg y=true):PJ x u=F' y x:=by
 cases y with
 |Ao=>cases r;rfl
 |bl b=>cases r;rfl
 |int i=>obtain⟨t,rfl⟩:=r;rfl
 |str z=>obtain⟨t,rfl⟩:=r;rfl
 |_=>exact absurd (show false=true from f) Bool.false_ne_true
theorem G' {x:V}:∀{xs:List V} {us:List Value},Vals xs us->xs.all Bg=true->us.any (PJ x)=xs.any fun y=>F' y x
 |_,_,.nil,_=>rfl
 |y::xs,u::us,.cons r t,f=>by
  rw[List.all_cons,Bool.and_eq_true]at f
  rw[List.any_cons,List.any_cons,UT r f.1,G' t f.2]
theorem FZ {A:Around} {s:Shared} {x:V} {v:Value} (d:RelV x v) (e:Bg x=true):∀{xs:List V} {us:List Value},Vals xs us->xs.all Bg=true->∀u∈us,SeqAt.EqAt A s u v (PJ x u)
 |_,_,.nil,_=>fun u c=>by cases c
 |y::xs,u::us,.cons r t,f=>fun g c=>by
  rw[List.all_cons,Bool.and_eq_true]at f
  rcases List.mem_cons.mp c with rfl|c
  ·rw[UT r f.1];exact JX r d f.1 e
  ·exact FZ d e t f.2 g c
def Cs (x:V) (xs:List V):Bool:=xs.any fun y=>F' y x
inductive gD (K:ACH) (c:Bool) (x:V) (y:V) (H:Hp) (Q:VK):Prop
 |mk (p:_) (xs:_) (d:y=.ref p) (e:(Bd K H p xs∨Ah K H p xs)) (f:Bg x=true) (g:xs.all Bg=true) (h:Q (.bl (if c then !Cs x xs else Cs x xs)) H):gD K c x y H Q
def SE (K:ACH) (c:Bool):R2:=fun x y H Q=>gD K c x y H Q
theorem DA:Dy X (compareOp .In) (SE X.K false):=by
 intro pins s j H x y v u Q I e g h
 obtain⟨p,xs,rfl,d,f,fs,q⟩:=h
 cases g
 rcases d with d|d
 ·obtain⟨c,r,pl,i⟩:=I.list d
  refine SeqAt.in_listAt (PJ x) pl.isList (fun w hw=>FZ e f r fs w (by simpa using hw)) ⟨.bl _,H,I,rfl,?_⟩
  rw[show c.toArray.any (PJ x)=c.any (PJ x)by simp,G' r fs]
  exact q
 ·obtain⟨c,r,pl,i⟩:=I.tuple d
  refine SeqAt.in_tupleAt (PJ x) pl (fun w hw=>FZ e f r fs w (by simpa using hw)) ⟨.bl _,H,I,rfl,?_⟩
  rw[show c.toArray.any (PJ x)=c.any (PJ x)by simp,G' r fs]
  exact q
theorem E':Dy X (compareOp .NotIn) (SE X.K true):=by
 intro pins s j H x y v u Q I e g h
 obtain⟨p,xs,rfl,d,f,fs,q⟩:=h
 cases g
 rcases d with d|d
 ·obtain⟨c,r,pl,i⟩:=I.list d
  refine SeqAt.notIn_listAt (PJ x) pl.isList (fun w hw=>FZ e f r fs w (by simpa using hw)) ⟨.bl _,H,I,rfl,?_⟩
  rw[show c.toArray.any (PJ x)=c.any (PJ x)by simp,G' r fs]
  exact q
 ·obtain⟨c,r,pl,i⟩:=I.tuple d
  refine SeqAt.notIn_tupleAt (PJ x) pl (fun w hw=>FZ e f r fs w (by simpa using hw)) ⟨.bl _,H,I,rfl,?_⟩
  rw[show c.toArray.any (PJ x)=c.any (PJ x)by simp,G' r fs]
  exact q
inductive Il (x:V) (y:V) (H:Hp) (Q:VK):Prop
 |mk (i:_) (j:_) (c:x=.str i) (d:y=.str j) (e:Q (.bl (!(!(Builtin.Str.occurrences j i 0 j.length 1).isEmpty))) H):Il x y H Q
inductive FH (K:ACH) (xs:List V) (H:Hp) (Q:VK):Prop
 |mk (p:_) (ys:_) (c:xs=[.ref p]) (d:(Bd K H p ys∨Ah K H p ys)) (e:Q (.int ys.length) H):FH K xs H Q
def JY (K:ACH):List V->Hp->VK->Prop:=fun xs H Q=>FH K xs H Q
theorem Aq:Dz X (.builtin "len") (JY X.K):=by
 intro pins s j H xs k Q I r h
 obtain⟨p,f,rfl,c,q⟩:=h
 obtain⟨u,rfl,g⟩:=vals1 r
 cases g
 have l:=GW
 rcases c with c|c
 ·obtain⟨d,e,pl,i⟩:=I.list c
  have hlen:=e.length
  exact Calls.call_len_list pl.isList (by simp only[List.size_toArray]<;>lia) ⟨.int f.length,H,I.tok _,⟨s.toks+1,by rw[List.size_toArray,hlen]⟩,q⟩
 ·obtain⟨d,e,pl,i⟩:=I.tuple c
  have hlen:=e.length
  exact len_tuple pl (by simp only[List.size_toArray]<;>lia) ⟨.int f.length,H,I.tok _,⟨s.toks+1,by rw[List.size_toArray,hlen]⟩,q⟩
inductive Im (xs:List V) (H:Hp) (Q:VK):Prop
 |mk (z:_) (c:xs=[.str z]) (d:z.length<=sizeLine) (e:Q (.int z.length) H):Im xs H Q
inductive FI (K:ACH) (xs:List V) (H:Hp) (Q:VK):Prop
 |mk (p:_) (ys:_) (c:xs=[.ref p]) (d:(Bd K H p ys∨Ah K H p ys)) (e:∀l,H l=none->Q (.ref l) (upd H l (.lst ys))):FI K xs H Q
def JZ (K:ACH):List V->Hp->VK->Prop:=fun xs H Q=>FI K xs H Q
theorem ME:Dz X (.type "list") (JZ X.K):=by
 intro pins s y H xs A Q I r h
 obtain⟨p,l,rfl,i,q⟩:=h
 obtain⟨u,rfl,z⟩:=vals1 r
 cases z
 have fin:∀(c:List Value),Vals l c->l.length<=sizeLine->∀(d:Heap) (f:Nat),(∀b x,s.heap.get? b=some x->d.get? b=some x)->
   d.get? s.heap.objs.size=some {cls:=.type "list",dict:=none,data:=.seq c.toArray f,slots:= #[]}->EP X pins y Q (.ref s.heap.objs.size) {s with heap:=d}:=fun c g j d f k e=>
  ⟨.ref s.heap.objs.size,_,I.laid (t':=s.toks) k (Nat.le_refl _) (show BJ X.prog X.w _ d _ (.lst l)from⟨j,c,f,g,e⟩),rfl,q _ (I.Bl.fresh (Nat.le_refl _))⟩
 rcases i with i|i
 ·obtain⟨c,g,pl,j⟩:=I.list i
  have hlen:=g.length
  obtain⟨o,m,t,n,v⟩:=pl.isList
  exact call_list_seq p (.inl rfl) m t v (fun d f k e=>fin c g j d f k e) (by simp only[List.size_toArray]<;>lia)
 ·obtain⟨c,g,pl,j⟩:=I.tuple i
  have hlen:=g.length
  obtain⟨o,m,t,n,v⟩:=pl
  exact call_list_seq p (.inr rfl) m t v (fun d f k e=>fin c g j d f k e) (by simp only[List.size_toArray]<;>lia)
inductive EW (K:ACH) (xs:List V) (H:Hp) (Q:VK):Prop
 |mk (p:_) (ys:_) (c:xs=[.ref p]) (d:((Bd K H p ys/\∀l,H l=none->Q (.ref l) (upd H l (.tup ys)))∨(Ah K H p ys/\Q (.ref p) H))):EW K xs H Q
def Io (K:ACH):List V->Hp->VK->Prop:=fun xs H Q=>EW K xs H Q
theorem Kk:Dz X (.type "tuple") (Io X.K):=by
 intro pins s i H xs v Q I r h
 obtain⟨p,j,rfl,h⟩:=h
 obtain⟨u,rfl,m⟩:=vals1 r
 cases m
 rcases h with⟨f,q⟩|⟨f,q⟩
 ·obtain⟨c,g,pl,k⟩:=I.list f
  have hlen:=g.length
  refine call_tuple_list pl.isList (fun d n=>?_) (by simp only[List.size_toArray]<;>lia)
  have l:Inv X pins i H {s with heap:=d}:=I.kept (t':=s.toks) n
  have t:Inv X pins i (upd H d.objs.size (.tup j)) {s with heap:=d.push {cls:=.type "tuple",data:=.seq c.toArray}}:=
   l.laid (t':=s.toks) (fun b o e=>Heap.get?_push_of_some _ e) (Nat.le_refl _) (show BJ X.prog X.w _ _ _ (.tup j)from⟨k,c,g,IsTup.new _ _⟩)
  exact⟨.ref d.objs.size,_,t,rfl,q _ (l.Bl.fresh (Nat.le_refl _))⟩
 ·obtain⟨c,g,pl,k⟩:=I.tuple f
  exact call_tuple_same pl ⟨.ref p,H,I,rfl,q⟩
def lB (K:ACH) (T:String) (x:V) (H:Hp):Prop:=match x with
 | .str _=>T="str"
 | .int _=>T="int"
 | .ref p=>(T="list"/\∃xs,Bd K H p xs)∨(T="tuple"/\∃o,K.lookup p=some o/\o.cls=.type "tuple"/\o.dict=none)∨
   (T="dict"/\((∃kvs,H p=some (.dK kvs))∨∃kvs,H p=some (.dT kvs)))∨(T="set"/\∃S n,H p=some (.set S n))
 |_=>False
theorem UU {pins:List (Addr×Obj)} {σ:St} {H:Hp} {s:Shared} {T:String} {x:V} {v:Value} (I:Inv X pins σ H s) (r:RelV x v) (ty:lB X.K T x H):
  s.TypeIs v T/\∀a,v=.ref a->∃j,s.heap.get? a=some j/\j.dict=none:=by
 cases x with
 |str z=>
  obtain⟨t,rfl⟩:=r
  cases(show T="str"from ty)
  exact⟨typeIs_str s z t,fun _ e=>nomatch e⟩
 |int i=>
  obtain⟨t,rfl⟩:=r
  cases(show T="int"from ty)
  exact⟨typeIs_int s i t,fun _ e=>nomatch e⟩
 |ref p=>
  cases r
  rcases ty with⟨rfl,xs,k⟩|⟨rfl,o,d,l,g⟩|⟨rfl,d⟩|⟨rfl,S,n,d⟩
  ·obtain⟨m,_,pl,_⟩:=I.list k
   refine⟨pl.isList.typeIs,fun a e=>?_⟩
   cases e
   obtain⟨o,n,e,c,g,_⟩:=pl
   exact⟨o,e,g⟩
  ·refine⟨⟨o,I.Ly p o d,l⟩,fun a e=>?_⟩
   cases e
   exact⟨o,I.Ly _ o d,g⟩
  ·have z:∃o,s.heap.get? p=some o/\o.ExactDict:=by
    rcases d with⟨kvs,d⟩|⟨kvs,d⟩
    ·obtain⟨_,_,_,_,o,_,_,e,f,_⟩:=I.Bl p _ d
     exact⟨o,e,f⟩
    ·obtain⟨_,_,_,_,o,_,_,e,f,_⟩:=I.Bl p _ d
     exact⟨o,e,f⟩
   obtain⟨o,e,f⟩:=z
   refine⟨⟨o,e,f.1⟩,fun a h=>?_⟩
   cases h
   exact⟨o,e,f.2.1⟩
  ·obtain⟨o,_,_,_,e,f,_⟩:=I.Bl p _ d
   refine⟨⟨o,e,f.1⟩,fun a h=>?_⟩
   cases h
   exact⟨o,e,f.2.1⟩
 |_=>exact False.elim ty
def lC (K:ACH) (T:String) (r:V->List V->Hp->VK->Prop) (d:TE):TE:=fun e H Q=>d e H fun x c=>lB K T x c/\r x [] c Q
def lD (K:ACH) (T:String) (r:V->List V->Hp->VK->Prop) (e:TE) (t:TA):TE:=fun c H Q=>e c H fun x d=>lB K T x d/\t c d fun xs f=>r x xs f Q
variable{o e:Expr} {es:List Expr} {to:TE} {t:TA} {name:Str} {apos Dv:Pos} {T id:String} {r:V->List V->Hp->VK->Prop}
theorem bL (k:PlainAttrs T) (slot:Slot T name id) (f:typeOf (.builtin id)=pure (.type "method_descriptor")) (l:kz X id r) (m:PE X o to)
  (c:attributeBase o name X.env (eval o X.env)=eval o X.env:=by rfl) (d:(apos.endLine==Dv.line)=true:=by rfl):PE X (.Call (.Attribute o name apos) [] [] Dv) (lC X.K T r to):=by
 intro pins s g H Q I h
 refine wpAny_Call_method0_late c d (BX (m pins s g H _ I h) fun v n ⟨x,p,i,j,ty,q⟩=>?_)
 obtain⟨u,w⟩:=UU i j ty
 exact⟨T,id,k,slot,f,u,w,Calls.callWith_builtin rfl (PySem.evalArgs_none (l pins n g p x [] v [] Q i j .nil q))⟩
theorem Fb (n:PlainAttrs T) (slot:Slot T name id) (i:typeOf (.builtin id)=pure (.type "method_descriptor")) (p:kz X id r) (q:PE X o to) (u:PA X (e::es) t)
  (d:attributeBase o name X.env (eval o X.env)=eval o X.env:=by rfl)
  (g:((backTo Dv (starEach (e::es) X.env)).all (fun x=> !x.1)&&(backToKw Dv (keywordEach [] X.env)).all (fun x=>x.1.isSome)
   &&decide ((e::es).length+([]:List Keyword).length+(if([]:List Keyword).isEmpty then 0 else 1)<30))=true:=by rfl)
  (f:(apos.endLine==Dv.line)=true:=by rfl) (w:starEach (e::es) X.env=(false,eval e X.env)::starEach es X.env:=by rfl) (c:(backTo Dv (starEach es X.env)).any (·.1)=false:=by rfl):
  PE X (.Call (.Attribute o name apos) (e::es) [] Dv) (lD X.K T r to t):=by
 intro pins s j H Q I h
 refine wpAny_Call_method_late d g f rfl (BX (q pins s j H _ I h) fun v y ⟨x,z,k,l,ty,A⟩=>?_)
 obtain⟨B,C⟩:=UU k l ty
 refine⟨T,id,n,slot,i,B,C,?_⟩
 have m:=u Dv pins y j z _ k A
 rw[w]at m⊢
 refine Calls.callWith_builtin (by show(false||(backTo Dv (starEach es X.env)).any (·.1))=false;rw[c]<;>rfl) (Calls.evalArgs_plain ?_)
 exact BX m fun D E F=>F.elim fun G J L M N=>p pins E j J x G v D Q L l M N
end
def gE (X:Cx) (id:String) (r:V->List V->Hp->VK->Prop):Prop:=
 ∀(pins:List (Addr×Obj)) (s:Shared) (a:St) (H:Hp) (x:V) (xs:List V) (v:Value) (b:List Value) (Q:VK),Inv X pins a H s->RelV x v->Vals xs b->r x xs H Q->
  wpAny (model X.prog X.w) X.A (call (.builtin id) (v::b)) (EP X pins a Q) X.xe s
theorem Vals.zero {us:List Value} (r:Vals [] us):us=[]:=List.eq_nil_of_length_eq_zero (Paired.length r).symm
theorem Vals.one {x:V} {us:List Value} (r:Vals [x] us):∃u,us=[u]/\RelV x u:=by
 obtain⟨u,a,rfl,h,t⟩:=r.inv
 rw[t.zero]
 exact⟨u,rfl,h⟩
theorem Vals.two {x y:V} {us:List Value} (r:Vals [x,y] us):∃u v,us=[u,v]/\RelV x u/\RelV y v:=by
 obtain⟨u,b,rfl,h,t⟩:=r.inv
 obtain⟨v,rfl,a⟩:=t.one
 exact⟨u,v,rfl,h,a⟩
theorem Vals.dropLast {xs:List V} {us:List Value} (h:Vals xs us):Vals xs.dropLast us.dropLast:=by
 induction h with
 |nil=>exact .nil
 |cons r t a=>
  cases t with
  |nil=>exact .nil
  |cons q b=>exact .cons r a
theorem Vals.eraseIdx:∀{xs:List V} {us:List Value} (i:Nat),Vals xs us->Vals (xs.eraseIdx i) (us.eraseIdx i)
 |_,_,_,.nil=>.nil
 |_,_,0,.cons _ t=>t
 |_,_,i+1,.cons r t=>.cons r (Vals.eraseIdx i t)
theorem PK {a:Type} (l:List a):l.eraseIdx (l.length-1)=l.dropLast:=List.eraseIdx_length_sub_one
theorem LD {a:Type}:∀(l:List a) (i:Nat),(l.eraseIdx i).length<=l.length
 |[],_=>Nat.le_refl _
 |_::_,0=>Nat.le_succ _
 |_::r,i+1=>Nat.succ_le_succ (LD r i)
section
variable{X:Cx} {pins:List (Addr×Obj)} {σ:St} {H:Hp} {s:Shared} {l b:Addr} {xs ys zs:List V}
theorem Inv.Xu {its its':List Value} {n:Nat} {f:Array Value->Array Value} {t':Nat} (I:Inv X pins σ H s) (a:H l=some (.lst xs))
  (e:s.heap.get? l=some {cls:=.type "list",data:=.seq its.toArray n}) (c:f its.toArray=its'.toArray) (d:Vals ys its') (g:ys.length<=sizeLine):
  Inv X pins σ (upd H l (.lst ys)) {s with heap:=s.heap.update l (Obj.mapSeq f),toks:=t'}:=by
 have q:=PySem.IsL.update e f
 rw[c]at q
 refine I.write (x:=l) (e:=l) (by rw[a];exact trivial) (.inl rfl) (fun j u h i=>(Heap.get?_update_other s.heap (Obj.mapSeq f) (Ne.symm h)).trans i) ⟨_,q⟩ ?_
 exact⟨g,its',_,d,q⟩
theorem Inv.gF {its:List Value} {t':Nat} (I:Inv X pins σ H s) (a:Vals ys its) (c:ys.length<=sizeLine):
  Inv X pins σ (upd H s.heap.objs.size (.lst ys)) {s with heap:=s.heap.push {cls:=.type "list",data:=.seq its.toArray},toks:=t'}:=
 I.laid (fun _ _ q=>Heap.get?_push_of_some _ q) (Nat.le_refl _) ⟨c,its,0,a,Heap.get?_push_size _ rfl⟩
theorem Inv.fresh (I:Inv X pins σ H s):H s.heap.objs.size=none:=I.Bl.fresh (Nat.le_refl _)
theorem Inv.UW (I:Inv X pins σ H s) (a:H l=some (.lst xs)):xs.length<=sizeLine/\∃(its:List Value) (n:Nat),Vals xs its/\xs.length=its.length/\s.heap.get? l=some {cls:=.type "list",data:=.seq its.toArray n}:=by
 obtain⟨z,its,n,r,e⟩:=I.Bl l _ a
 exact⟨z,its,n,r,r.length,e⟩
end
section
variable{X:Cx}
inductive Nf (x:V) (vs:List V) (H:Hp) (Q:VK):Prop
 |mk (l:_) (xs:_) (y:_) (a:x=.ref l) (b:vs=[y]) (c:H l=some (.lst xs)) (d:xs.length<sizeLine) (e:Q .Ao (upd H l (.lst (xs++[y])))):Nf x vs H Q
def Xv:V->List V->Hp->VK->Prop:=fun x a H Q=>Nf x a H Q
theorem Ce:gE X "list.append" Xv:=by
 intro pins s g H x i v j Q I c d h
 obtain⟨l,xs,y,rfl,rfl,b,k,q⟩:=h
 cases c
 obtain⟨u,rfl,f⟩:=d.one
 obtain⟨z,a,n,r,m,e⟩:=I.UW b
 refine call_meets F.slot_list_append ⟨_,e,rfl⟩ F.entry_list_append (F.args_list_append_2 _ _) (PySem.list_append l a.toArray n u (by rw[List.size_toArray];lia)) ⟨e,?_⟩
 refine⟨.Ao,_,I.Xu (its':=a++[u]) b e (by simp) (r.append (.cons f .nil)) ?_,rfl,q⟩
 rw[List.length_append,List.length_singleton]
 lia
inductive UX (x:V) (vs:List V) (H:Hp) (Q:VK):Prop
 |mk (l:_) (b:_) (xs:_) (zs:_) (a:x=.ref l) (c:vs=[.ref b]) (d:H l=some (.lst xs)) (e:H b=some (.lst zs)) (f:xs.length+zs.length<=sizeLine) (g:Q .Ao (upd H l (.lst (xs++zs)))):UX x vs H Q
inductive Zg (x:V) (vs:List V) (H:Hp) (Q:VK):Prop
 |mk (l:_) (xs:_) (y:_) (a:x=.ref l) (b:vs=[]) (c:H l=some (.lst xs)) (d:xs[xs.length-1]?=some y) (e:Q y (upd H l (.lst xs.dropLast))):Zg x vs H Q
def lE:V->List V->Hp->VK->Prop:=fun x a H Q=>Zg x a H Q
theorem bM:gE X "list.pop" lE:=by
 intro pins s o H x p v t Q I f g h
 obtain⟨l,xs,y,rfl,rfl,d,i,q⟩:=h
 cases f
 have b:=g.zero
 subst b
 obtain⟨z,a,n,r,j,e⟩:=I.UW d
 obtain⟨u,k,m⟩:=r.get i
 have c:a.toArray[a.toArray.size-1]?=some u:=by
  show a.toArray[a.length-1]?=some u
  rw[<-Array.getElem?_toList,<-j]
  exact k
 refine call_meets F.slot_list_pop ⟨_,e,rfl⟩ F.entry_list_pop (F.args_list_pop_1 _) (MeetsSeq.list_pop_last l a.toArray n u c (by rw[List.size_toArray];lia)) ⟨e,?_⟩
 refine⟨y,_,I.Xu (its':=a.dropLast) d e ?_ r.dropLast ?_,m,q⟩
 ·show a.toArray.eraseIdxIfInBounds (a.toArray.size-1)=a.dropLast.toArray
  rw[List.size_toArray,List.eraseIdxIfInBounds_toArray,PK]
 ·rw[List.length_dropLast]
  lia
inductive Qr (x:V) (vs:List V) (H:Hp) (Q:VK):Prop
 |mk (l:_) (xs:_) (i:_) (k:_) (y:_) (a:x=.ref l) (b:vs=[.int i]) (c:H l=some (.lst xs)) (d: -(2 ^ 63)<=i) (e:i<2 ^ 63) (f:seqIndex? i xs.length=some k) (g:xs[k]?=some y) (h:Q y (upd H l (.lst (xs.eraseIdx k)))):Qr x vs H Q
def bN:V->List V->Hp->VK->Prop:=fun x a H Q=>Qr x a H Q
theorem UY:gE X "list.pop" bN:=by
 intro pins s B H x C v D Q I d f h
 obtain⟨l,xs,i,k,y,rfl,rfl,c,g,j,m,o,q⟩:=h
 cases d
 obtain⟨u,rfl,p⟩:=f.one
 obtain⟨t,rfl⟩:=p
 obtain⟨z,a,n,r,A,e⟩:=I.UW c
 obtain⟨w,hw,b⟩:=r.get o
 refine call_meets F.slot_list_pop ⟨_,e,rfl⟩ F.entry_list_pop (F.args_list_pop_2 _ _)
  (MeetsSeq.list_pop_at l a.toArray n i t k w (fitsIndex_both g j) (by rw[List.size_toArray,<-A];exact m) (by rw[<-Array.getElem?_toList];exact hw) (by rw[List.size_toArray];lia)) ⟨e,?_⟩
 refine⟨y,_,I.Xu (its':=a.eraseIdx k) c e ?_ (r.eraseIdx k) ?_,b,q⟩
 ·show a.toArray.eraseIdxIfInBounds k=(a.eraseIdx k).toArray
  rw[List.eraseIdxIfInBounds_toArray]
 ·have:=LD xs k
  lia
inductive SF (x:V) (vs:List V) (H:Hp) (Q:VK):Prop
 |mk (l:_) (xs:_) (a:x=.ref l) (b:vs=[]) (c:H l=some (.lst xs)) (d:Q .Ao (upd H l (.lst xs.reverse))):SF x vs H Q
inductive Xw (x:V) (vs:List V) (H:Hp) (Q:VK):Prop
 |mk (l:_) (xs:_) (a:x=.ref l) (b:vs=[]) (c:H l=some (.lst xs)) (d:Q .Ao (upd H l (.lst []))):Xw x vs H Q
inductive gG (x:V) (y:V) (H:Hp) (Q:VK):Prop
 |mk (l:_) (b:_) (xs:_) (zs:_) (a:x=.ref l) (c:y=.ref b) (d:H l=some (.lst xs)) (e:H b=some (.lst zs)) (f:xs.length+zs.length<=sizeLine) (g:∀p,H p=none->Q (.ref p) (upd H p (.lst (xs++zs)))):gG x y H Q
inductive gH (x:V) (y:V) (H:Hp) (Q:VK):Prop
 |mk (l:_) (k:_) (xs:_) (a:x=.ref l) (b:y=.int k) (c:H l=some (.lst xs)) (d: -(2 ^ 63)<=k) (e:k<2 ^ 63) (f:xs.length*k.toNat<=sizeLine) (g:∀p,H p=none->Q (.ref p) (upd H p (.lst (List.replicate k.toNat xs).flatten))):gH x y H Q
end
section
variable{prog:Program} {w:World} {A:Around} {E:Value->Shared->Prop} {s:Shared}
end
section
variable{X:Cx}
end
section
variable{κ:Type} [DecidableEq κ]
def Ct (kvs:List (κ×V)) (k:κ):Option V:=(kvs.find? fun a=>decide (a.1=k)).map (·.2)
def putK (kvs:List (κ×V)) (k:κ) (v:V):List (κ×V):=
 if(kvs.any fun a=>decide (a.1=k))=true then kvs.map (fun a=>if a.1=k then(a.1,v)else a)else kvs++[(k,v)]
def EX (kvs:List (κ×V)) (k:κ):List (κ×V):=kvs.filter fun a=>decide (a.1≠k)
theorem UZ {k:κ}:Ct ([]:List (κ×V)) k=none:=rfl
theorem Fc {p:κ×V} {r:List (κ×V)} {k:κ} (e:p.1=k):Ct (p::r) k=some p.2:=by simp[Ct,List.find?_cons,e]
theorem Fe {p:κ×V} {r:List (κ×V)} {k:κ} (e:¬p.1=k):Ct (p::r) k=Ct r k:=by simp[Ct,List.find?_cons,e]
theorem Ff (k:κ):∀kvs:List (κ×V),(kvs.any fun a=>decide (a.1=k))=(Ct kvs k).isSome
 |[]=>rfl
 |p::r=>by
  rw[List.any_cons]
  by_cases e:p.1=k
  ·simp only[Fc e,decide_eq_true e,Bool.true_or,Option.isSome_some]
  ·rw[Fe e,decide_eq_false e,Bool.false_or];exact Ff k r
theorem Fg (kvs:List (κ×V)) (k:κ) (v:V):(putK kvs k v).length<=kvs.length+1:=by
 unfold putK
 split
 ·rw[List.length_map];lia
 ·rw[List.length_append,List.length_cons,List.length_nil];lia
theorem Ng {kvs:List (κ×V)} {k:κ} (v:V) (h:Ct kvs k=none):putK kvs k v=kvs++[(k,v)]:=by
 unfold putK
 rw[Ff,h]
 exact if_neg (by decide)
theorem Ih.EY {o:Option V} {u:Option Value} (r:Ih o u):o.isSome=u.isSome:=by
 cases o with
 |none=>cases u with
  |none=>rfl
  |some _=>exact(show False from r).elim
 |some _=>cases u with
  |none=>exact(show False from r).elim
  |some _=>rfl
theorem KV.val {kvs:List (κ×V)} {vs:List (κ×Value)} (r:KV kvs vs) (k:κ):Ih (Ct kvs k) (valueAt vs k):=by
 unfold KV at r
 induction r with
 |nil=>exact True.intro
 |@cons p q i a h t f=>
  obtain⟨d,g⟩:=h
  by_cases e:p.1=k
  ·have c:q.1=k:=d.symm.trans e
   have b:valueAt (q::a) k=some q.2:=by simp[valueAt,List.find?_cons,c]
   rw[Fc e,b];exact g
  ·have c:¬q.1=k:=fun z=>e (d.trans z)
   have b:valueAt (q::a) k=valueAt a k:=by simp[valueAt,List.find?_cons,c]
   rw[Fe e,b];exact f
theorem KV.any {kvs:List (κ×V)} {vs:List (κ×Value)} (r:KV kvs vs) (k:κ):(kvs.any fun a=>decide (a.1=k))=vs.any fun a=>decide (a.1=k):=by
 unfold KV at r
 induction r with
 |nil=>rfl
 |cons h t b=>rw[List.any_cons,List.any_cons,b,h.1]
theorem KV.bO {kvs:List (κ×V)} {vs:List (κ×Value)} (r:KV kvs vs) (k:κ) {y:V} {u:Value} (c:RelV y u):
  KV (kvs.map fun a=>if a.1=k then(a.1,y)else a) (vs.map fun a=>if a.1=k then(a.1,u)else a):=by
 unfold KV at r⊢
 induction r with
 |nil=>exact .nil
 |@cons p q g i h t d=>
  rw[List.map_cons,List.map_cons]
  refine .cons ?_ d
  obtain⟨b,f⟩:=h
  by_cases e:p.1=k
  ·rw[if_pos e,if_pos (b.symm.trans e)];exact⟨b,c⟩
  ·rw[if_neg e,if_neg (fun z=>e (b.trans z))];exact⟨b,f⟩
theorem KV.put {kvs:List (κ×V)} {vs:List (κ×Value)} (r:KV kvs vs) (k:κ) {y:V} {u:Value} (a:RelV y u):KV (putK kvs k y) (stored vs k u):=by
 unfold putK stored
 rw[r.any k]
 by_cases e:(vs.any fun b=>decide (b.1=k))=true
 ·rw[if_pos e,if_pos e];exact r.bO k a
 ·rw[if_neg e,if_neg e];exact Paired.snoc r ⟨rfl,a⟩
theorem KV.drop {kvs:List (κ×V)} {vs:List (κ×Value)} (r:KV kvs vs) (k:κ):KV (EX kvs k) (without vs k):=by
 unfold KV at r⊢
 unfold EX without
 induction r with
 |nil=>exact .nil
 |@cons p q i j h t d=>
  obtain⟨c,f⟩:=h
  rw[List.filter_cons,List.filter_cons]
  by_cases e:p.1=k
  ·have a:¬decide (p.1≠k)=true:=by simp[e]
   have b:¬decide (q.1≠k)=true:=by simp[c.symm.trans e]
   rw[if_neg a,if_neg b];exact d
  ·have g:¬q.1=k:=fun z=>e (c.trans z)
   have a:decide (p.1≠k)=true:=by simp[e]
   have b:decide (q.1≠k)=true:=by simp[g]
   rw[if_pos a,if_pos b];exact .cons ⟨c,f⟩ d
theorem KV.keys {kvs:List (κ×V)} {vs:List (κ×Value)} (r:KV kvs vs):kvs.map (·.1)=vs.map (·.1):=by
 unfold KV at r
 induction r with
 |nil=>rfl
 |cons h t a=>rw[List.map_cons,List.map_cons,a,h.1]
theorem KV.length {kvs:List (κ×V)} {vs:List (κ×Value)} (r:KV kvs vs):kvs.length=vs.length:=Paired.length r
theorem Ua (kvs:List (κ×V)) (k:κ):(EX kvs k).length<=kvs.length:=List.length_filter_le _ _
end
theorem IK {P:Program} {w:World} {k:Key} {u:Value} (r:RelV (kV k) u):(Av P w).is k u=true:=by
 cases k with
 |inl i=>obtain⟨t,e⟩:=(show∃t,u=Value.int i t from r);subst e;exact NM P w i t
 |inr x=>obtain⟨t,e⟩:=(show∃t,u=Value.str x t from r);subst e;exact NN P w x t
theorem LF {P:Program} {w:World}:∀{ks:List Key} {us:List Value},Vals (ks.map kV) us->ItemsAre (Av P w) ks us
 |[],_,r=>by rw[List.map_nil]at r;cases r;exact .nil
 |k::ks,_,r=>by
  rw[List.map_cons]at r
  cases r with
  |cons h t=>exact .cons (IK h) (LF t)
abbrev KT (H:Hp):List (List Key×V)->List (List Key×Addr×Value)->Prop:=Paired fun p q=>p.1=q.1/\H q.2.1=some (.tup (p.1.map kV))/\RelV p.2 q.2.2
theorem KT.val {H:Hp} {kvs:List (List Key×V)} {xs:List (List Key×Addr×Value)} (r:KT H kvs xs) (k:List Key):Ih (Ct kvs k) ((atKey xs k).map (·.2)):=by
 induction r with
 |nil=>exact True.intro
 |@cons p q i a h t f=>
  obtain⟨d,_,g⟩:=h
  by_cases e:p.1=k
  ·have c:q.1=k:=d.symm.trans e
   have b:atKey (q::a) k=some q.2:=by simp[atKey,List.find?_cons,c]
   rw[Fc e,b];exact g
  ·have c:¬q.1=k:=fun z=>e (d.trans z)
   have b:atKey (q::a) k=atKey a k:=by simp[atKey,List.find?_cons,c]
   rw[Fe e,b];exact f
theorem KT.bO {H:Hp} {kvs:List (List Key×V)} {xs:List (List Key×Addr×Value)} (r:KT H kvs xs) (k:List Key) {y:V} {u:Value} (d:RelV y u):
  KT H (kvs.map fun b=>if b.1=k then(b.1,y)else b) (xs.map (putAt k u)):=by
 induction r with
 |nil=>exact .nil
 |@cons p q i j h t f=>
  rw[List.map_cons,List.map_cons]
  refine .cons ?_ f
  obtain⟨a,c,g⟩:=h
  unfold putAt
  by_cases e:p.1=k
  ·rw[if_pos e,if_pos (a.symm.trans e)];exact⟨a,c,d⟩
  ·rw[if_neg e,if_neg (fun z=>e (a.trans z))];exact⟨a,c,g⟩
theorem KT.put {H:Hp} {kvs:List (List Key×V)} {xs:List (List Key×Addr×Value)} (r:KT H kvs xs) (k:List Key) {b:Addr} {y:V} {u:Value} (c:H b=some (.tup (k.map kV))) (a:RelV y u):
  KT H (putK kvs k y) (storedH xs k b u):=by
 have e:(kvs.any fun d=>decide (d.1=k))=(atKey xs k).isSome:=by
  rw[Ff,(r.val k).EY,Option.isSome_map]
 unfold putK storedH
 rw[e]
 by_cases q:(atKey xs k).isSome=true
 ·rw[if_pos q,if_pos q];exact r.bO k a
 ·rw[if_neg q,if_neg q];exact Paired.snoc r ⟨rfl,c,a⟩
theorem KT.keeps {H a:Hp} {kvs:List (List Key×V)} {xs:List (List Key×Addr×Value)} (r:KT H kvs xs) (c:∀b ys,H b=some (.tup ys)->a b=some (.tup ys)):KT a kvs xs:=
 Paired.fL r fun _ _ z=>⟨z.1,c _ _ z.2.1,z.2.2⟩
section
variable{P:Program} {w:World} {H:Hp} {h:Heap} {a:Addr}
theorem Zh {u:HO} (ok:GQ P w H h) (e:Rd H a u):BJ P w H h a u:=e.ok ok
theorem FJ {kvs:List (Key×V)} (ok:GQ P w H h) (e:Rd H a (.dK kvs)):kvs.length<=sizeLine/\(a==sysModules)=false/\∃vs,KV kvs vs/\h.DictOf (Av P w) a vs:=
 show BJ P w H h a (.dK kvs)from Zh ok e
theorem Ub {kvs:List (Key×V)} (ok:GQ P w H h) (e:H a=some (.dK kvs)):kvs.length<=sizeLine/\(a==sysModules)=false/\∃vs,KV kvs vs/\h.DictOf (Av P w) a vs:=FJ ok (.inl e)
theorem Ja {ks:List Key} (ok:GQ P w H h) (e:H a=some (.tup (ks.map kV))):(tupleKind (Av P w)).is h ks a:=by
 obtain⟨_,b,r,o,c,d,n,f⟩:=(show BJ P w H h a (.tup (ks.map kV))from ok a _ e)
 exact⟨o,b.toArray,n,c,d,f,by simpa using LF r⟩
theorem LG {kvs:List (List Key×V)} (ok:GQ P w H h) (e:Rd H a (.dT kvs)):kvs.length<=sizeLine/\(a==sysModules)=false/\
  ∃xs,KT H kvs xs/\h.DictOfH (tupleKind (Av P w)) a xs:=by
 obtain⟨z,y,xs,r,o,d,f,g,i,j,k,n⟩:=(show BJ P w H h a (.dT kvs)from Zh ok e)
 refine⟨z,y,xs,r,o,d,f,g,i,j,k,fun x b=>?_,n⟩
 have all:∀{l:List (List Key×V)} {m:List (List Key×Addr×Value)},KT H l m->∀x∈m,(tupleKind (Av P w)).is h x.1 x.2.1:=by
  intro l m q
  induction q with
  |nil=>intro x b;exact nomatch b
  |@cons p q u v c t s=>
   intro x b
   rcases List.mem_cons.mp b with e|b
   ·subst e
    exact Ja ok (by rw[<-c.1];exact c.2.1)
   ·exact s x b
 exact all r x b
theorem gI {kvs:List (List Key×V)} (ok:GQ P w H h) (e:H a=some (.dT kvs)):kvs.length<=sizeLine/\(a==sysModules)=false/\
  ∃xs,KT H kvs xs/\h.DictOfH (tupleKind (Av P w)) a xs:=LG ok (.inl e)
end
def Nh (H:Hp) (a:Addr) (y:V) (r:Option V):Prop:=
 (∃kvs k,Rd H a (.dK kvs)/\y=kV k/\r=Ct kvs k)∨∃kvs k b,Rd H a (.dT kvs)/\y=.ref b/\H b=some (.tup (k.map kV))/\r=Ct kvs k
def Ni (H:Hp) (a:Addr) (y v:V) (c:Hp):Prop:=
 (∃kvs k,H a=some (.dK kvs)/\y=kV k/\kvs.length<sizeLine/\c=upd H a (.dK (putK kvs k v)))∨
 ∃kvs k b,H a=some (.dT kvs)/\y=.ref b/\H b=some (.tup (k.map kV))/\kvs.length<sizeLine/\c=upd H a (.dT (putK kvs k v))
theorem Ni.k {H:Hp} {a:Addr} {kvs:List (Key×V)} {k:Key} {v:V} (e:H a=some (.dK kvs)) (b:kvs.length<sizeLine):Ni H a (kV k) v (upd H a (.dK (putK kvs k v))):=.inl ⟨kvs,k,e,rfl,b,rfl⟩
section
variable{X:Cx} {pins:List (Addr×Obj)} {σ:St} {H:Hp} {s:Shared} {a:Addr} {y v:V} {u r:Value} {o:Option V} {A:Around} {E:Value->Shared->Prop}
theorem Inv.big (I:Inv X pins σ H s):sysModules<s.heap.objs.size:=by
 have h:mainGlobals<s.heap.objs.size:=(I.mod.glob.keeps I.bk).lt
 exact Nat.lt_trans (by decide) h
theorem SG {Q:Value->Shared->Prop} (t:A.units+1<cLine) (I:Inv X pins σ H s) (g:Nh H a y (some v)) (n:RelV y u) (h:∀f q,Inv X pins σ H q->RelV v f->Q f q):
  wpAny (model X.prog X.w) A (getItem (.ref a) u) Q E s:=by
 rcases g with⟨kvs,k,e,i,l⟩|⟨kvs,k,b,e,i,x,l⟩
 ·subst i
  obtain⟨z,B,C,c,j⟩:=FJ I.Bl e
  obtain⟨f,hw,d⟩:=Ih.some_of (v:=v) (o:=valueAt C k) (by rw[l];exact c.val k)
  exact wpAny_getItem_of (IK n) j.mapOf hw (h f _ (I.tok _) d)
 ·subst i
  cases(show u=Value.ref b from n)
  obtain⟨z,B,xs,c,j⟩:=LG I.Bl e
  obtain⟨f,hw,d⟩:=Ih.some_of (v:=v) (o:=(atKey xs k).map (·.2)) (by rw[l];exact c.val k)
  obtain⟨p,D,m⟩:=Option.map_eq_some_iff.mp hw
  refine wpAny_getItem_heap (tupleKind_room_in1 t) (Ja I.Bl x) j D ?_
  rw[m]
  exact h f _ (I.tok _) d
theorem lF {Q:Value->Shared->Prop} (n:A.units+1<cLine) (I:Inv X pins σ H s) (g:Nh H a y o) (j:RelV y u) (h:∀m,Inv X pins σ H m->Q (.bool o.isSome) m):
  wpAny (model X.prog X.w) A (compareOp .In u (.ref a)) Q E s:=by
 rcases g with⟨kvs,k,e,d,l⟩|⟨kvs,k,b,e,d,p,l⟩
 ·subst d
  obtain⟨z,f,t,c,i⟩:=FJ I.Bl e
  refine wpAny_in_of (IK j) f i.mapOf ?_
  rw[<-(c.val k).EY,<-l]
  exact h _ (I.tok _)
 ·subst d
  cases(show u=Value.ref b from j)
  obtain⟨z,f,xs,c,i⟩:=LG I.Bl e
  refine wpAny_in_heap (tupleKind_room_in1 n) (Ja I.Bl p) f i ?_
  have q:=(c.val k).EY
  rw[Option.isSome_map]at q
  rw[<-q,<-l]
  exact h _ (I.tok _)
theorem Xx {Q:Value->Shared->Prop} (n:A.units+1<cLine) (I:Inv X pins σ H s) (g:Nh H a y o) (j:RelV y u) (h:∀m,Inv X pins σ H m->Q (.bool (!o.isSome)) m):
  wpAny (model X.prog X.w) A (compareOp .NotIn u (.ref a)) Q E s:=by
 rcases g with⟨kvs,k,e,d,l⟩|⟨kvs,k,b,e,d,p,l⟩
 ·subst d
  obtain⟨z,f,t,c,i⟩:=FJ I.Bl e
  refine wpAny_notIn_of (IK j) f i.mapOf ?_
  rw[<-(c.val k).EY,<-l]
  exact h _ (I.tok _)
 ·subst d
  cases(show u=Value.ref b from j)
  obtain⟨z,f,xs,c,i⟩:=LG I.Bl e
  refine wpAny_notIn_heap (tupleKind_room_in1 n) (Ja I.Bl p) f i ?_
  have q:=(c.val k).EY
  rw[Option.isSome_map]at q
  rw[<-q,<-l]
  exact h _ (I.tok _)
theorem JA {h':Heap} {t':Nat} {c:HO} (I:Inv X pins σ H s) (d:fN (H a)) (hs:Heap.SameBut a s.heap h') (f:∃q,h'.get? a=some q) (new:BJ X.prog X.w (upd H a c) h' a c):
  Inv X pins σ (upd H a c) {s with heap:=h',toks:=t'}:=
 I.write (x:=a) (e:=a) d (.inl rfl) (fun b q g z=>(hs.2 b g).trans z) f new
theorem Jb {P:Program} {w:World} {c:Hp} {h':Heap} {kvs:List (Key×V)} {vs:List (Key×Value)} (z:kvs.length<=sizeLine) (d:(a==sysModules)=false) (b:KV kvs vs) (e:h'.DictOf (Av P w) a vs):
  BJ P w c h' a (.dK kvs):=⟨z,d,vs,b,e⟩
theorem SH {C:Hp} {Q:Unit->Shared->Prop} (M:A.units+1<cLine) (I:Inv X pins σ H s) (g:Ni H a y v C) (D:RelV y u) (F:RelV v r) (h:∀G,Inv X pins σ C G->Q () G):
  wpAny (model X.prog X.w) A (setItem (.ref a) u r) Q E s:=by
 rcases g with⟨kvs,k,e,j,l,m⟩|⟨kvs,k,b,e,j,J,l,m⟩
 ·subst j m
  obtain⟨z,n,N,d,p⟩:=Ub I.Bl e
  have t:N.length<=sizeLine:=by rw[<-d.length];exact z
  have x:(putK kvs k v).length<=sizeLine:=by have:=Fg kvs k v;lia
  refine wpAny_setItem_pairs (hsz:=t) (IK D) p fun K f B=>h _ ?_
  have O:∃q,K.get? a=some q:=let⟨q,_,_,i,_⟩:=f;⟨q,i⟩
  exact JA I (by rw[e];exact True.intro) B O (Jb x n (d.put k F) f)
 ·subst j m
  cases(show u=Value.ref b from D)
  obtain⟨z,n,xs,d,p⟩:=gI I.Bl e
  have t:xs.length<=sizeLine:=by rw[<-Paired.length d];exact z
  have x:(putK kvs k v).length<=sizeLine:=by have:=Fg kvs k v;lia
  refine wpAny_setItem_heap (hsz:=t) (tupleKind_room_in1 M) (Ja I.Bl J) p fun K f B=>h _ ?_
  obtain⟨q,P,R,i,S,T,U,_,W⟩:=f
  refine JA I (by rw[e];exact True.intro) B ⟨q,i⟩ ⟨x,n,_,(d.put k J F).keeps fun c Y L=>?_,q,P,R,i,S,T,U,W⟩
  rw[AR (Tu L e (fun z=>nomatch z))]
  exact L
end
section
variable{X:Cx} {pins:List (Addr×Obj)} {σ:St} {H:Hp} {s:Shared} {a:Addr} {kvs:List (Key×V)} {k:Key} {u:Value} {A:Around} {E:Value->Shared->Prop}
theorem gJ {v:V} {more:List Value} {Q:Value->Shared->Prop} (I:Inv X pins σ H s) (e:H a=some (.dK kvs)) (f:RelV (kV k) u) (l:Ct kvs k=some v) (j:more=[]∨∃x,more=[x])
  (h:∀c m,Inv X pins σ (upd H a (.dK (EX kvs k))) m->RelV v c->Q c m):wpAny (model X.prog X.w) A (call (.builtin "dict.pop") (.ref a::u::more)) Q E s:=by
 obtain⟨z,r,n,b,p⟩:=Ub I.Bl e
 obtain⟨c,hw,g⟩:=Ih.some_of (v:=v) (o:=valueAt n k) (by rw[<-l];exact b.val k)
 have y:(keyPart u).isSome=true:=by
  cases k with
  |inl i=>obtain⟨t,q⟩:=(show∃t,u=Value.int i t from f);subst q;rfl
  |inr x=>obtain⟨t,q⟩:=(show∃t,u=Value.str x t from f);subst q;rfl
 have B:argsOk "dict.pop" ⟨.ref a::u::more,[]⟩:=by
  rcases j with q|⟨x,q⟩
  ·subst q;exact PySem.F.args_dict_pop_2 _ _
  ·subst q;exact PySem.F.args_dict_pop_3 _ _ _
 refine call_meetsIn PySem.F.slot_dict_pop p.typeIs PySem.F.entry_dict_pop B (meets_dict_pop_there (Av X.prog X.w) a (IK f) more j y)
  ⟨n,c,p,by rw[<-b.length];exact z,hw,fun C d D=>h c _ ?_ g⟩
 have G:∃q,C.get? a=some q:=let⟨q,_,_,J,_⟩:=d;⟨q,J⟩
 exact JA I (by rw[e];exact True.intro) D G (Jb (Nat.le_trans (Ua kvs k) z) r (b.drop k) d)
end
def gK (i:Expr):Prop:=∀ov a,subscripted i false ov a=operate [ov,a] (getItem ov a)
theorem Xy {prog:Program} {w:World} {A:Around} {E:Value->Shared->Prop} {s:Shared} {env:Env} {value slice:Expr} {pos:Pos} {T id:String} {Q:Value->Shared->Prop}
  (j:typeLookup (.type T) "__getitem__"=pure (some (.builtin id))) (hs:gK slice)
  (h:wpAny (model prog w) A (eval value env) (fun o c=>wpAny (model prog w) A (eval slice env) (fun i a=>a.TypeIs o T/\wpAny (model prog w) A (getItem o i) Q E a) E c) E s):
  wpAny (model prog w) A (eval (.Subscript value slice pos) env) Q E s:=by
 refine Subscript_ (wpAny_mono h (fun o c e=>wpAny_mono e (fun i a b=>?_) fun _ _ x=>x) fun _ _ x=>x)
 obtain⟨g,b⟩:=b
 unfold subscriptTail
 refine wpAny_bind ?_
 rw[getitemInPython_of_ne g.not_modules]
 refine wpAny_bind (wpAny_specialOf g j ?_)
 have fin:wpAny (model prog w) A (subscripted slice false o i) (fun r d=>wpAny (model prog w) A (letTemporaryGo value o r>>=fun _=>pure r) Q E d) E a:=by
  rw[hs o i]
  exact wpAny_operating (wpAny_mono b (fun r d f=>wpAny_bind (wpAny_letTemporaryGo (wpAny_pure f))) fun _ _ x=>x)
 first
  |exact wpAny_pure (wpAny_bind fin)
  |exact wpAny_bind (wpAny_pure (wpAny_bind fin))
  |exact wpAny_bind fin
theorem Nj {X:Cx} {pins:List (Addr×Obj)} {σ:St} {H:Hp} {s:Shared} {a:Addr} {y:V} {o:Option V} (I:Inv X pins σ H s) (g:Nh H a y o):s.TypeIs (.ref a) "dict":=by
 rcases g with⟨kvs,k,e,_,_⟩|⟨kvs,k,b,e,_,_,_⟩
 ·obtain⟨_,_,d,_,c⟩:=FJ I.Bl e
  exact c.typeIs
 ·obtain⟨_,_,xs,_,c⟩:=LG I.Bl e
  exact c.typeIs
inductive wK (x y:V) (H:Hp) (Q:VK):Prop
 |mk (a:Addr) (v:V) (e:x=.ref a) (g:Nh H a y (some v)) (q:Q v H):wK x y H Q
inductive wM (x y:V) (H:Hp) (Q:VK):Prop
 |mk (a:Addr) (o:Option V) (e:x=.ref a) (g:Nh H a y o) (q:Q (.bl o.isSome) H):wM x y H Q
inductive wN (x y:V) (H:Hp) (Q:VK):Prop
 |mk (a:Addr) (o:Option V) (e:x=.ref a) (g:Nh H a y o) (q:Q (.bl (!o.isSome)) H):wN x y H Q
def gL (b ty:TE):TE:=fun a H Q=>b a H fun x c=>ty a c fun y d=>wK x y d Q
def lG (ty b:TE):TE:=fun a H Q=>ty a H fun y c=>b a c fun x d=>wM x y d Q
def Xz (ty b:TE):TE:=fun a H Q=>ty a H fun y c=>b a c fun x d=>wN x y d Q
def gM (d ty e:TE):TS:=fun D b H=>e b H fun v f=>d b f fun x g=>ty b g fun y h=>∃a c,x=.ref a/\Ni h a y v c/\D.nx b c
section
variable{X:Cx} {o i e value:Expr} {pos pos' kr:Pos} {td ty tv:TE}
theorem HA (f:X.A.units+1<cLine) (j:PE X o td) (k:PE X i ty) (hs:gK i):PE X (.Subscript o i pos) (gL td ty):=by
 intro pins s c H Q I h
 refine Xy PySem.F.slot_dict_getitem.lookup hs (BX (j pins s c H _ I h) fun u l m=>m.elim fun x n p q r=>BX (k pins l c n _ p r) fun D E ⟨y,t,d,w,a,v,z,g,B⟩=>?_)
 subst z
 obtain rfl:u=Value.ref a:=q
 exact⟨Nj d g,SG f d g w fun G J C b=>⟨v,t,C,b,B⟩⟩
theorem bP (c:X.A.units+1<cLine) (d:PE X i ty) (f:PE X o td):PC X .In i o (lG ty td):=by
 intro pins s b H Q I h
 refine BX (d pins s b H _ I h) fun B j k=>k.elim fun y l m n p=>BX (f pins j b l _ m p) fun u C ⟨x,q,r,t,a,ov,v,g,w⟩=>?_
 subst v
 obtain rfl:u=Value.ref a:=t
 exact lF c r g n fun D z=>⟨.bl ov.isSome,q,z,rfl,w⟩
theorem SI (c:X.A.units+1<cLine) (d:PE X i ty) (f:PE X o td):PC X .NotIn i o (Xz ty td):=by
 intro pins s b H Q I h
 refine BX (d pins s b H _ I h) fun B j k=>k.elim fun y l m n p=>BX (f pins j b l _ m p) fun u C ⟨x,q,r,t,a,ov,v,g,w⟩=>?_
 subst v
 obtain rfl:u=Value.ref a:=t
 exact Xx c r g n fun D z=>⟨.bl (!ov.isSome),q,z,rfl,w⟩
theorem MF (d:X.A.units+1<cLine) (f:PE X o td) (j:PE X i ty) (k:PE X value tv) (hs:swapsWith value (some (.Subscript o i pos')) pos.line X.env=pure false):
  PS X (.Assign [.Subscript o i pos'] value pos) (gM td ty tv):=by
 intro pins s b H D I h
 refine wpAny_Assign_Subscript (BX (k pins s b H _ I h) fun r l c=>c.elim fun v m n p q=>BX (f pins l b m _ n q) fun u t c=>c.elim fun x w z B C=>BX (j pins t b w _ z C) fun M N ⟨y,O,E,F,a,G,J,g,K⟩=>?_) hs
 subst J
 obtain rfl:u=Value.ref a:=B
 exact SH d E g F p fun P L=>⟨b,G,L,K⟩
end
theorem Uc {P:Program} {w:World} {H:Hp} (h:Heap) (a:sysModules<h.objs.size):BJ P w H (h.push {cls:=.type "dict",data:=.dict #[]}) h.objs.size (.dK []):=
 ⟨Nat.zero_le _,beq_eq_false_iff_ne.mpr (Ne.symm (Nat.ne_of_lt a)),[],.nil,Heap.DictOf.new h⟩
section
variable{X:Cx} {pos:Pos}
end
def PL:List (TE×TE)->St->Hp->(List (V×V)->Hp->Prop)->Prop
 |[],_,H,Q=>Q [] H
 |(tk,a)::r,σ,H,Q=>tk σ H fun x b=>a σ b fun y H2=>PL r σ H2 fun ps c=>Q ((x,y)::ps) c
abbrev VV:List (V×V)->List (Value×Value)->Prop:=Paired fun p q=>RelV p.1 q.1/\RelV p.2 q.2
def ju (X:Cx) (pos:Pos) (keys:List (Option Expr)) (values:List Expr) (a:List (TE×TE)):Prop:=
 ∀(pins:List (Addr×Obj)) (s:Shared) (b:St) (H:Hp) (Q:List (V×V)->Hp->Prop),Inv X pins b H s->PL a b H Q->
  wpAny (model X.prog X.w) X.A (evalPairs (pairTrees keys values X.env pos)) (fun e f=>∃c d,Inv X pins b d f/\VV c e/\Q c d) X.xe s
theorem X_ {X:Cx} {pos:Pos}:ju X pos [] [] []:=fun pins s a H Q I h=>pairTrees_nil_walk ⟨[],H,I,.nil,h⟩
theorem Jc {X:Cx} {pos:Pos} {k v:Expr} {ks:List (Option Expr)} {vs:List Expr} {tk d:TE} {a:List (TE×TE)} (e:PE X k tk) (f:PE X v d) (g:ju X pos ks vs a):
  ju X pos (some k::ks) (v::vs) ((tk,d)::a):=fun pins s b H Q I h=>
 pairTrees_cons_walk (BX (e pins s b H _ I h) fun u i j=>j.elim fun x l m n o=>BX (f pins i b l _ m o) fun D p ⟨y,q,r,t,w⟩=>
  BX (g pins p b q _ r w) fun E F ⟨z,A,B,c,C⟩=>⟨(x,y)::z,A,B,.cons ⟨n,t⟩ c,C⟩)
def DB (kvs more:List (Key×V)):List (Key×V):=more.foldl (fun a b=>putK a b.1 b.2) kvs
theorem KV.merge:∀{more:List (Key×V)} {a:List (Key×Value)} {kvs:List (Key×V)} {vs:List (Key×Value)},KV more a->KV kvs vs->KV (DB kvs more) (merged vs a):=by
 intro more a kvs vs r
 unfold KV at r
 induction r generalizing kvs vs with
 |nil=>intro q;exact q
 |@cons p q d f h t b=>
  intro c
  have e:KV (putK kvs p.1 p.2) (stored vs q.1 q.2):=by
   have:=c.put p.1 h.2
   rw[<-h.1];exact this
  exact b e
theorem EK:∀(more kvs:List (Key×V)),(DB kvs more).length<=kvs.length+more.length
 |[],kvs=>by show kvs.length<=kvs.length+0;lia
 |p::r,kvs=>by
  have a:=EK r (putK kvs p.1 p.2)
  have b:=Fg kvs p.1 p.2
  show(DB (putK kvs p.1 p.2) r).length<=_
  rw[List.length_cons];lia
theorem Jd {P:Program} {w:World}:∀{kvs:List (Key×V)} {ws:List (Value×Value)},VV (kvs.map fun e=>(kV e.1,e.2)) ws->∃d,Carries (Av P w) ws d/\KV kvs d
 |[],_,r=>by rw[List.map_nil]at r;cases r;exact⟨[],True.intro,.nil⟩
 |p::kvs,_,r=>by
  rw[List.map_cons]at r
  cases r with
  |@cons a b g bs h t=>
   obtain⟨d,c,q⟩:=Jd (P:=P) (w:=w) t
   obtain⟨i,f⟩:=b
   exact⟨(p.1,f)::d,⟨IK h.1,rfl,c⟩,.cons ⟨rfl,h.2⟩ q⟩
def gN (a:List (TE×TE)):TE:=fun d H Q=>∀p,H p=none->PL a d (upd H p (.dK [])) fun e b=>b p=some (.dK [])/\∃kvs:List (Key×V),e=kvs.map (fun c=>(kV c.1,c.2))/\kvs.length<=15/\Q (.ref p) (upd b p (.dK (DB [] kvs)))
theorem X' {X:Cx} {pos:Pos} {keys:List (Option Expr)} {values:List Expr} {b:List (TE×TE)} (h:ju X pos keys values b) (d:keys.all (·.isSome)=true) (k:keys.length=values.length) (l:keys≠[])
  (g:keys.length<=15):PE X (.Dict keys values pos) (gN b):=by
 intro pins s m H Q I q
 have n:=I.Bl.fresh (Nat.le_refl s.heap.objs.size)
 have p:=I.laid (a:=s.heap.objs.size) (o:=.dK []) (h':=s.heap.push {cls:=.type "dict",data:=.dict #[]}) (t':=s.toks) (fun _ _ q=>Heap.get?_push_of_some _ q) (Nat.le_refl _) (Uc s.heap I.big)
 refine wpAny_Dict_walk (knd:=Av X.prog X.w) d k l g (BX (h pins _ m _ _ p (q _ n)) fun J K ⟨L,M,j,i,e,kvs,r,lk,t⟩=>?_)
 subst r
 obtain⟨u,c,v⟩:=Jd (P:=X.prog) (w:=X.w) i
 obtain⟨z,x,y,A,B⟩:=Ub j.Bl e
 cases A
 refine⟨u,c,B,fun h' f C=>⟨.ref s.heap.objs.size,_,?_,rfl,t⟩⟩
 have D:(DB [] kvs).length<=sizeLine:=by
  have E:=EK kvs []
  rw[List.length_nil]at E
  rw[sizeLine_eq];lia
 have F:∃q,h'.get? s.heap.objs.size=some q:=let⟨q,_,_,G,_⟩:=f;⟨q,G⟩
 exact JA j (by rw[e];exact True.intro) C F (Jb D x (v.merge .nil) f)
structure M1 (X:Cx) (o:Expr) (m:Str) (apos:Pos) (e:Expr) (Dv:Pos):Prop where
 base:attributeBase o m X.env (eval o X.env)=eval o X.env
 lH:((backTo Dv (starEach [e] X.env)).all (fun x=> !x.1)&&(backToKw Dv (keywordEach [] X.env)).all (fun x=>x.1.isSome)
  &&decide (([e]:List Expr).length+([]:List Keyword).length+(if([]:List Keyword).isEmpty then 0 else 1)<30))=true
 line:(apos.endLine==Dv.line)=true
 trees:backTo Dv (starEach [e] X.env)=[(false,eval e X.env)]
structure M2 (X:Cx) (o:Expr) (m:Str) (apos:Pos) (e f:Expr) (Dv:Pos):Prop where
 base:attributeBase o m X.env (eval o X.env)=eval o X.env
 lH:((backTo Dv (starEach [e,f] X.env)).all (fun x=> !x.1)&&(backToKw Dv (keywordEach [] X.env)).all (fun x=>x.1.isSome)
  &&decide (([e,f]:List Expr).length+([]:List Keyword).length+(if([]:List Keyword).isEmpty then 0 else 1)<30))=true
 line:(apos.endLine==Dv.line)=true
 trees:backTo Dv (starEach [e,f] X.env)=[(false,eval e X.env),(false,eval f X.env)]
def wO (H:Hp) (a:Addr):Prop:=(∃kvs,Rd H a (.dK kvs))∨∃kvs,Rd H a (.dT kvs)
theorem bQ {X:Cx} {pins:List (Addr×Obj)} {σ:St} {H:Hp} {s:Shared} {a:Addr} (I:Inv X pins σ H s) (d:wO H a):
  s.TypeIs (.ref a) "dict"/\(∀b,Value.ref a=.ref b->∃c,s.heap.get? b=some c/\c.dict=none)/\(a==sysModules)=false:=by
 rcases d with⟨kvs,e⟩|⟨kvs,e⟩
 ·obtain⟨_,g,j,_,f⟩:=FJ I.Bl e
  refine⟨f.typeIs,fun b q=>?_,g⟩
  cases q
  obtain⟨c,_,_,h,i,_⟩:=f
  exact⟨c,h,i.2.1⟩
 ·obtain⟨_,g,xs,_,f⟩:=LG I.Bl e
  refine⟨f.typeIs,fun b q=>?_,g⟩
  cases q
  obtain⟨c,_,_,h,i,_⟩:=f
  exact⟨c,h,i.2.1⟩
section
variable{X:Cx} {pins:List (Addr×Obj)} {σ:St} {H:Hp} {s:Shared} {a:Addr} {y d:V} {u r:Value} {o:Option V} {A:Around} {E:Value->Shared->Prop}
end
def bR (e ty:TE):TE:=fun b H Q=>e b H fun x c=>∃a,x=.ref a/\wO c a/\ty b c fun y d=>∃kvs k v,d a=some (.dK kvs)/\y=kV k/\Ct kvs k=some v/\Q v (upd d a (.dK (EX kvs k)))
section
variable{X:Cx} {o e f:Expr} {apos Dv:Pos} {td ty tx:TE}
theorem Ud (i:PE X o td) (j:PE X e ty) (m:M1 X o "pop" apos e Dv):PE X (.Call (.Attribute o "pop" apos) [e] [] Dv) (bR td ty):=by
 intro pins s c H Q I h
 refine wpAny_Call_method m.base m.lH m.line PySem.F.plainAttrs_dict PySem.F.slot_dict_pop PySem.F.type_dict_pop (BX (i pins s c H _ I h) fun u n ⟨x,p,g,q,a,r,d,t⟩=>?_)
 subst r
 obtain rfl:u=Value.ref a:=q
 obtain⟨w,z,_⟩:=bQ g d
 refine⟨w,z,?_⟩
 rw[m.trees]
 refine Calls.callWith_builtin rfl (Calls.evalArgs_plain (Calls.spliced_cons (BX (j pins n c p _ g t) fun J K ⟨y,L,A,B,kvs,k,v,C,D,l,E⟩=>Calls.spliced_nil ?_)))
 subst D
 exact gJ A C B l (.inl rfl) fun M N G b=>⟨v,_,G,b,E⟩
end
section
variable{X:Cx} {pins:List (Addr×Obj)} {σ:St} {H:Hp} {s:Shared} {a:Addr} {kvs:List (Key×V)} {A:Around} {E:Value->Shared->Prop}
theorem Ue {Q:Value->Shared->Prop} (I:Inv X pins σ H s) (e:Rd H a (.dK kvs)) (h:∀p f,H p=none->Inv X pins σ (upd H p (.dK kvs)) f->Q (.ref p) f):wpAny (model X.prog X.w) A (call (.type "dict") [.ref a]) Q E s:=by
 obtain⟨z,i,l,c,j⟩:=FJ I.Bl e
 refine kt_call_dict i j (by rw[<-c.length];exact z) fun m d k=>?_
 refine h _ _ (I.Bl.fresh (Nat.le_refl _)) (I.laid (a:=s.heap.objs.size) (o:=.dK kvs) (t':=s.toks) (fun b q g=>?_) (Nat.le_refl _) (Jb z (beq_eq_false_iff_ne.mpr (Ne.symm (Nat.ne_of_lt I.big))) c d))
 exact(k.2 b (Nat.ne_of_lt (Heap.lt_size g))).trans (Heap.get?_push_of_some _ g)
end
section
variable{X:Cx} {pins:List (Addr×Obj)} {σ:St} {H:Hp} {s:Shared} {a:Addr} {y:V} {u:Value} {A:Around} {E:Value->Shared->Prop}
end
end L2
namespace wQ
open PySem PySem.W PySem.Calls PyProof.Rows
theorem Ip {P:Params} {h:Heap}:∀(c:List Int) (vs:List Value),WellAll P h vs (c.map WData.int)->IntsAre vs c:=by
 intro c
 induction c with
 |nil=>
  intro vs w
  rw[List.map_nil]at w
  cases w
  exact .nil
 |cons n c d=>
  intro vs w
  rw[List.map_cons]at w
  cases w with
  |cons a b=>
   cases a
   exact .cons _ _ (d _ b)
theorem SJ {l:OpenLaw} {n:Nat} (m:l.most=some n) {P:Params} {h:Heap} {args:List WData} {vals:List Value}
  (c:l.row.toRowW.claim.pre args=true) (i:WellAll P h vals args):
  ∃a vs b,vals=[Value.ref a]/\args=[WData.list (b.map WData.int)]/\h.get? a=some {cls:=.type "list",data:=.seq vs.toArray}/\IntsAre vs b/\b.length<=n:=by
 have j:WShape.hasAll [] args [.list .int]=true:=(pre_splitW c).1
 have k:l.pre.holds [] {args:=args}=true:=(pre_splitW c).2
 obtain⟨d,r,rfl,o,p⟩:=hasAllW_cons j
 obtain rfl:=hasAllW_nil p
 obtain⟨xs,rfl,s⟩:=hasW_list o
 obtain⟨b,rfl⟩:=items_int s
 have hlen:b.length<=n:=by
  unfold OpenLaw.pre at k
  have f:(WTm.not (.lt (.lit (.int (n:Int))) (.len (.arg 0)))).holds [] {args:=[.list (b.map .int)]}=true:=by
   have f:=(holds_andW k).1
   rw[m]at f
   exact f
  have g:=condW_of f (w_not (w_lt w_lit (w_len_list (w_arg rfl))))
  rw[List.length_map]at g
  refine Nat.le_of_not_lt fun q=>?_
  have t:(n:Int)<((b.length:Nat):Int):=by lia
  first
   |(rw[decide_eq_true t]at g;exact absurd g (by decide))
   |(simp at g;lia)
 cases i with
 |cons u v=>
  cases v
  cases u with
  |list w e=>exact⟨_,_,b,rfl,rfl,w,Ip b _ e,hlen⟩
theorem SK (l:OpenLaw) (args:List WData):l.row.toRowW.claim.post args (.bool true) args=true:=
 postW_of (r:=l.row.toRowW) (X:=(true==true))
  (show WShape.has [] (.bool true) .bool=true by first|rfl|decide|simp[WShape.has,WShape.arms,WShape.armsAll])
  (show(WTm.eq .res (.lit (.bool true))).value [] {args:=args,res:=some (.bool true),after:=args}=some (.bool (true==true))from w_eq_bool (w_res rfl) w_lit) rfl
theorem Nk {l:OpenLaw} {n:Nat} {q:Program} {loose:List Str} {v:(Str->Option Value)->Heap->Prop} {YP:World->Heap->Prop} {d:DefRec}
  (z:l.most=some n) (k:d.params.defaults=[])
  (call:∀(w:World) (s₀ b:Shared) (mg m:Str->Option Value) (c:Addr) (o:Obj) (p h doc:Value) (a:Addr) (vs:List Value) (i:List Int),
   Ground q loose [] v w s₀ mg m b.heap->YP w b.heap->
   b.heap.get? c=some o->o.data=.func (docDef d.name d.params d.body d.scope p h doc)->b.heap.CodeRec h d.name->mg d.name=some (.ref c)->
   b.heap.get? a=some {cls:=.type "list",data:=.seq vs.toArray}->IntsAre vs i->i.length<=n->b.gens= #[]->
   codeAny (model l.prog w) callerA (.call (.ref c) ⟨[.ref a],[]⟩) (fun r j=>r=.ok (.ret (.bool true))/\OldK b.heap j.heap/\j.os=b.os/\AllBare j.gens) b):
  WalkO q loose v YP l.row.toRowW d [] (fun f vs=>PySem.call f vs):=by
 intro w s₀ b mg m G Y c o p h doc A kV B C s x t D args vals M e y E u F
 obtain rfl:A=.none:=Dflts.none x k
 obtain rfl:kV=.none:=Dflts.noKw x
 obtain⟨a,vs,i,rfl,rfl,g,hints,hlen⟩:=SJ z e u
 refine enter_call (codeAny_mono (call w s₀ b mg m c o p h doc a vs i G Y B (fd_plain C) s t g hints hlen D) fun r j H=>?_)
 obtain⟨rfl,I,J,K⟩:=H
 exact⟨.inl ⟨.bool true,.bool true,[],rfl,fun _=>rfl,.bool true,SK l _,fun _=>⟨List.Pairwise.nil,fun _ L=>(nomatch L)⟩⟩,I,J,K⟩
section
variable{prog:Program} {w:World} {A:Around} {E:Value->Shared->Prop} {s:Shared} {K:Frag}
end
end wQ
namespace L2
open PySem PySem.Spec PyProof.Rows
theorem SM {vs:List Value} {a:List Int} (h:IntsAre vs a):Vals (a.map V.int) vs:=by
 induction h with
 |nil=>exact .nil
 |cons n t _ b=>exact .cons ⟨t,rfl⟩ b
def bS (H:Hp):Prop:=∀b,H b=none∨∃o xs,H b=some (.Cz o (.lst xs))
theorem Ug {P:Program} {w:World} {K:ACH} {mg L:Str->Option Value} {CX:NZ} {k:Nat} {M a:Addr} {U:FuncData} {x:Str} {sp:Sp} {c:Shared} {vs:List Value} {p:List Int}
  (X:K.In c.heap) (t:c.heap.Ns mainGlobals mg) (g:c.heap.Ns builtinsNs L) (N:∀x:Str,x≠"__name__"->L x=bootBuiltins x) (y:c.heap.NoLimit) (hg:c.gens= #[])
  (J:c.heap.get? a=some {cls:=.type "list",data:=.seq vs.toArray}) (Y:IntsAre vs p) (Z:p.length<=sizeLine) (hr:Ac k callerA)
  (F:∀base:Heap,K.In base->base.Ns mainGlobals mg->BG P w K mg base CX k M U [x] sp) (l:∀(s:Shared) (u:Value),BindsTo s U ⟨[u],[]⟩ [(x,u)])
  (O:∀H:Hp,bS H->Bd K H a (p.map V.int)->sp [.ref a] H (fun v _=>v=.bl true) fun _ _ _=>False)
  (Q:∀H e i,CX [] H c (fun _ _ _=>False) e i->False):
  codeAny (model P w) callerA (.call (.ref M) ⟨[.ref a],[]⟩) (fun r i=>r=.ok (.ret (.bool true))/\OldK c.heap i.heap/\i.os=c.os/\AllBare i.gens) c:=by
 have rv:=SM Y
 have A:=Y.length
 have core:∀H:Hp,bS H->Bd K H a (p.map V.int)->GQ P w H c.heap->(∀b,H b≠none->b=a)->(H a≠none->K.lookup a=none)->
   codeAny (model P w) callerA (.call (.ref M) ⟨[.ref a],[]⟩) (fun r i=>r=.ok (.ret (.bool true))/\OldK c.heap i.heap/\i.os=c.os/\AllBare i.gens) c:=by
  intro H hO hS B hA hK
  have f:∀{b:Addr} {o:Obj},c.heap.get? b=some o->H b=none->(Lx c.heap H).get? b=some o:=fun e n=>Tv e n
  have R:∀{b:Addr} {o:Obj} {C:Array DictEntry} {D:Nat},c.heap.get? b=some o->o.data=.dict C D->H b=none:=fun{b o C D} e d=>by
   cases q:H b with
   |none=>rfl
   |some u=>
    have S:b=a:=hA b (by rw[q];simp)
    subst S
    rw[J]at e;cases e
    have d':Data.seq vs.toArray _=Data.dict C D:=d
    cases d'
  have j:∀{b:Addr} {m:Str->Option Value},c.heap.Ns b m->(Lx c.heap H).Ns b m:=fun{b m} ⟨o,C,D,e,d,r⟩=>⟨o,C,D,f e (R e d),d,r⟩
  have E:K.In (Lx c.heap H):=fun b o e=>f (X b o e) (by
   cases q:H b with
   |none=>rfl
   |some u=>
    have S:b=a:=hA b (by rw[q];simp)
    subst S
    rw[hK (by rw[q];simp)]at e;cases e)
  have hM:Mod K mg (Lx c.heap H):=⟨E,j t,⟨L,j g,N⟩,let⟨mc,h1,h2⟩:=y;⟨mc,j h1,h2⟩⟩
  have e0:UO P w K mg (Lx c.heap H) callerA [] c H:=⟨rfl,hM,fun b o e=>Xg e,Nat.le_of_eq (Rn _ _),trivial,fun b g=>absurd (show b∈([]:List Addr)from g) (by simp),B,.of_eq hg⟩
  refine codeAny_mono ((F _ E (j t)).run callerA [] c H ⟨[.ref a],[]⟩ [.ref a] [.ref a] _ _ hr e0 (l c (.ref a)) (.cons rfl .nil) (O H hO hS)) fun r i h=>?_
  cases r with
  |error e=>exact(Q H e i h).elim
  |ok fl=>
   cases fl with
   |next=>exact False.elim h
   |brk=>exact False.elim h
   |cont=>exact False.elim h
   |ret u=>
    obtain⟨v,H',os,bare,un,G,r',q⟩:=h
    have q':v=.bl true:=q
    subst q'
    obtain rfl:u=Value.bool true:=r'
    refine⟨rfl,OldK.of_keep fun b o e=>?_,os,bare⟩
    cases q:H b with
    |none=>exact un.keep b o e q (by intro z;exact absurd (show b∈([]:List Addr)from z) (by simp)) (by simp)
    |some u=>
     rcases hO b with z|⟨ob,xs,z⟩
     ·rw[q]at z;cases z
     ·have z2:=un.JM b ob _ z
      obtain⟨e1,_⟩:=B b _ z
      obtain⟨e2,_⟩:=G b _ z2
      rw[e]at e1;cases e1
      exact e2
 cases T:K.lookup a with
 |some o=>
  have e:=X a o T
  rw[J]at e
  cases e
  refine core (fun _=>none) (fun _=>.inl rfl) (.inr ⟨_,vs.toArray,_,T,rfl,rfl,rfl,by rw[List.size_toArray,A];exact Z,by simpa using rv⟩) (fun b u z=>by have I:(none:Option HO)=some u:=z;cases I) (fun b z=>absurd rfl z) fun z=>absurd rfl z
 |none=>
  refine core (fun b=>if b=a then some (.Cz {cls:=.type "list",data:=.seq vs.toArray} (.lst (p.map V.int)))else none) (fun b=>?_) (.inl (.inr ⟨{cls:=.type "list",data:=.seq vs.toArray},if_pos rfl⟩)) (fun b u z=>?_) (fun b z=>?_) fun _=>T
  ·by_cases g:b=a
   ·exact .inr ⟨_,_,if_pos g⟩
   ·exact .inl (if_neg g)
  ·by_cases g:b=a
   ·have I:=(if_pos g).symm.trans z
    cases I
    subst g
    exact⟨J,by rw[List.length_map];exact Z,vs,_,rv,J⟩
   ·have I:=(if_neg g).symm.trans z
    cases I
  ·by_cases g:b=a
   ·exact g
   ·exact absurd (if_neg g) z
theorem YA {l:PySem.W.OpenLaw} {n k:Nat} {q:Program} {loose:List Str} {E:(Str->Option Value)->Heap->Prop} {YP:World->Heap->Prop} {d:DefRec} {K:Params->ACH} {CX:World->NZ} {sp:World->Sp} {x:Str}
  (I:l.most=some n) (p:n<=sizeLine) (r:d.params.defaults=[]) (J:Ac k callerA)
  (L:∀(w:World) (h:Heap),YP w h->(K w.params).In h)
  (F:∀(w:World) (mg:Str->Option Value) (j:Addr) (h:Heap),(K w.params).In h->h.Ns mainGlobals mg->mg d.name=some (.ref j)->
   ∃t:FuncData,(∀(s:Shared) (u:Value),BindsTo s t ⟨[u],[]⟩ [(x,u)])/\
    ∀base:Heap,(K w.params).In base->base.Ns mainGlobals mg->BG l.prog w (K w.params) mg base (CX w) k j t [x] (sp w))
  (y:∀(w:World) (H:Hp) (a:Addr) (m:List Int),m.length<=n->bS H->Bd (K w.params) H a (m.map V.int)->sp w [.ref a] H (fun v _=>v=.bl true) fun _ _ _=>False)
  (z:∀(w:World) (H:Hp) (s:Shared) (e:Value) (A:Shared),CX w [] H s (fun _ _ _=>False) e A->False):
  PySem.W.WalkO q loose E YP l.row.toRowW d [] (fun f vs=>PySem.call f vs):=by
 refine wQ.Nk I r fun w C c mg S j o U X doc a vs m G Y Z hd M B i hints hlen N=>?_
 have D:=L w _ Y
 obtain⟨t,O,P⟩:=F w mg j _ D G.T.g B
 exact Ug D G.T.g G.T.b G.T.builtins G.T.nolimit N i hints (Nat.le_trans hlen p) J P O (fun H Q R=>y w H a m hlen Q R) fun H e A=>z w H c e A
def AY (s:Stmt):Arguments:=match s with
 | .FunctionDef _ a _ _ _ _ _ _ _ _=>a
 |_=>{posonlyargs:=[],args:=[],vararg:=none,kwonlyargs:=[],kw_defaults:=[],kwarg:=none,defaults:=[]}
def AW (s:Stmt):List Stmt:=match s with
 | .FunctionDef _ _ b _ _ _ _ _ _ _=>b
 |_=>[]
def AH (s:Stmt):Scope:=match s with
 | .FunctionDef _ _ _ _ _ _ a _ _ _=>a
 |_=>{kind:=.function,names:=[],isGenerator:=false,isCoroutine:=false}
abbrev DC:NZ:=fun _ _ _ _ _ _=>False
abbrev E0:XK:=fun _ _ _=>False
theorem AN {X:Cx}:Passes DC X E0:=fun _ _ _ _ _ _ _ h=>h.elim
structure DW (K:ACH) (x qual:Str) (st:Stmt) (f:Addr) (fd:FuncData):Prop where
 ex:∃(oc:Value) (od:Option Addr) (kV doc pm:Value) (an:Option Addr) (Iq ct:Value) (yN:Array (Option Value)),
  fd=PySem.W.fnOf x qual (AY st) (AW st) (AH st) .none kV doc pm an Iq ct/\K.lookup f=some ⟨oc,od,.func fd,yN⟩/\PySem.W.codeIn K Iq qual=true
 kp:PySem.W.keepIn K (.ref f)=true
section
variable{P:Program} {w:World} {K:ACH} {mg:Str->Option Value} {base:Heap}
theorem DW.ok {x qual:Str} {st:Stmt} {f:Addr} {e:FuncData} {N ps:List Str} {k:Nat} {sp:Sp} (F:DW K x qual st f e) (S:Aa N ps (AH st)) (len:∀vs H Q E,sp vs H Q E->vs.length=ps.length)
  (b:∀(a:Value) (A:Around) (outer:List Env) (s:Shared) (H:Hp) (vs:List V) (Q:VK) (E:XK),Ac k (A.deeper (envOfC qual (AH st) s.heap.objs.size f a))->sp vs H Q E->
   ∃t,Rq (R' DC P w K mg base N qual (AH st) f a A outer s H E).jm (AW st) t/\t {nx:=fun _ g=>Q .Ao g,rt:=Q} (start N vs) H):BG P w K mg base DC (k+1) f e ps sp:=by
 obtain⟨l,m,kV,doc,n,o,a,p,i,rfl,lk,c⟩:=F.ex
 refine fz lk c S len fun A outer s H vs Q E j d=>?_
 obtain⟨t,h,q⟩:=b a A outer s H vs Q E j d
 exact⟨t,h.jm,q⟩
theorem DW.binds {x qual:Str} {st:Stmt} {f:Addr} {d:FuncData} {ps:List Str} (F:DW K x qual st f d)
  (h:∀(kV doc b:Value) (c:Option Addr) (a ct:Value) (us:List Value),us.length=ps.length->bindArgs (PySem.W.fnOf x qual (AY st) (AW st) (AH st) .none kV doc b c a ct) ⟨us,[]⟩=pure (ps.zip us)):Binds K d ps []:=by
 obtain⟨i,j,kV,doc,b,c,a,ct,e,rfl,lk,g⟩:=F.ex
 exact .all (h kV doc b c a ct)
theorem Ai {x qual:Str} {st:Stmt} {f:Addr} {g:Value} {h d:Option Addr} {b:Array (Option Value)} {kV doc e a ct:Value} (l:K.lookup f=some ⟨g,h,.func (PySem.W.fnOf x qual (AY st) (AW st) (AH st) .none kV doc e d a ct),b⟩)
  (c:PySem.W.codeIn K a qual=true) (k:PySem.W.keepIn K (.ref f)=true):DW K x qual st f (PySem.W.fnOf x qual (AY st) (AW st) (AH st) .none kV doc e d a ct):=⟨⟨g,h,kV,doc,e,d,a,ct,b,rfl,l,c⟩,k⟩
end
theorem BC {A:Around} {k:Nat} (a:Ac k A):A.units+1<cLine:=Nat.lt_of_le_of_lt (Nat.add_le_add_left (by decide:1<=64) _) a.units
theorem BQ {n:Nat} (h:n<=1000):n<sizeLine:=Nat.lt_of_le_of_lt h (by decide)
section
variable{X:Cx}
theorem pv (i:Nat) {x:Str} {pos:Pos} (b:X.N[i]?=some x:=by rfl) (c:kU X.env.scope x:=by first|exact Or.inl rfl|exact Or.inr (Or.inl rfl)|exact Or.inr (Or.inr rfl)) (d:(x==("__debug__":Str))=false:=by decide)
  (a:(x==("__classdict__":Str))=false:=by decide):PE X (.Name x pos) (Ez i):=ay b c d a
inductive MG (xs:List V) (H:Hp) (Q:VK):Prop
 |mk (a:_) (kvs:_) (b:xs=[V.ref a]) (c:H a=some (.dK kvs)) (d:Q (.int kvs.length) H):MG xs H Q
end
theorem BO {A B:Prop} (h:B):if false=true then A else B:=by
 rw[if_neg Bool.false_ne_true]
 exact h
theorem BF {A B:Prop} (h:A):if true=true then A else B:=by
 rw[if_pos rfl]
 exact h
theorem DZ {c A B:Prop} [Decidable c] (a:c->A) (b:¬c->B):if c then A else B:=by
 by_cases h:c
 ·rw[if_pos h]
  exact a h
 ·rw[if_neg h]
  exact b h
def AJ (H a:Hp):Prop:=∀b o,H b=some o->a b=some o
theorem AJ.refl (H:Hp):AJ H H:=fun _ _ h=>h
theorem AJ.trans {H d H2:Hp} (a:AJ H d) (b:AJ d H2):AJ H H2:=fun c o h=>b c o (a c o h)
theorem AJ.free {H a:Hp} (e:AJ H a) {l:Addr} (h:a l=Option.none):H l=Option.none:=by
 cases q:H l with
 |none=>rfl
 |some o=>
  rw[e l o q]at h
  cases h
theorem AJ.seq {K:ACH} {H b:Hp} {a:Addr} {xs:List V} (e:AJ H b) (h:Bd K H a xs):Bd K b a xs:=by
 rcases h with(h|⟨o,h⟩)|h
 ·exact .inl (.inl (e _ _ h))
 ·exact .inl (.inr ⟨o,e _ _ h⟩)
 ·exact .inr h
section
variable{κ:Type} [DecidableEq κ]
theorem YB {kvs:List (κ×V)} {k:κ} {v:V} (h:Ct kvs k=some v):k∈kvs.map (·.1):=by
 have q:(kvs.any fun a=>decide (a.1=k))=true:=by
  rw[Ff,h]
  all_goals rfl
 obtain⟨p,b,e⟩:=List.any_eq_true.mp q
 exact List.mem_map.mpr ⟨p,b,of_decide_eq_true e⟩
theorem Qs:∀{l:List κ} {k:κ},l.Nodup->¬k∈l->(l++[k]).Nodup
 |[],k,_,_=>by simp
 |a::r,k,h,b=>by
  obtain⟨c,d⟩:=List.nodup_cons.mp h
  show(a::(r++[k])).Nodup
  refine List.nodup_cons.mpr ⟨fun m=>?_,Qs d fun m=>b (List.mem_cons.mpr (Or.inr m))⟩
  rcases List.mem_append.mp m with q|q
  ·exact c q
  ·exact b (List.mem_cons.mpr (Or.inl (List.mem_singleton.mp q).symm))
theorem SN {p:κ×V} {r:List (κ×V)} {k:κ} (e:p.1=k):EX (p::r) k=EX r k:=by
 unfold EX
 rw[List.filter_cons,if_neg (by simp[e])]
theorem LH {p:κ×V} {r:List (κ×V)} {k:κ} (e:¬p.1=k):EX (p::r) k=p::EX r k:=by
 unfold EX
 rw[List.filter_cons,if_pos (by simp[e])]
theorem Nl:∀{kvs:List (κ×V)} {k:κ},¬k∈kvs.map (·.1)->EX kvs k=kvs
 |[],_,_=>rfl
 |p::r,k,h=>by
  have h':¬k∈r.map (·.1):=fun m=>by
   obtain⟨q,a,e⟩:=List.mem_map.mp m
   exact h (List.mem_map.mpr ⟨q,List.mem_cons.mpr (Or.inr a),e⟩)
  rw[LH fun e=>h (List.mem_map.mpr ⟨p,List.mem_cons.mpr (Or.inl rfl),e⟩),Nl h']
end
theorem Je {prog:Program} {w:World} {A:Around} {R:Result->Shared->Prop} {a f iter:Expr} {d:List Expr} {scope:Scope} {pos:Pos} {it b:Value} {env:Env} (e:Nat->Shared->Prop)
  (step:∀n s,e n s->wpAny (model prog w) A (pyNext it) (fun r o=>match r with
   |none=>R (.ok .next) o
   |some v=>wpAny (model prog w) A (letOwnedTupleGo f it v) (fun _ p=>wpAny (model prog w) A (assign f env v) (fun _ u=>
     wpAny (model prog w) A (forIn d true fun c r=>if r=true then do let ok<-isTrue c env (eval c env);pure (ForInStep.yield ok)else pure (ForInStep.yield r)) (fun ok g=>
      if ok=true then wpAny (model prog w) A (eval a env) (fun y i=>wpAny (model prog w) A (call (.builtin "list.append") [b,y]) (fun _ j=>∃m,m<n/\e m j) (fun _ _=>False) i) (fun _ _=>False) g
      else∃m,m<n/\e m g) (fun _ _=>False) u) (fun _ _=>False) p) (fun _ _=>False) o) (fun _ _=>False) s)
  (n:Nat) {s:Shared} (h:e n s):codeAny (model prog w) A (.compLoop (.ListComp a [⟨f,iter,d,0⟩] scope pos) 0 it b env) R s:=by
 have up:∀{B:Type} {t:Sem B} {Q:B->Shared->Prop} {E:Value->Shared->Prop} {s:Shared},wpAny (model prog w) A t Q (fun _ _=>False) s->wpAny (model prog w) A t Q E s:=
  fun h=>wpAny_mono h (fun _ _ q=>q) fun _ _ z=>z.elim
 refine codeAny_loop rfl e (fun k s D=>?_) n h
 show wpAny _ A ((compTurn (.ListComp a [⟨f,iter,d,0⟩] scope pos) 0 it b env).onRaise (fun x=>do noteFrame x env;theTreesLotGoes x)) _ _ s
 refine wpAny_noted ?_
 rw[compTurn_list]
 refine wpAny_bind (wpAny_standAt (wpAny_bind (wpAny_mono (up (step k s D)) (fun r o C=>?_) fun _ _ z=>z)))
 cases r with
 |none=>exact wpAny_pure C
 |some v=>
  refine wpAny_bind (wpAny_mono (up C) (fun _ p F=>?_) fun _ _ z=>z)
  refine wpAny_bind (wpAny_mono (up F) (fun _ u G=>?_) fun _ _ z=>z)
  refine wpAny_bind (wpAny_mono (up G) (fun ok g l=>?_) fun _ _ z=>z)
  cases ok with
  |false=>exact wpAny_pure ⟨rfl,l⟩
  |true=>
   have l:wpAny (model prog w) A (eval a env) (fun y i=>wpAny (model prog w) A (call (.builtin "list.append") [b,y]) (fun _ j=>∃m,m<k/\e m j) (fun _ _=>False) i) (fun _ _=>False) g:=l
   exact wpAny_bind (wpAny_bind (wpAny_mono (up l) (fun y i H=>wpAny_bind (wpAny_mono (up H) (fun _ j I=>wpAny_pure (wpAny_pure ⟨rfl,I⟩)) fun _ _ z=>z)) fun _ _ z=>z))
def DX (cells:List (Str×Addr)):List (Str×NameKind)->List (Str×Addr)->List (Str×Addr)
 |[],a=>a
 |(n,k)::r,a=>if k==.free then DX cells r ((n,(cells.lookup n).getD 0)::a)else DX cells r a
theorem De {cells:List (Str×Addr)} {x:Str} {c:Addr}:∀(names:List (Str×NameKind)) (a:List (Str×Addr)),(∀p∈names,p.2=.free->∃c,cells.lookup p.1=some c)->
  (∀y d,a.lookup y=some d->cells.lookup y=some d)->(DX cells names a).lookup x=some c->cells.lookup x=some c
 |[],a,_,g,h=>g x c h
 |(n,k)::r,a,i,g,h=>by
  unfold DX at h
  by_cases j:(k==NameKind.free)=true
  ·rw[if_pos j]at h
   have o:k=.free:=by simpa using j
   obtain⟨d,q⟩:=i (n,k) List.mem_cons_self o
   refine De r _ (fun p l=>i p (List.mem_cons_of_mem _ l)) (fun y e f=>?_) h
   rw[List.lookup_cons]at f
   cases b:y==n with
   |true=>
    rw[b]at f
    have:y=n:=by simpa using b
    subst this
    have m:List.lookup y cells=some d:=q
    rw[m]at f⊢
    exact f
   |false=>
    rw[b]at f
    exact g y e f
  ·rw[if_neg j]at h
   exact De r a (fun p l=>i p (List.mem_cons_of_mem _ l)) g h
theorem Dk {cells:List (Str×Addr)} {x:Str}:∀(names:List (Str×NameKind)) (a:List (Str×Addr)),((a.lookup x).isSome=true∨(x,NameKind.free)∈names)->((DX cells names a).lookup x).isSome=true
 |[],a,h=>h.elim (fun z=>z) fun z=>nomatch z
 |(n,k)::r,a,h=>by
  unfold DX
  by_cases b:(k==NameKind.free)=true
  ·rw[if_pos b]
   refine Dk r _ ?_
   rcases h with h|h
   ·refine .inl ?_
    rw[List.lookup_cons]
    cases x==n<;>simp[h]
   ·rcases List.mem_cons.mp h with e|e
    ·refine .inl ?_
     have:x=n:=congrArg Prod.fst e
     subst this
     rw[List.lookup_cons]
     simp
    ·exact .inr e
  ·rw[if_neg b]
   refine Dk r _ ?_
   rcases h with h|h
   ·exact .inl h
   ·rcases List.mem_cons.mp h with e|e
    ·have:NameKind.free=k:=congrArg Prod.snd e
     subst this
     exact absurd rfl b
    ·exact .inr e
theorem DD {scope:Scope} {env:Env} (h:∀p∈scope.names,p.2=.free->∃c,env.cells.lookup p.1=some c):closureFor scope env=pure (DX env.cells scope.names []):=by
 have go:∀(names:List (Str×NameKind)) (b:List (Str×Addr)),(∀p∈names,p.2=.free->∃c,env.cells.lookup p.1=some c)->
   (forIn names b (fun(x:Str×NameKind) r=>if(x.2==NameKind.free)=true then do let a<-cellOf env x.1;pure (ForInStep.yield ((x.1,a)::r))else pure (ForInStep.yield r)):Sem (List (Str×Addr)))=pure (DX env.cells names b):=by
  intro names
  induction names with
  |nil=>intro b _;rfl
  |cons p r j=>
   intro b f
   obtain⟨n,k⟩:=p
   rw[List.forIn_cons]
   unfold DX
   by_cases g:(k==NameKind.free)=true
   ·have l:k=.free:=by simpa using g
    obtain⟨c,d⟩:=f (n,k) List.mem_cons_self l
    have d:List.lookup n env.cells=some c:=d
    have e:cellOf env n=pure c:=by unfold cellOf;rw[d]
    simp only[g,if_true,e,d,Option.getD_some]
    exact j _ fun p i=>f p (List.mem_cons_of_mem _ i)
   ·simp only[g,if_false]
    exact j _ fun p i=>f p (List.mem_cons_of_mem _ i)
 unfold closureFor
 exact Eq.trans (congrArg (fun t:Sem (List (Str×Addr))=>t>>=fun m=>pure m) (go scope.names [] h)) rfl
def HB (env:Env) (n:Str) (k:NameKind):NameKind:=if(k==.free&&env.scope.kind==.function&&env.kindOf n==some .cell)=true then .cell else k
theorem HC {g:Str->NameKind->NameKind} (y:Str):∀names:List (Str×NameKind),(names.map fun p=>(p.1,g p.1 p.2)).lookup y=(names.lookup y).map (g y)
 |[]=>rfl
 |(n,k)::r=>by
  rw[List.map_cons,List.lookup_cons,List.lookup_cons]
  cases e:y==n with
  |true=>
   have:y=n:=by simpa using e
   subst this
   rfl
  |false=>exact HC y r
theorem Cu (scope:Scope) (env:Env) (y:Str):(relabel scope env).names.lookup y=(scope.names.lookup y).map (HB env y):=by
 have e:(relabel scope env).names=scope.names.map fun p=>(p.1,HB env p.1 p.2):=by
  unfold relabel
  refine List.map_congr_left fun p _=>?_
  obtain⟨n,k⟩:=p
  show(if(k==NameKind.free&&env.scope.kind==.function&&env.kindOf n==some .cell)=true then(n,NameKind.cell)else(n,k))=(n,if(k==NameKind.free&&env.scope.kind==.function&&env.kindOf n==some .cell)=true then NameKind.cell else k)
  by_cases h:(k==NameKind.free&&env.scope.kind==.function&&env.kindOf n==some .cell)=true
  ·rw[if_pos h,if_pos h]
  ·rw[if_neg h,if_neg h]
 rw[e]
 exact HC y _
def CN (σ:St) (fs:List Nat):St:=fs.map fun i=>(σ[i]?).join
theorem LI {σ:St} {fs:List Nat} {j:Nat} {v:V} (h:(CN σ fs)[j]?=some (some v)):∃i,fs[j]?=some i/\σ[i]?=some (some v):=by
 unfold CN at h
 rw[List.getElem?_map]at h
 cases e:fs[j]? with
 |none=>rw[e]at h;cases h
 |some i=>
  rw[e]at h
  refine⟨i,rfl,?_⟩
  have a:(σ[i]?).join=some v:=ACF h
  cases b:σ[i]? with
  |none=>rw[b]at a;cases a
  |some o=>
   rw[b]at a
   have a:o=some v:=a
   rw[a]
structure EL (X:Cx) (scope:Scope) (x:Str) (fv:List Str) (fs:List Nat):Prop where
 kind:scope.kind=.function
 Jf:∀p∈scope.names,p.2≠.cell
 names:∀p∈scope.names,p.2=.local->scope.names.lookup p.1=some .local
 tg:scope.names.lookup x=some .local
 free:∀p∈scope.names,p.2=.free->X.env.scope.names.lookup p.1=some .cell
 nd:(x::fv).Nodup
 lI:∀(j:Nat) y,fv[j]?=some y->∃i,fs[j]?=some i/\X.N[i]?=some y/\scope.names.lookup y=some .free
 len:fv.length=fs.length
def Qt (a:Scope) (N:List Str) (scope:Scope) (x:Str) (fv:List Str) (fs:List Nat):Bool:=
 scope.kind==.function&&(scope.names.all fun p=>p.2 !=.cell)&&(scope.names.all fun p=>p.2 !=.local||scope.names.lookup p.1==some .local)&&scope.names.lookup x==some .local&&
 (scope.names.all fun p=>p.2 !=.free||a.names.lookup p.1==some .cell)&&decide (x::fv).Nodup&&fs.map (N[·]?)==fv.map some&&(fv.all fun y=>scope.names.lookup y==some .free)
theorem EL.of {X:Cx} {scope:Scope} {x:Str} {fv:List Str} {fs:List Nat} (h:Qt X.env.scope X.N scope x fv fs=true):EL X scope x fv fs:=by
 unfold Qt at h
 simp only[Bool.and_eq_true,List.all_eq_true,Bool.or_eq_true,bne_iff_ne,beq_iff_eq,decide_eq_true_eq]at h
 obtain⟨⟨⟨⟨⟨⟨⟨g,i⟩,k⟩,m⟩,n⟩,o⟩,f⟩,q⟩:=h
 have hlen:fs.length=fv.length:=by
  have:=congrArg List.length f
  simpa using this
 refine⟨g,i,fun p b c=>(k p b).resolve_left fun z=>z c,m,fun p b c=>(n p b).resolve_left fun z=>z c,o,fun j y e=>?_,hlen.symm⟩
 have r:j<fv.length:=(ACE e).1
 have d:=congrArg (fun l=>l[j]?) f
 simp only[List.getElem?_map,e]at d
 have a:j<fs.length:=by lia
 rw[ACD a]at d
 refine⟨fs[j],ACD a,?_,q y (ACG e)⟩
 simpa using d
abbrev CH (X:Cx) (N':List Str) (scope:Scope) (C:Addr) (s0:Shared) (H0:Hp) (fp:List Addr):Cx where
 prog:=X.prog
 w:=X.w
 K:=X.K
 mg:=X.mg
 base:=X.base
 A:=X.A
 N:=N'
 s₀:=s0
 H₀:=H0
 env:=compEnvC scope (DX X.env.cells scope.names []) C X.env
 outer:=X.stack
 stack:=X.stack
 ex:=fp
 fn:=fun _=>false
 calm:=X.calm
 pn:=[]
 xe:=fun _ _=>False
section
variable{X:Cx} {pins:List (Addr×Obj)} {σ:St} {H H':Hp} {s s':Shared} {scope:Scope} {x:Str} {fv:List Str} {fs:List Nat} {fp:List Addr}
theorem EL.cells (ok:EL X scope x fv fs) (I:Inv X pins σ H s):∀p∈scope.names,p.2=.free->∃c,X.env.cells.lookup p.1=some c:=fun p a b=>I.ok.has p.1 (.inl (ok.free p a b))
theorem EL.look (ok:EL X scope x fv fs) (I:Inv X pins σ H s) {y:Str} {c:Addr} (h:(DX X.env.cells scope.names []).lookup y=some c):X.env.cells.lookup y=some c:=
 De scope.names [] (ok.cells I) (fun _ _ z=>by cases z) h
theorem PM (ok:EL X scope x fv fs) (I:Inv X pins σ H s) (t:∀b∈fp,EH X pins H b) (w:∀b∈fp,∃o,s.heap.get? b=some o) {h:Heap} {m:Str->Option Value} {tk:Nat} (N:h.Ns s.heap.objs.size m)
  (kept:∀b o,s.heap.get? b=some o->h.get? b=some o):Inv (CH X (x::fv) scope s.heap.objs.size s H fp) [] (none::CN σ fs) H {s with heap:=h,toks:=tk}:=by
 have g:=fun{y c}=>ok.look I (y:=y) (c:=c)
 have A:X.env.scope.kind=.function:=I.ok.kind
 refine⟨⟨I.ok.mod,ok.kind,I.ok.glob,I.ok.blt,Nat.le_refl _,fun y z c h O=>I.ok.inj y z c (g h) (g O),fun y a=>?_,fun y c B _=>(by cases B),I.ok.hd,I.ok.frames,.inl rfl,fun b f=>⟨?_,fun y c e z=>(t b f).2.2.2.2.1 y c (g e) z⟩,I.bs,
  Nat.le_trans I.ok.XY I.sz,fun b o e f=>?_,fun b f C=>?_,I.stack,I.L_⟩,rfl,I.bare,Un.kept kept,⟨m,N,fun i y v D d T=>?_⟩,fun y c e=>?_,I.fresh,fun y c e=>I.ER y c (g e),fun p P=>absurd (show p∈([]:List (Addr×Obj))from P) (by simp),I.Bl.kept kept,?_⟩
 ·have a:(relabel scope X.env).names.lookup y=some .cell∨(relabel scope X.env).names.lookup y=some .free:=a
  rw[Cu]at a
  have E:scope.names.lookup y=some .free:=by
   cases e:scope.names.lookup y with
   |none=>rw[e]at a;rcases a with z|z<;>cases z
   |some k=>
    rw[e]at a
    have a:HB X.env y k=.cell∨HB X.env y k=.free:=a.elim (fun z=>.inl (ACF z)) fun z=>.inr (ACF z)
    by_cases F:k=.free
    ·rw[F]
    ·have d:HB X.env y k=k:=by
      unfold HB
      have:(k==NameKind.free)=false:=by simpa using F
      rw[this]
      rfl
     rw[d]at a
     rcases a with z|z
     ·subst z
      exact absurd rfl (ok.Jf _ (PySem.mem_of_lookup e))
     ·exact absurd z F
  exact Option.isSome_iff_exists.mp (Dk scope.names [] (.inr (PySem.mem_of_lookup E)))
 ·obtain⟨o,n⟩:=w b f
  exact Nat.ne_of_lt (Heap.lt_size n)
 ·rcases(t b f).2.2.2.1 with z|z
  ·exact I.ok.Ro b o e z
  ·exact absurd (Nat.lt_of_lt_of_le (Heap.lt_size e) (Nat.le_trans I.ok.XY z)) (Nat.lt_irrefl _)
 ·rcases List.mem_cons.mp (I.Lz b C)with z|z
  ·exact(t b f).2.1 z
  ·exact(t b f).2.2.1 z
 ·cases i with
  |zero=>
   have d:(some none:Option (Option V))=some (some v):=d
   cases d
  |succ j=>
   have D:fv[j]?=some y:=D
   have d:(CN σ fs)[j]?=some (some v):=d
   obtain⟨i,Q,R⟩:=LI d
   obtain⟨U,M,S,G⟩:=ok.lI j y D
   rw[Q]at M
   cases M
   have J:X.env.scope.names.lookup y=some .cell:=ok.free (y,.free) (PySem.mem_of_lookup G) rfl
   obtain⟨W,_,K⟩:=I.loc
   obtain⟨u,r,l⟩:=K i y v S R (.inr (.inl J))
   refine⟨u,r,?_⟩
   rcases l with⟨k,_⟩|⟨_,c,e,o,n,hd⟩
   ·have k:X.env.scope.names.lookup y=some .local:=k
    rw[J]at k
    cases k
   ·obtain⟨Y,q⟩:=Option.isSome_iff_exists.mp (Dk (cells:=X.env.cells) scope.names [] (.inr (PySem.mem_of_lookup G)))
    have:=g q
    rw[e]at this
    cases this
    refine .inr ⟨.inl ?_,c,q,o,kept _ _ n,hd⟩
    show(relabel scope X.env).names.lookup y=some .cell
    rw[Cu,G]
    show some (HB X.env y .free)=_
    have L:X.env.kindOf y=some .cell:=J
    unfold HB
    rw[A,L]
    rfl
 ·obtain⟨v,o,n,hd⟩:=I.cell y c (g e)
  exact⟨v,o,kept _ _ n,hd⟩
 ·show(none::CN σ fs).length=(x::fv).length
  simp[CN,ok.len]
theorem Jg {e:St} {C:Addr} {f:List Str} (I:Inv X pins σ H s) (a:∀b∈fp,EH X pins H b) (c:Inv (CH X f scope C s H fp) [] e H' s'):Inv X pins σ H' s':=
 I.fP (ch:=fp) c.os c.base c.Bl c.bare fun b d=>⟨(a b d).2.2.2.1,(a b d).2.1,(a b d).2.2.2.2.1,(a b d).2.2.2.2.2⟩
theorem Inv.off {C:Addr} {h':Heap} (I:Inv X pins σ H s) (f:EH X pins H C) (hs:Heap.SameBut C s.heap h'):Inv X pins σ H {s with heap:=h'}:=
 I.turned (t':=s.toks) (fun b o a e=>hs.extBut b o a e) f.1 (fun z=>f.2.1 z) f.2.2.2.1 f.2.2.2.2.1 f.2.2.2.2.2
end
def bT (X:Cx) (a:List Expr) (t:TT):Prop:=
 ∀(pins:List (Addr×Obj)) (s:Shared) (b:St) (H:Hp) (Q:Bool->Hp->Prop),Inv X pins b H s->t b H Q->
  wpAny (model X.prog X.w) X.A (forIn a true fun c r=>if r=true then do let ok<-isTrue c X.env (eval c X.env);pure (ForInStep.yield ok)else pure (ForInStep.yield r)) (TP X pins b Q) X.xe s
def Uh:TT:=fun _ H Q=>Q true H
theorem GA {X:Cx}:bT X [] Uh:=fun _ _ _ H _ I h=>wpAny_tests_nil ⟨H,I,h⟩
theorem Qu {X:Cx} {c:Expr} {t:TT} (h:PT X c t):bT X [c] t:=fun pins s a H Q I q=>wpAny_tests_one (h pins s a H Q I q)
def Hm (J:It) (g:TT) (h:TE) (fs:List Nat) (σ:St) (H:Hp) (Q:VK):Prop:=∀D,H D=none->∃W:Nat->Nat->Hp->Prop,(∃m,W 0 m (upd H D (.lst [])))/\∀i m a,W i m a->
 (J.stop i a/\Q (.ref D) a)∨(J.go i a/\∀v d,J.XZ i a v d->g (some v::CN σ fs) d fun ok e=>
  if ok=true then h (some v::CN σ fs) e fun y f=>∃c,f D=some (.lst c)/\c.length<sizeLine/\∃b,b<m/\W (i+1) b (upd f D (.lst (c++[y])))else∃b,b<m/\W (i+1) b e)
def Zi (b:TI) (c:TT) (d:TE) (fs:List Nat):TE:=fun a H Q=>b a H fun J e=>Hm J c d fs a e Q
section
variable{X:Cx} {elt iter:Expr} {x:Str} {px pos:Pos} {ifs:List Expr} {scope:Scope} {fv:List Str} {fs:List Nat} {wi:TI} {te:TE} {tc:TT}
theorem Nm (hc:X.calm=true) (ok:EL X scope x fv fs) (lJ:∀C s0 H0 d,bT (CH X (x::fv) scope C s0 H0 d) ifs tc) (he:∀C s0 H0 d,PE (CH X (x::fv) scope C s0 H0 d) elt te)
  {pins:List (Addr×Obj)} {σ:St} {H:Hp} {s:Shared} {E:Value->Shared->Prop} {it:Addr} {d:List Addr} {F:Nat->Heap->Prop} {J:It} {Q:VK} (I:Inv X pins σ H s) (T:Turn X.prog X.w X.K (.Name x px) J d it F) (st:F 0 s.heap)
  (hf:∀b∈d,EH X pins H b)
  (rd:Hm J tc te fs σ H Q)
  {RR:Value->Addr->Result->Shared->Prop}
  (lK:∀D C t f,Inv X pins σ f t->EH X pins f C->(∃m,t.heap.Ns C m)->Q (.ref D) f->RR (.ref D) C (.ok .next) t):
  wpAny (model X.prog X.w) X.A (newList []) (fun G a=>wpAny (model X.prog X.w) X.A (newFunctionEnv scope X.env.globals (DX X.env.cells scope.names []) [] X.env.qual none .none (some X.env)) (fun h s4=>
   codeAny (model X.prog X.w) X.A (.compStart (.ListComp elt [⟨.Name x px,iter,ifs,0⟩] scope pos) 0 (.ref it) G {h with scope:=relabel scope X.env}) (RR G h.locals) s4) E a) E s:=by
 obtain⟨W,⟨m0,w0⟩,turn⟩:=rd s.heap.objs.size I.fresh
 have V:Inv X pins σ (upd H s.heap.objs.size (.lst [])) {s with heap:=s.heap.push {cls:=.type "list",dict:=none,data:=.seq ([]:List Value).toArray}}:=I.gF (its:=[]) (ys:=[]) (t':=s.toks) .nil (Nat.zero_le _)
 refine wpAny_newObj_type ?_
 show wpAny _ _ _ _ _ ({s with heap:=s.heap.push {cls:=.type "list",dict:=none,data:=.seq ([]:List Value).toArray}}:Shared)
 generalize lM:({s with heap:=s.heap.push {cls:=.type "list",dict:=none,data:=.seq ([]:List Value).toArray}}:Shared)=a at V⊢
 refine wpAny_newFunctionEnv ok.Jf (fun y hy=>absurd hy (by simp)) (fun h1 lN lO=>?_) ok.kind
 have eh:a.heap=s.heap.push {cls:=.type "list",dict:=none,data:=.seq ([]:List Value).toArray}:=by rw[<-lM]
 have L:∀b o,s.heap.get? b=some o->a.heap.get? b=some o:=fun b o e=>by rw[eh];exact Heap.get?_push_of_some _ e
 have lQ:∀b∈d,∃o,a.heap.get? b=some o:=fun b c=>let⟨o,ho,_⟩:=T.obj 0 _ st b c;⟨o,L b o ho⟩
 have eX:∀b∈d,b≠s.heap.objs.size:=fun b c=>let⟨o,ho,_⟩:=T.obj 0 _ st b c;Nat.ne_of_lt (Heap.lt_size ho)
 have j:∀b∈d,EH X pins (upd H s.heap.objs.size (.lst [])) b:=fun b c=>⟨by rw[AR (eX b c)];exact(hf b c).1,(hf b c).2⟩
 have kept:∀b o,a.heap.get? b=some o->h1.get? b=some o:=fun b o e=>lO.extBut b o (Nat.ne_of_lt (Heap.lt_size e)) (Heap.get?_push_of_some _ e)
 have Y:=PM (tk:=a.toks+([]:List (Str×Value)).length) ok V j lQ lN kept
 have M:F 0 h1:=T.keep 0 _ _ st fun b c o e=>kept b o (L b o e)
 have g:∀{f:Hp},(∀b∈d,f b=none)->∀b∈d,EH (CH X (x::fv) scope a.heap.objs.size a (upd H s.heap.objs.size (.lst [])) d) [] f b:=fun hn b c=>
  ⟨hn b c,(Y.ok.eT b c).1,Y.ok.Rp b c,.inl c,(Y.ok.eT b c).2,fun p hp=>absurd hp (by simp)⟩
 have hg:PG (CH X (x::fv) scope a.heap.objs.size a (upd H s.heap.objs.size (.lst [])) d) (.Name x px) (Dm 0):=Dx ok.nd rfl (.inl (lookup_relabel_local ok.tg)) (.inr (lookup_relabel_local ok.tg))
 have loop:codeAny (model X.prog X.w) X.A (.compLoop (.ListComp elt [⟨.Name x px,iter,ifs,0⟩] scope pos) 0 (.ref it) (.ref s.heap.objs.size) (compEnvC scope (DX X.env.cells scope.names []) a.heap.objs.size X.env)) (RR (.ref s.heap.objs.size) a.heap.objs.size)
   {a with heap:=h1,toks:=a.toks+([]:List (Str×Value)).length}:=by
  refine Je (fun n t=>∃i o f,Inv (CH X (x::fv) scope a.heap.objs.size a (upd H s.heap.objs.size (.lst [])) d) [] (o::CN σ fs) f t/\F i t.heap/\(∀b∈d,f b=none)/\W i n f) ?_ m0
   ⟨0,none,_,Y,M,fun b c=>(j b c).1,w0⟩
  rintro n s5 ⟨i,o,Z,I5,N,O,w5⟩
  rcases turn i n Z w5 with⟨stop,q⟩|⟨go,step⟩
  ·refine BX (T.done (CH X (x::fv) scope a.heap.objs.size a (upd H s.heap.objs.size (.lst [])) d) rfl rfl rfl hc i [] s5 _ Z _ I5 (g O) N stop) fun r s6 ⟨hr,I6⟩=>?_
   subst hr
   obtain⟨m,hm,_⟩:=I6.loc
   exact lK _ _ s6 Z (Jg V j I6) (V.Oy (Nat.le_refl _) I6.free) ⟨m,hm⟩ q
  ·refine BX (T.item (CH X (x::fv) scope a.heap.objs.size a (upd H s.heap.objs.size (.lst [])) d) rfl rfl rfl hc i [] s5 _ Z _ I5 (g O) N go) fun r s6 ⟨u,hr,h6⟩=>?_
   subst hr
   refine BX h6 fun _ s7 ⟨v,H7,I7,r7,y7,k,lR⟩=>?_
   have lT:=I7.pinned (g lR) (T.obj _ _ k)
   have back:∀{P:St} {z:Hp} {R:Shared},Inv (CH X (x::fv) scope a.heap.objs.size a (upd H s.heap.objs.size (.lst [])) d) ([]++Hj d s7.heap) P z R->F (i+1) R.heap/\∀b∈d,z b=none:=fun{P z R} B=>
    ⟨T.keep _ _ _ k fun b c o e=>(B.pin (b,o) (C_ c e)).1,fun b c=>by
     obtain⟨o,e,_⟩:=T.obj _ _ k b c
     exact(B.pin (b,o) (C_ c e)).2.1⟩
   refine BX (hg _ s7 _ H7 v u (fun σ2 H2=>σ2=some v::CN σ fs/\H2=H7) lT r7 ⟨rfl,rfl⟩) fun _ s8 ⟨σ8,H8,I8,e8,lU⟩=>?_
   subst e8 lU
   refine BX (lJ _ _ _ _ _ s8 _ H8 _ I8 (step v H8 y7)) fun ok R ⟨z,B,q9⟩=>?_
   cases ok with
   |false=>
    obtain⟨m',l,w9⟩:=q9
    obtain⟨b1,b2⟩:=back B
    exact⟨m',l,i+1,some v,z,B.Dn,b1,b2,w9⟩
   |true=>
    refine BX (he _ _ _ _ _ R _ z _ B q9) fun y s10 ⟨yv,S,lV,r10,ys,hD,hz,m',l,w10⟩=>?_
    refine BX (Ce _ s10 _ S (.ref s.heap.objs.size) [yv] (.ref s.heap.objs.size) [y] (fun _ f=>f=upd S s.heap.objs.size (.lst (ys++[yv]))) lV rfl (.cons r10 .nil) ⟨_,ys,yv,rfl,rfl,hD,hz,rfl⟩) fun _ s11 ⟨_,wR,U,_,e11⟩=>?_
    subst e11
    obtain⟨b1,b2⟩:=back U
    exact⟨m',l,i+1,some v,_,U.Dn,b1,b2,w10⟩
 exact codeAny_compStart_list loop (T.self _ 0 _ _ _ M loop)
theorem GB (g:X.calm=true) (ok:EL X scope x fv fs) (i:PI X (.Name x px) iter wi) (b:∀C c d a,bT (CH X (x::fv) scope C c d a) ifs tc) (j:∀C c d a,PE (CH X (x::fv) scope C c d a) elt te)
  (hs:∀x,foldedSetIterable iter X.env x=pure x:=by intro _;rfl):PE X (.ListComp elt [⟨.Name x px,iter,ifs,0⟩] scope pos) (Zi wi tc te fs):=by
 intro pins s k H Q I h
 rw[eval_ListComp]
 refine wpAny_comprehension_free (use:=none) rfl hs (DD (ok.cells I)) ok.kind ok.names (BX (i pins s k H _ I h) fun z A l=>BX l fun n B o=>?_)
 obtain⟨E,a,F,J,G,rfl,p,T,e,r,t⟩:=o
 exact Nm g ok b j p T e r t fun D C K u v w ⟨m,y⟩ q=>⟨m,y,fun L f=>⟨.ref D,u,v.off w f,rfl,q⟩⟩
theorem PN {i:Nat} {y:Str} {c b:Pos} (K:X.calm=true) (ok:EL X scope x fv fs) (L:X.N.Nodup) (k:X.N[i]?=some y) (M:Loc X.env.scope y) (O:PI X (.Name x px) iter wi) (l:∀C n o g,bT (CH X (x::fv) scope C n o g) ifs tc)
  (P:∀C n o g,PE (CH X (x::fv) scope C n o g) elt te) (p:swapsWith (.ListComp elt [⟨.Name x px,iter,ifs,0⟩] scope pos) (some (.Name y c)) b.line X.env=pure true:=by rfl)
  (r:X.fn y=true∨X.env.scope.names.lookup y=some .local:=by first|exact .inl rfl|exact .inr rfl|assumption)
  (R:∀x,foldedSetIterable iter X.env x=pure x:=by intro _;rfl):PS X (.Assign [.Name y c] (.ListComp elt [⟨.Name x px,iter,ifs,0⟩] scope pos) b) (fun D d H=>Zi wi tc te fs d H fun v f=>D.nx (d.set i (some v)) f):=by
 intro pins s d H D I h
 rw[exec_Assign_Name_used _ _ _ _ p]
 refine wpAny_bind (wpAny_standAt (wpAny_bind ?_))
 show wpAny _ X.A (comprehension (.ListComp elt [⟨.Name x px,iter,ifs,0⟩] scope pos) scope X.env _ (newList []) false (eval iter X.env) (some (assign (.Name y c) X.env))>>=fun _=>pure ()) _ _ s
 refine wpAny_bind (BX (wpAny_comprehension_free (use:=some (assign (.Name y c) X.env)) (Q:=fun _ j=>SP X pins D .next j) rfl R (DD (ok.cells I)) ok.kind ok.names
  (BX (O pins s d H _ I h) fun xv s1 S=>BX S fun U s2 V=>?_)) fun _ j W=>wpAny_pure (wpAny_pure W))
 obtain⟨it,g,tn,J,H2,rfl,Y,T,t,Z,rd⟩:=V
 refine Nm (Q:=fun v f=>D.nx (d.set i (some v)) f) K ok l P Y T t Z rd fun G C j f I' u ⟨m,hm⟩ q=>?_
 show wpAny _ X.A (assign (.Name y c) X.env (.ref G)) _ _ j
 refine wpAny_assign_Name (Ky I' L k M (v:=.ref G) rfl (fun jq w ⟨a,B,ha⟩=>?_) r)
 have E:C≠a:=by
  rcases ha with z|z
  ·rw[z];exact u.2.1
  ·exact fun e=>u.2.2.2.2.1 y a z e.symm
 exact⟨m,hm.sameBut B E,fun h' F=>⟨_,f,w.off u F,q⟩⟩
end
theorem LJ {J:It} {k:TT} {f:TE} {fs:List Nat} {σ:St} {H:Hp} {Q:VK} {n:Nat} (item g:Nat->V) (p:Nat->Bool) (z:n<=sizeLine)
  (h:∀i D ys,i<n->H D=none->J.go i (upd H D (.lst ys)))
  (r:∀i D ys v l,i<n->H D=none->J.XZ i (upd H D (.lst ys)) v l->v=item i/\l=upd H D (.lst ys))
  (j:∀D ys,H D=none->J.stop n (upd H D (.lst ys)))
  (s:∀i D ys (R:Bool->Hp->Prop),i<n->H D=none->R (p i) (upd H D (.lst ys))->k (some (item i)::CN σ fs) (upd H D (.lst ys)) R)
  (t:∀i D ys (R:VK),i<n->H D=none->p i=true->R (g i) (upd H D (.lst ys))->f (some (item i)::CN σ fs) (upd H D (.lst ys)) R)
  (u:∀D,H D=none->Q (.ref D) (upd H D (.lst (((List.range n).filter p).map g)))):
  Hm J k f fs σ H Q:=by
 intro D c
 refine⟨fun i m o=>m=n-i/\i<=n/\o=upd H D (.lst (((List.range i).filter p).map g)),⟨n,by simp⟩,?_⟩
 rintro i m o ⟨rfl,A,rfl⟩
 by_cases a:i<n
 ·refine .inr ⟨h i D _ a c,fun v w x=>?_⟩
  obtain⟨rfl,rfl⟩:=r i D _ v w a c x
  refine s i D _ _ a c ?_
  have q:∀b,p i=b->((List.range (i+1)).filter p).map g=((List.range i).filter p).map g++(if b=true then[g i]else[]):=fun b d=>by
   rw[List.range_succ,List.filter_append,List.map_append]
   cases b with
   |true=>simp[d]
   |false=>simp[d]
  cases d:p i with
  |false=>
   show∃y,y<n-i/\_
   refine⟨n-(i+1),by lia,rfl,a,?_⟩
   rw[q false d]
   simp
  |true=>
   show f _ _ _
   refine t i D _ _ a c d ⟨_,AF,?_,n-(i+1),by lia,rfl,a,?_⟩
   ·rw[List.length_map]
    have:=List.length_filter_le p (List.range i)
    rw[List.length_range]at this
    lia
   ·rw[Xf,q true d]
    simp
 ·have e:i=n:=by lia
  subst e
  exact .inl ⟨j D _ c,u D c⟩
theorem AJ.put {H a:Hp} {D:Addr} {o:HO} (s:AJ H a) (h:H D=none):AJ H (upd a D o):=fun b u e=>by
 rw[AR (Ap e h)]
 exact s b u e
theorem AJ.new {H:Hp} {D:Addr} {o:HO} (h:H D=none):AJ H (upd H D o):=(AJ.refl H).put h
theorem AJ.tup {K:ACH} {H b:Hp} {a:Addr} {xs:List V} (e:AJ H b) (h:Ah K H a xs):Ah K b a xs:=by
 rcases h with(h|⟨o,h⟩)|h
 ·exact .inl (.inl (e _ _ h))
 ·exact .inl (.inr ⟨o,e _ _ h⟩)
 ·exact .inr h
theorem Ui {J:It} {f:TE} {fs:List Nat} {σ:St} {H:Hp} {Q:VK} {n:Nat} (item:Nat->V) (Ok:Nat->V->Prop) (C:n<=sizeLine)
  (g:∀i H2,i<n->AJ H H2->J.go i H2)
  (u:∀i H2 v o,i<n->AJ H H2->J.XZ i H2 v o->v=item i/\o=H2)
  (h:∀H2,AJ H H2->J.stop n H2)
  (w:∀i H2 (R:VK),i<n->AJ H H2->(∀y d,AJ H2 d->Ok i y->R y d)->f (some (item i)::CN σ fs) H2 R)
  (x:∀D H2 ys,H D=none->AJ H H2->H2 D=some (.lst ys)->ys.length=n->(∀(i:Nat) y,ys[i]?=some y->Ok i y)->Q (.ref D) H2):
  Hm J Uh f fs σ H Q:=by
 intro D k
 refine⟨fun i m H2=>m=n-i/\i<=n/\AJ H H2/\∃ys,H2 D=some (.lst ys)/\ys.length=i/\∀(j:Nat) y,ys[j]?=some y->Ok j y,⟨n,by simp,Nat.zero_le _,AJ.new k,[],AF,rfl,fun j y z=>by simp at z⟩,?_⟩
 rintro i m H2 ⟨rfl,E,c,ys,p,r,s⟩
 by_cases a:i<n
 ·refine .inr ⟨g i H2 a c,fun v d A=>?_⟩
  obtain⟨rfl,rfl⟩:=u i H2 v d a c A
  show f _ _ _
  refine w i _ _ a c fun y F t l=>⟨ys,t _ _ p,by lia,n-(i+1),by lia,rfl,a,(c.trans t).put k,ys++[y],AF,by simp[r],fun j z b=>?_⟩
  by_cases B:j<ys.length
  ·rw[List.getElem?_append_left B]at b
   exact s j z b
  ·rw[List.getElem?_append_right (by lia)]at b
   have e:j-ys.length=0:=by
    cases q:j-ys.length with
    |zero=>rfl
    |succ G=>rw[q]at b;simp at b
   rw[e]at b
   have:y=z:=by simpa using b
   subst this
   have:j=i:=by lia
   subst this
   exact l
 ·have e:i=n:=by lia
  subst e
  exact .inl ⟨h H2 c,x D H2 ys k c p r s⟩
open Builtin Builtin.Str
theorem YC (n m:Nat):max 0 (min (m:Int) (n:Int))=((min m n:Nat):Int):=by
 rw[Int.max_eq_right (Int.le_min.mpr ⟨Int.natCast_nonneg _,Int.natCast_nonneg _⟩)]
 by_cases h:m<=n
 ·rw[Nat.min_eq_left h,Int.min_eq_left (Int.ofNat_le.mpr h)]
 ·rw[Nat.min_eq_right (Nat.le_of_not_le h),Int.min_eq_right (Int.ofNat_le.mpr (Nat.le_of_not_le h))]
theorem Uj (n:Nat) {i:Int} (h:i<0):max 0 (min (i+(n:Int)) (n:Int))=(((i+(n:Int)).toNat:Nat):Int):=by
 rw[Int.min_eq_left (by lia),Int.toNat_eq_max,Int.max_comm]
theorem Uk (l u:Option Int) (n:Nat):strSliceIndices l u 1 n=(List.range (HT.CZ n n u-HT.CZ n 0 l)).map (HT.CZ n 0 l+·):=by
 have clip:∀(v:Option Int) (d:Nat),(match v with|none=>(d:Int)|some i=>max 0 (min (if i<0 then i+(n:Int)else i) (n:Int)))=((HT.CZ n d v:Nat):Int):=by
  intro v d
  cases v with
  |none=>rfl
  |some i=>
   show max 0 (min (if i<0 then i+(n:Int)else i) (n:Int))=(((if i<0 then(i+(n:Int)).toNat else min i.toNat n):Nat):Int)
   by_cases h:i<0
   ·simp only[if_pos h];exact Uj n h
   ·simp only[if_neg h]
    obtain⟨m,rfl⟩:=Int.eq_ofNat_of_zero_le (Int.not_lt.mp h)
    exact YC n m
 have c:=clip l 0
 have e:=clip u n
 unfold strSliceIndices sliceRange
 simp only[show(1:Int)>0 by decide,if_true,Int.one_mul,Int.ediv_one]
 have f:((0:Nat):Int)=0:=rfl
 rw[f]at c
 have gen:∀(A B:Int) (a b:Nat),A=(a:Int)->B=(b:Int)->List.map (fun k:Nat=>(A+(k:Int)).toNat) (List.range (if A<B then B-A+1-1 else 0).toNat)=List.map (fun x=>a+x) (List.range (b-a)):=by
  intro A B a b g j
  subst g j
  have o:(if(a:Int)<(b:Int)then(b:Int)-(a:Int)+1-1 else 0).toNat=b-a:=by
   split<;>lia
  rw[o]
  refine List.map_congr_left fun k _=>?_
  lia
 exact gen _ _ _ _ c e
def PQ (xs:List Nat) (l u:Option Int):List Nat:=(xs.drop (HT.CZ xs.length 0 l)).take (HT.CZ xs.length xs.length u-HT.CZ xs.length 0 l)
theorem PR {c:Type} (xs:List c) (a k:Nat) (h:a+k<=xs.length):((List.range k).map (a+·)).filterMap (xs[·]?)=(xs.drop a).take k:=by
 rw[List.filterMap_map]
 induction k with
 |zero=>simp
 |succ k d=>
  rw[List.range_succ,List.filterMap_append,d (by lia)]
  have b:a+k<xs.length:=by lia
  have e:(xs.drop a)[k]?=some (xs[a+k]):=by
   rw[List.getElem?_drop]
   exact ACD b
  rw[List.take_add_one,e]
  simp[b]
theorem Nn (x:Str) (l u:Option Int):(Txt.slice x l u).cps.toList=PQ x.cps.toList l u:=by
 have hlen:x.cps.toList.length=x.length:=by rw[Array.length_toList];rfl
 have c:HT.CZ x.length x.length u<=x.length:=by
  cases u with
  |none=>exact Nat.le_refl _
  |some v=>
   show(if v<0 then(v+(x.length:Int)).toNat else min v.toNat x.length)<=x.length
   split<;>lia
 unfold Txt.slice PQ
 rw[hlen,Uk]
 generalize k:HT.CZ x.length 0 l=a
 generalize d:HT.CZ x.length x.length u=b at c
 by_cases f:a<=b
 ·split
  ·rename_i h
   simp at h
   have:b-a=x.length:=h
   have g:a=0:=by lia
   have j:b=x.length:=by lia
   subst g
   rw[j,<-hlen,List.drop_zero,Nat.sub_zero,List.take_length]
  ·show(List.filterMap (fun i=>x.cps[i]?) _).toArray.toList=_
   rw[List.toList_toArray]
   have e:(fun i:Nat=>x.cps[i]?)=fun i:Nat=>x.cps.toList[i]?:=by
    funext i
    exact(Array.getElem?_toList).symm
   rw[e]
   exact PR _ a (b-a) (by lia)
 ·have z:b-a=0:=by lia
  rw[z]
  simp only[List.range_zero,List.map_nil,List.take_zero]
  split
  ·rename_i h
   simp at h
   have:x.cps.toList=[]:=List.eq_nil_of_length_eq_zero (by rw[hlen];exact h.symm)
   exact this
  ·rfl
section
variable{X:Cx}
inductive Zj (x:V) (lo:Option Int) (a:Option Int) (H:Hp) (Q:VK):Prop
 |mk (z:_) (b:x=.str z) (c:z.length<=sizeLine) (d:Q (.str (Txt.slice z lo a)) H):Zj x lo a H Q
def lW:V->Option Int->Option Int->Hp->VK->Prop:=fun x lo a H Q=>Zj x lo a H Q
theorem PU:jr X lW:=by
 intro pins s g H x v o p lo m r Q I n a pl e h
 obtain⟨z,rfl,b,q⟩:=h
 obtain⟨t,rfl⟩:=n
 refine⟨"str",_,F.slot_str_getitem.lookup,typeIs_str _ _ _,?_⟩
 have fin:∀c k,EP X pins g Q (.str (Txt.slice z lo m) c) {s with toks:=k}:=fun c k=>⟨.str _,H,I.tok k,⟨c,rfl⟩,q⟩
 cases pl with
 |none=>
  cases e with
  |none=>exact wpAny_getItem_str_slice (l:=none) (u:=none) (st:=none) a rfl (post_val_or_str ⟨Nat.le_trans (Txt.slice_le z _ _) b,fin⟩)
  |int j d=>exact wpAny_getItem_str_slice (l:=none) (u:=some (j,d)) (st:=none) a rfl (post_val_or_str ⟨Nat.le_trans (Txt.slice_le z _ _) b,fin⟩)
 |int i f=>
  cases e with
  |none=>exact wpAny_getItem_str_slice (l:=some (i,f)) (u:=none) (st:=none) a rfl (post_val_or_str ⟨Nat.le_trans (Txt.slice_le z _ _) b,fin⟩)
  |int j d=>exact wpAny_getItem_str_slice (l:=some (i,f)) (u:=some (j,d)) (st:=none) a rfl (post_val_or_str ⟨Nat.le_trans (Txt.slice_le z _ _) b,fin⟩)
end
section
variable{X:Cx} {tg:Expr}
inductive Np (K:ACH) (xs:List V) (H:Hp) (Q:VK):Prop
 |mk (p:Addr) (bs:List Bool) (a:xs=[.ref p]) (b:Bd K H p (bs.map V.bl)) (c:Q (.bl (bs.all id)) H):Np K xs H Q
theorem PV {ys:List Str}:∀{us:List Value},Vals (ys.map V.str) us->StrsAre us ys:=by
 induction ys with
 |nil=>intro us r;rw[List.map_nil]at r;cases r;exact .nil
 |cons n d a=>
  intro us r
  rw[List.map_cons]at r
  cases r with
  |cons b c=>
   obtain⟨t,e⟩:=b
   subst e
   exact .cons n t (a c)
inductive Ul (K:ACH) (x:V) (vs:List V) (H:Hp) (Q:VK):Prop
 |mk (z:Str) (p:Addr) (ys:List Str) (a:x=.str z) (b:vs=[.ref p]) (c:Bd K H p (ys.map V.str)) (d:(ys.map (·.length)).sum+ys.length*z.length<=16777216) (e:Q (.str (Txt.join z ys)) H):Ul K x vs H Q
def rJoin (K:ACH):V->List V->Hp->VK->Prop:=fun x a H Q=>Ul K x a H Q
theorem YD:kz X "str.join" (rJoin X.K):=by
 intro pins s i H x j v l Q I a b h
 obtain⟨z,p,m,rfl,rfl,c,d,q⟩:=h
 obtain⟨t,rfl⟩:=a
 obtain⟨u,rfl,e⟩:=b.one
 cases e
 obtain⟨f,r,pl,_⟩:=I.list c
 exact join_list pl.isList (by rw[List.toList_toArray];exact PV r) d fun g k=>⟨.str _,H,I.tok k,⟨g,rfl⟩,q⟩
inductive Kl (x:V) (y:V) (H:Hp) (Q:VK):Prop
 |mk (z:_) (n:_) (a:x=.str z) (b:y=.int n) (c:MulOk z n) (d:Q (.str (Txt.mul z n)) H):Kl x y H Q
inductive SO (x:V) (y:V) (H:Hp) (Q:VK):Prop
 |mk (a:_) (b:_) (c:x=.bl a) (d:y=.bl b) (e:Q (.bl (a==b)) H):SO x y H Q
inductive MH (x:V) (y:V) (H:Hp) (Q:VK):Prop
 |mk (a:_) (b:_) (c:x=.bl a) (d:y=.bl b) (e:Q (.bl (!(a==b))) H):MH x y H Q
inductive MI (K:ACH) (xs:List V) (H:Hp) (Q:VK):Prop
 |mk (x:_) (T:_) (t:_) (b:_) (a:xs=[x,.ty T]) (c:Hl K H x t) (d:PySem.W.kitOne K t (.type T)=some b) (e:Q (.bl b) H):MI K xs H Q
inductive Nq (x:V) (vs:List V) (H:Hp) (Q:VK):Prop
 |mk (l:_) (xs:_) (i:_) (y:_) (a:x=.ref l) (b:vs=[.int ((i:Nat):Int),y]) (c:H l=some (.lst xs)) (d:i<=xs.length) (e:xs.length<sizeLine) (f:Q .Ao (upd H l (.lst (xs.take i++y::xs.drop i)))):Nq x vs H Q
def YE:V->List V->Hp->VK->Prop:=fun x a H Q=>Nq x a H Q
theorem SQ:gE X "list.insert" YE:=by
 intro pins s E H x G v J Q I o p h
 obtain⟨l,xs,i,y,rfl,rfl,f,g,j,q⟩:=h
 cases o
 obtain⟨K,c,rfl,⟨t,u⟩,w⟩:=p.two
 subst u
 obtain⟨z,a,n,r,k,e⟩:=I.UW f
 have d:a.toArray.size<=sizeLine:=by rw[List.size_toArray,<-k];exact Nat.le_of_lt j
 have A:i<2 ^ 63:=Nat.lt_of_le_of_lt (Nat.le_trans g (Nat.le_of_lt j)) GW
 have B:i<=a.length:=by rw[<-k];exact g
 obtain⟨x,C⟩:∃x:Int,x=(i:Int):=⟨_,rfl⟩
 rw[<-C]
 have b:¬(!Builtin.List.listFitsIndex x)=true:=by
  have:Builtin.List.listFitsIndex x=true:=by
   unfold Builtin.List.listFitsIndex
   simp only[Bool.and_eq_true,decide_eq_true_eq]
   constructor<;>lia
  simp[this]
 have D:∀m:Nat,a.length=m->(if x<0 then(x+(m:Int)).toNat else min x.toNat m)=i:=fun m L=>by
  rw[if_neg (by lia)]
  lia
 refine call_meets PySem.F.slot_list_insert ⟨_,e,rfl⟩ PySem.F.entry_list_insert (PySem.F.args_list_insert_3 _ _ _) (PySem.AutoSeq1.list_insert_list_int_val_1 l a.toArray n x t c b d) ⟨e,?_⟩
 refine⟨.Ao,_,I.Xu (its':=a.take i++c::a.drop i) f e ?_ ((r.take i).append (.cons w (r.drop i))) ?_,rfl,q⟩
 ·show(a.toArray.extract 0 (if x<0 then(x+(a.toArray.size:Int)).toNat else min x.toNat a.toArray.size)).push c++a.toArray.extract (if x<0 then(x+(a.toArray.size:Int)).toNat else min x.toNat a.toArray.size)=_
  rw[D a.toArray.size (List.size_toArray ..).symm]
  apply Array.toList_inj.mp
  simp[List.take_of_length_le]
 ·simp only[List.length_append,List.length_take,List.length_cons,List.length_drop]
  lia
end
section
variable{X:Cx}
inductive Um (x:V) (y:V) (H:Hp) (Q:VK):Prop
 |mk (a:_) (b:_) (xs:_) (ys:_) (d:x=.ref a) (e:y=.ref b) (f:H a=some (.tup xs)) (g:H b=some (.tup ys)) (h:xs.length+ys.length<=sizeLine) (i:∀p c,AJ H c->c p=some (.tup (xs++ys))->Q (.ref p) c):Um x y H Q
def gO:R2:=fun x y H Q=>Um x y H Q
theorem FA:Dy X (binaryOp .Add) gO:=by
 intro pins s C H x y v u Q I r t h
 obtain⟨a,b,xs,D,rfl,rfl,j,k,E,q⟩:=h
 by_cases l:xs=[]
 ·cases r
  cases t
  obtain⟨c,G,J,_⟩:=I.tuple (Ah.of j)
  obtain⟨d,S,K,_⟩:=I.tuple (Ah.of k)
  obtain⟨⟨L,M,data,N⟩,w,z,n,A⟩:=id J
  obtain⟨⟨B,m,data2,o⟩,f,g,O,i⟩:=id K
  simp only at z A g i
  subst z A g i
  have P:c=[]:=G.Iz.mpr l
  refine concat_meets ⟨_,w,rfl⟩ ⟨_,f,rfl⟩ noFill_tuple_add seq_tuple_add PySem.F.slot_tuple_add PySem.F.entry_tuple_add (PySem.F.args_tuple_add_2 _ _)
   (tuple_addW0 a b c.toArray d.toArray n O M m N o (by simp[P])) ⟨w,f,?_⟩
  refine⟨.ref b,H,I.tok s.toks,rfl,q b H (AJ.refl H) ?_⟩
  rw[l]
  exact k
 ·refine Xs pins s C H (.ref a) (.ref b) v u Q I r t ⟨a,b,xs,D,rfl,rfl,Ah.of j,Ah.of k,l,E,fun e=>?_,fun e p R=>q p _ (AJ.new R) AF⟩
  refine q a H (AJ.refl H) ?_
  rw[e,List.append_nil]
  exact j
end
end L2
namespace HT
open PySem PyProof.Rows
section
variable{prog:Program} {w:World} {A:Around} {E:Value->Shared->Prop} {s:Shared}
theorem HD {t d:Addr} {items:Array Value} {i j:Value} {lo c:Option Int} {Q:Value->Shared->Prop} (a:IsTup s.heap t items) (hs:s.heap.IsSliceOf d i j .none) (pl:IsPart i lo) (k:IsPart j c)
  (hw:CZ items.size 0 lo=0/\CZ items.size items.size c=items.size) (h:Q (.ref t) s):wpAny (model prog w) A (getItem (.ref t) (.ref d)) Q E s:=by
 obtain⟨os,e,f,l⟩:=id hs
 have g:s.TypeIs (.ref d) "slice":=⟨os,e,f⟩
 unfold getItem
 try with_reducible refine wpAny_holding ?_
 first|refine wpAny_bind (wpAny_pure ?_)|skip
 refine wpAny_bind (wpAny_sequenceKey a.typeIs (by decide) ?_)
 refine wpAny_bind (wpAny_callSpecial?_slot (name:=Str.ofString "__getitem__") a.typeIs PyProof.Rows.slot_tuple_getitem
  (wpAny_call_entry PyProof.Rows.slot_tuple_getitem a.typeIs entry_tuple_getitem ?_ (args_tuple_getitem _ _)))
 show wpAny _ _ (Builtin.Tuple.tupleItemsOf (.ref t)>>=_) _ _ s
 refine wpAny_bind (tupleItemsOf_ a ?_)
 refine wpAny_bind (wpAny_typeOf g ?_)
 rw[if_pos (by decide)]
 refine wpAny_bind (EV hs pl k ?_)
 have b:(((CZ items.size 0 lo:Nat):Int)==0&&(1:Int)==1&&(CZ items.size items.size c-CZ items.size 0 lo)==items.size)=true:=by
  rw[hw.1,hw.2]
  simp
 show wpAny _ _ (if(((CZ items.size 0 lo:Nat):Int)==0&&(1:Int)==1&&(CZ items.size items.size c-CZ items.size 0 lo)==items.size)=true then _ else _) _ _ s
 rw[if_pos b]
 refine wpAny_bind (m:=Builtin.Tuple.tupleIsExact _) ?_
 unfold Builtin.Tuple.tupleIsExact
 first
  |refine wpAny_bind (wpAny_typeOf a.typeIs (wpAny_pure ?_))
  |refine wpAny_typeOf a.typeIs ?_
 rw[if_pos (by decide)]
 exact wpAny_bind (wpAny_rule (wpAny_pure ⟨_,rfl,wpAny_pure h⟩))
end
end HT
namespace L2
open PySem PySem.Spec PyProof.Rows
section
variable{X:Cx}
inductive Zk (x:V) (lo:Option Int) (c:Option Int) (H:Hp) (Q:VK):Prop
 |mk (a:_) (xs:_) (d:x=.ref a) (e:H a=some (.tup xs)) (f:∀p b,AJ H b->b p=some (.tup (FY xs lo c))->Q (.ref p) b):Zk x lo c H Q
def lY:V->Option Int->Option Int->Hp->VK->Prop:=fun x lo a H Q=>Zk x lo a H Q
theorem CD:jr X lY:=by
 intro pins s j H x v k l lo d m Q I e f pl g h
 obtain⟨a,xs,rfl,b,q⟩:=h
 by_cases hw:HT.CZ xs.length 0 lo=0/\HT.CZ xs.length xs.length d=xs.length
 ·cases e
  obtain⟨c,r,i,o⟩:=I.tuple (Ah.of b)
  have hlen:c.toArray.size=xs.length:=by rw[List.size_toArray];exact r.length.symm
  refine⟨"tuple",_,PyProof.Rows.slot_tuple_getitem.lookup,i.typeIs,?_⟩
  refine HT.HD i f pl g (by rw[hlen];exact hw) ⟨.ref a,H,I,rfl,q a H (AJ.refl H) ?_⟩
  unfold FY
  rw[hw.1,hw.2,List.drop_zero,Nat.sub_zero,List.take_length]
  exact b
 ·exact bJ pins s j H (.ref a) v k l lo d m Q I e f pl g ⟨a,xs,rfl,Ah.of b,hw,fun p n=>q p _ (AJ.new n) AF⟩
theorem Qv (l:List V) (k:Nat):FY l none (some (k:Int))=l.take k:=by
 unfold FY
 rw[HT.Qp]
 show(l.drop 0).take (min k l.length-0)=_
 rw[List.drop_zero,Nat.sub_zero,List.take_eq_take_min]
 simp
theorem Hn (l:List V) (k:Nat):FY l (some (k:Int)) none=l.drop k:=by
 unfold FY
 rw[HT.Qp]
 show(l.drop (min k l.length)).take (l.length-min k l.length)=_
 have:(l.drop (min k l.length)).length=l.length-min k l.length:=List.length_drop
 rw[<-this,List.take_length]
 by_cases h:k<=l.length
 ·rw[Nat.min_eq_left h]
 ·rw[Nat.min_eq_right (by lia),List.drop_eq_nil_of_le (by lia),List.drop_eq_nil_of_le (by lia)]
end
inductive PX (H:Hp):V->String->Prop where
 |Ao:PX H .Ao "NoneType"
 |bl (b:Bool):PX H (.bl b) "bool"
 |int (i:Int):PX H (.int i) "int"
 |str (x:Str):PX H (.str x) "str"
 |lst {a:Addr} {xs:List V} (e:Rd H a (.lst xs)):PX H (.ref a) "list"
 |tup {a:Addr} {xs:List V} (e:H a=some (.tup xs)):PX H (.ref a) "tuple"
 |dK {a:Addr} {kvs:List (Key×V)} (e:Rd H a (.dK kvs)):PX H (.ref a) "dict"
theorem Rd.up {H b:Hp} {a:Addr} {u:HO} (h:Rd H a u) (s:∀o,H a=some o->b a=some o):Rd b a u:=by
 rcases h with h|⟨o,h⟩
 ·exact .inl (s _ h)
 ·exact .inr ⟨o,s _ h⟩
def bU (T c:String):Bool:=T==c||(T=="bool"&&c=="int")
def YF (c:String):Bool:=["int","bool","str","list","tuple","dict"].contains c
theorem YG {K:ACH} {H:Hp} {v:V} {T c:String} (h:PX H v T) (a:YF c=true):PySem.W.kitOne K (.type T) (.type c)=some (bU T c):=by
 have a:c="int"∨c="bool"∨c="str"∨c="list"∨c="tuple"∨c="dict":=by
  unfold YF at a
  simpa using a
 cases h<;>rcases a with rfl|rfl|rfl|rfl|rfl|rfl<;>kernel_rfl
section
variable{X:Cx}
inductive Zl (xs:List V) (H:Hp) (Q:VK):Prop
 |mk (x:_) (c:_) (T:_) (a:xs=[x,.ty c]) (b:YF c=true) (d:PX H x T) (e:Q (.bl (bU T c)) H):Zl xs H Q
def lZ:List V->Hp->VK->Prop:=fun xs H Q=>Zl xs H Q
theorem Uo {pins:List (Addr×Obj)} {σ:St} {H:Hp} {s:Shared} {A:Around} {E:Value->Shared->Prop} {Q:Value->Shared->Prop} {x:V} {u:Value} {T c:String} {b:Bool} (I:Inv X pins σ H s) (d:RelV x u) (ty:PX H x T) (e:PySem.W.kitOne X.K (.type T) (.type c)=some b) (h:∀tk,Q (.bool b) {s with toks:=tk}):
  wpAny (model X.prog X.w) A (call (.builtin "isinstance") [u,.type c]) Q E s:=by
 cases ty with
 |Ao=>exact EU I d .Ao e h
 |bl y=>exact EU I d (.bl y) e h
 |int i=>exact EU I d (.int i) e h
 |str y=>exact EU I d (.str y) e h
 |tup f=>exact EU I d (.tup f) e h
 |@lst a xs f=>
  cases(show u=Value.ref a from d)
  obtain⟨_,_,n,_,g⟩:=(show BJ X.prog X.w H s.heap a (.lst xs)from f.ok I.Bl)
  exact PySem.W.kia_one PySem.W.kitx_list I.Ly ⟨_,g,rfl⟩ e (fun z=>nomatch z) h
 |@dK a kvs f=>
  cases(show u=Value.ref a from d)
  obtain⟨_,_,k,_,p⟩:=(show BJ X.prog X.w H s.heap a (.dK kvs)from f.ok I.Bl)
  obtain⟨o,l,m,g,j,_⟩:=p
  exact PySem.W.kia_one PySem.W.kitx_dict I.Ly ⟨o,g,j.1⟩ e (fun z=>nomatch z) h
theorem BR:Dz X (.builtin "isinstance") lZ:=by
 intro pins s f H xs g Q I r h
 obtain⟨x,c,T,rfl,b,ty,q⟩:=h
 obtain⟨u,i,rfl,d,a⟩:=vals2 r
 cases a
 exact Uo I d ty (YG ty b) fun e=>⟨.bl _,H,I.tok e,rfl,q⟩
end
open Builtin Builtin.Str
abbrev sgn (x:Str):List Nat:=x.cps.toList
def YH:List Nat:=sgn "abcdefghijklmnopqrstuvwxyz"
def Up (c:Nat):Bool:=decide (c∈YH)
theorem PY (x:Str):(sgn x).length=x.length:=by
 show x.cps.toList.length=x.cps.size
 exact Array.length_toList
theorem DE (x y:Str):sgn (x++y)=sgn x++sgn y:=by
 show(x.cps++y.cps).toList=_
 exact Array.toList_append
theorem EZ (x:Str) (l u:Option Int):sgn (Txt.slice x l u)=PQ (sgn x) l u:=Nn x l u
def Nr (l:List Nat):Bool:=decide (1<=l.length)&&decide (l.length<=8)&&l.all Up
def Be (x:Str):Bool:=Nr (sgn x)
theorem Nt (ys:List Str):sgn (Txt.join "" ys)=(ys.map sgn).flatten:=by
 have h:∀ys:List Str,sgn (Str.join "" ys)=(ys.map sgn).flatten:=by
  intro ys
  induction ys with
  |nil=>rfl
  |cons x r a=>
   cases r with
   |nil=>
    show sgn x=_
    simp
   |cons y r=>
    show sgn (x++""++Str.join "" (y::r))=_
    rw[DE,DE,a]
    have:sgn ("":Str)=[]:=by decide
    rw[this]
    simp
 show sgn (Builtin.Str.glued "" ys)=_
 rw[StrLaws.glued_eq_join]
 exact h ys
theorem Ur (n d k:Nat):HT.CZ n d (some (k:Int))=min k n:=by
 show(if(k:Int)<0 then((k:Int)+(n:Int)).toNat else min (k:Int).toNat n)=min k n
 rw[if_neg (by lia),Int.toNat_natCast]
theorem MJ (l:List Nat) (k:Nat):PQ l none (some (k:Int))=l.take k:=by
 unfold PQ
 have e:=Ur l.length l.length k
 rw[e]
 show(l.drop 0).take (min k l.length-0)=_
 rw[List.drop_zero,Nat.sub_zero,List.take_eq_take_min]
 simp
theorem YI (l:List Nat) (a b:Nat) (c:a<=b) (d:b<=l.length):PQ l (some (a:Int)) (some (b:Int))=(l.take b).drop a:=by
 unfold PQ
 have e:HT.CZ l.length 0 (some (a:Int))=a:=(Ur _ _ a).trans (Nat.min_eq_left (by lia))
 have f:HT.CZ l.length l.length (some (b:Int))=b:=(Ur _ _ b).trans (Nat.min_eq_left d)
 rw[e,f,List.drop_take]
theorem Jh {l:List Nat} {p:Nat->Bool} (h:l.all p=true) (k:Nat):(l.take k).all p=true:=by
 rw[List.all_eq_true]at h⊢
 exact fun x a=>h x (List.mem_of_mem_take a)
theorem Us {l:List Nat} {p:Nat->Bool} (h:l.all p=true) (k:Nat):(l.drop k).all p=true:=by
 rw[List.all_eq_true]at h⊢
 exact fun x a=>h x (List.mem_of_mem_drop a)
theorem PZ {c:Nat} (h:c∈YH):Up c=true:=decide_eq_true h
theorem Nu {l:List Nat} (a:1<=l.length) (b:l.length<=8) (c:l.all Up=true):Nr l=true:=by
 unfold Nr
 simp only[Bool.and_eq_true,decide_eq_true_eq]
 exact⟨⟨a,b⟩,c⟩
inductive Dc where
 |leaf (v:V)
 |row (a:Addr) (xs:List Dc)
 |tab (a:Addr) (ks:List Str) (xs:List Dc)
namespace Dc
def val:Dc->V
 |leaf v=>v
 |row a _=>.ref a
 |tab a _ _=>.ref a
mutual
def addrs:Dc->List Addr
 |leaf _=>[]
 |row a xs=>a::AK xs
 |tab a _ xs=>a::AK xs
def AK:List Dc->List Addr
 |[]=>[]
 |x::r=>addrs x++AK r
end
mutual
def size:Dc->Nat
 |leaf _=>1
 |row _ xs=>1+Ab xs
 |tab _ _ xs=>1+Ab xs
def Ab:List Dc->Nat
 |[]=>0
 |x::r=>size x+Ab r
end
def Lf (v:V):Prop:=(∃i,v=.int i)∨∃x:Str,v=.str x/\x.length<=100
def kvs (ks:List Str) (xs:List Dc):List (Key×V):=(ks.zip (xs.map val)).map fun p=>(Sum.inr p.1,p.2)
mutual
def At (H:Hp):Dc->Prop
 |leaf v=>Lf v
 |row a xs=>Rd H a (.lst (xs.map val))/\DF H xs
 |tab a ks xs=>Rd H a (.dK (kvs ks xs))/\ks.length=xs.length/\ks.Nodup/\DF H xs
def DF (H:Hp):List Dc->Prop
 |[]=>True
 |x::r=>At H x/\DF H r
end
mutual
def put (b:Addr) (i:Nat) (k:Str) (p:Dc):Dc->Dc
 |leaf v=>leaf v
 |row a xs=>if a=b then row a (xs.take i++p::xs.drop i)else row a (putL b i k p xs)
 |tab a ks xs=>if a=b then tab a (ks++[k]) (xs++[p])else tab a ks (putL b i k p xs)
def putL (b:Addr) (i:Nat) (k:Str) (p:Dc):List Dc->List Dc
 |[]=>[]
 |x::r=>put b i k p x::putL b i k p r
end
theorem size_pos (d:Dc):1<=d.size:=by
 cases d<;>simp only[size]<;>lia
theorem AU:∀xs ys:List Dc,AK (xs++ys)=AK xs++AK ys
 |[],_=>rfl
 |x::r,ys=>by simp only[List.cons_append,AK,AU r ys,List.append_assoc]
theorem Bq:∀xs ys:List Dc,Ab (xs++ys)=Ab xs+Ab ys
 |[],ys=>by simp[Ab]
 |x::r,ys=>by simp only[List.cons_append,Ab,Bq r ys];lia
theorem BW {H:Hp}:∀xs ys:List Dc,DF H (xs++ys)↔DF H xs/\DF H ys
 |[],ys=>by simp[DF]
 |x::r,ys=>by simp only[List.cons_append,DF,BW r ys,and_assoc]
theorem CV {H:Hp}:∀{xs:List Dc},DF H xs->∀x∈xs,At H x
 |[],_,x,a=>nomatch a
 |y::r,h,x,a=>by
  simp only[DF]at h
  rcases List.mem_cons.mp a with rfl|a
  ·exact h.1
  ·exact CV h.2 x a
theorem Ea:∀{xs:List Dc} {x:Dc},x∈xs->x.size<=Ab xs
 |[],_,h=>nomatch h
 |y::r,x,h=>by
  simp only[Ab]
  rcases List.mem_cons.mp h with rfl|h
  ·lia
  ·have:=Ea h
   lia
theorem GY:∀{xs:List Dc} {x:Dc} {a:Addr},x∈xs->a∈x.addrs->a∈AK xs
 |[],_,_,h,_=>nomatch h
 |y::r,x,a,h,b=>by
  simp only[AK]
  rcases List.mem_cons.mp h with rfl|h
  ·exact List.mem_append_left _ b
  ·exact List.mem_append_right _ (GY h b)
mutual
theorem Fh {H e:Hp}:∀d:Dc,(∀a∈d.addrs,∀o,H a=some o->e a=some o)->d.At H->d.At e
 |leaf v,_,h=>h
 |row a xs,f,h=>by
  simp only[At]at h⊢
  exact⟨h.1.up (f a (by simp[addrs])),BL xs (fun c b=>f c (by simp only[addrs];exact List.mem_cons_of_mem _ b)) h.2⟩
 |tab a ks xs,f,h=>by
  simp only[At]at h⊢
  exact⟨h.1.up (f a (by simp[addrs])),h.2.1,h.2.2.1,BL xs (fun c b=>f c (by simp only[addrs];exact List.mem_cons_of_mem _ b)) h.2.2.2⟩
theorem BL {H d:Hp}:∀xs:List Dc,(∀a∈AK xs,∀o,H a=some o->d a=some o)->DF H xs->DF d xs
 |[],_,h=>h
 |x::r,f,h=>by
  simp only[DF]at h⊢
  exact⟨Fh x (fun c b=>f c (by simp only[AK];exact List.mem_append_left _ b)) h.1,BL r (fun c b=>f c (by simp only[AK];exact List.mem_append_right _ b)) h.2⟩
end
mutual
theorem Qw {H e:Hp}:∀d:Dc,(∀a∈d.addrs,∀u,Rd H a u->Rd e a u)->d.At H->d.At e
 |leaf v,_,h=>h
 |row a xs,f,h=>by
  simp only[At]at h⊢
  exact⟨f a (by simp[addrs]) _ h.1,Ji xs (fun c b=>f c (by simp only[addrs];exact List.mem_cons_of_mem _ b)) h.2⟩
 |tab a ks xs,f,h=>by
  simp only[At]at h⊢
  exact⟨f a (by simp[addrs]) _ h.1,h.2.1,h.2.2.1,Ji xs (fun c b=>f c (by simp only[addrs];exact List.mem_cons_of_mem _ b)) h.2.2.2⟩
theorem Ji {H d:Hp}:∀xs:List Dc,(∀a∈AK xs,∀u,Rd H a u->Rd d a u)->DF H xs->DF d xs
 |[],_,h=>h
 |x::r,f,h=>by
  simp only[DF]at h⊢
  exact⟨Qw x (fun c b=>f c (by simp only[AK];exact List.mem_append_left _ b)) h.1,Ji r (fun c b=>f c (by simp only[AK];exact List.mem_append_right _ b)) h.2⟩
end
theorem BS {H b:Hp} {d:Dc} (s:AJ H b) (h:d.At H):d.At b:=Fh d (fun a _ o e=>s a o e) h
theorem Ut {ks:List Str} {xs:List Dc} (k:Str) (p:Dc) (h:ks.length=xs.length):kvs (ks++[k]) (xs++[p])=kvs ks xs++[(Sum.inr k,p.val)]:=by
 unfold kvs
 rw[List.map_append,List.zip_append (by rw[List.length_map];exact h),List.map_append]
 rfl
theorem Dq {ks:List Str} {xs:List Dc} (h:ks.length=xs.length):(kvs ks xs).map (·.1)=ks.map Sum.inr:=by
 unfold kvs
 rw[List.map_map]
 have:(fun p:Str×V=>(Sum.inr p.1:Key))=(Sum.inr:Str->Key)∘Prod.fst:=rfl
 show List.map ((fun p:Key×V=>p.1)∘fun p:Str×V=>(Sum.inr p.1,p.2)) (ks.zip (xs.map val))=_
 have e:((fun p:Key×V=>p.1)∘fun p:Str×V=>((Sum.inr p.1:Key),p.2))=(Sum.inr:Str->Key)∘Prod.fst:=rfl
 rw[e,<-List.map_map,List.map_fst_zip (by rw[List.length_map];lia)]
mutual
theorem LK {H:Hp} {b:Addr}:∀d:Dc,d.At H->b∈d.addrs->(∃vs,Rd H b (.lst vs)/\vs.length<d.size)∨∃ks:List Str,∃f,Rd H b (.dK f)/\f.map (·.1)=ks.map Sum.inr/\f.length<d.size
 |leaf v,_,h=>by simp[addrs]at h
 |row a xs,h,c=>by
  simp only[At]at h
  simp only[addrs,List.mem_cons]at c
  simp only[size]
  rcases c with rfl|c
  ·refine .inl ⟨_,h.1,?_⟩
   rw[List.length_map]
   have:=GZ xs
   lia
  ·rcases Ga xs h.2 c with⟨vs,e,l⟩|⟨ks,f,e,z,l⟩
   ·exact .inl ⟨vs,e,by lia⟩
   ·exact .inr ⟨ks,f,e,z,by lia⟩
 |tab a ks xs,h,c=>by
  simp only[At]at h
  simp only[addrs,List.mem_cons]at c
  simp only[size]
  rcases c with rfl|c
  ·refine .inr ⟨ks,_,h.1,Dq h.2.1,?_⟩
   have e:(kvs ks xs).length=ks.length:=by
    have:=congrArg List.length (Dq (ks:=ks) (xs:=xs) h.2.1)
    simpa using this
   rw[e,h.2.1]
   have:=GZ xs
   lia
  ·rcases Ga xs h.2.2.2 c with⟨vs,e,l⟩|⟨ks,f,e,z,l⟩
   ·exact .inl ⟨vs,e,by lia⟩
   ·exact .inr ⟨ks,f,e,z,by lia⟩
theorem Ga {H:Hp} {b:Addr}:∀xs:List Dc,DF H xs->b∈AK xs->(∃vs,Rd H b (.lst vs)/\vs.length<Ab xs)∨∃ks:List Str,∃a,Rd H b (.dK a)/\a.map (·.1)=ks.map Sum.inr/\a.length<Ab xs
 |[],_,h=>by simp[AK]at h
 |x::r,h,c=>by
  simp only[DF]at h
  simp only[AK,List.mem_append]at c
  simp only[Ab]
  rcases c with c|c
  ·rcases LK x h.1 c with⟨vs,e,l⟩|⟨ks,a,e,z,l⟩
   ·exact .inl ⟨vs,e,by lia⟩
   ·exact .inr ⟨ks,a,e,z,by lia⟩
  ·rcases Ga r h.2 c with⟨vs,e,l⟩|⟨ks,a,e,z,l⟩
   ·exact .inl ⟨vs,e,by lia⟩
   ·exact .inr ⟨ks,a,e,z,by lia⟩
theorem GZ:∀xs:List Dc,xs.length<=Ab xs
 |[]=>Nat.le_refl _
 |x::r=>by
  have:=GZ r
  have:=size_pos x
  simp only[Ab,List.length_cons]
  lia
end
end Dc
section
variable{X:Cx}
inductive SR (K:ACH) (x:V) (y:V) (H:Hp) (Q:VK):Prop
 |mk (a:Addr) (b:Addr) (xs:List V) (c:x=.ref a) (d:y=.ref b) (e:Bd K H a xs) (f:Bd K H b []) (g:Q (.bl xs.isEmpty) H):SR K x y H Q
inductive SU (K:ACH) (x:V) (y:V) (H:Hp) (Q:VK):Prop
 |mk (a:Addr) (b:Addr) (xs:List V) (c:x=.ref a) (d:y=.ref b) (e:Bd K H a xs) (f:Bd K H b []) (g:Q (.bl (!xs.isEmpty)) H):SU K x y H Q
def BB (xs ys:List V):Bool:=((List.range (min xs.length ys.length)).all fun j=>F' (xs.getD j .Ao) (ys.getD j .Ao))&&xs.length==ys.length
inductive LL (K:ACH) (x:V) (y:V) (H:Hp) (Q:VK):Prop
 |mk (a:Addr) (b:Addr) (xs:List V) (ys:List V) (c:x=.ref a) (d:y=.ref b) (e:Ah K H a xs) (f:Ah K H b ys) (g:(∀z∈xs,Bg z=true)) (h:(∀z∈ys,Bg z=true)) (i:Q (.bl (BB xs ys)) H):LL K x y H Q
def Uu (K:ACH):V->V->Hp->VK->Prop:=fun x y H Q=>LL K x y H Q
theorem Pa (r:X.A.units<cLine):Dy X (compareOp .Eq) (Uu X.K):=by
 intro pins s U H x y v u Q I t w h
 obtain⟨a,b,xs,d,rfl,rfl,z,B,C,D,q⟩:=h
 cases t
 cases w
 obtain⟨i,k,E,_⟩:=I.tuple z
 obtain⟨c,l,F,_⟩:=I.tuple B
 have m:i.toArray.size=xs.length:=by rw[List.size_toArray];exact k.length.symm
 have n:c.toArray.size=d.length:=by rw[List.size_toArray];exact l.length.symm
 refine SeqAt.eq_tupleAt (e:=fun j=>F' (xs.getD j .Ao) (d.getD j .Ao)) E F r (fun j G J=>?_) ?_
 ·have f:j<xs.length:=by rw[<-m];exact G
  have g:j<d.length:=by rw[<-n];exact J
  obtain⟨o,L,M⟩:=k.get (ACD f)
  obtain⟨p,N,O⟩:=l.get (ACD g)
  have P:i.toArray[j]=o:=by
   have:=(ACE L).2
   simpa using this
  have R:c.toArray[j]=p:=by
   have:=(ACE N).2
   simpa using this
  rw[P,R]
  have S:xs.getD j .Ao=xs[j]:=by rw[List.getD_eq_getElem?_getD,ACD f];rfl
  have T:d.getD j .Ao=d[j]:=by rw[List.getD_eq_getElem?_getD,ACD g];rfl
  show SeqAt.EqAt _ _ o p (F' (xs.getD j .Ao) (d.getD j .Ao))
  rw[S,T]
  exact JX M O (C _ (List.getElem_mem f)) (D _ (List.getElem_mem g))
 ·rw[m,n]
  exact⟨.bl (BB xs d),H,I,rfl,q⟩
def gP (T:String):Bool:=T=="list"||T=="dict"
inductive Km (xs:List V) (H:Hp) (Q:VK):Prop
 |mk (x:V) (p:Addr) (T:String) (a:xs=[x,.ref p]) (b:H p=some (.tup [.ty "list",.ty "dict"])) (c:PX H x T) (d:Q (.bl (gP T)) H):Km xs H Q
theorem SV {w:World} {P:Program} {vs:List (Key×Value)} {ss:List Str} (b:vs.map (·.1)=ss.map Sum.inr) {ws:List Value} (c:ws.length=vs.length)
  (h:∀(j:Nat) (v:Value),ws[j]?=some v->∃k x,vs[j]?=some (k,x)/\(Av P w).is k v=true):StrsAre ws ss:=by
 induction ss generalizing vs ws with
 |nil=>
  have:vs=[]:=by cases vs with|nil=>rfl|cons a r=>simp at b
  subst this
  have:ws=[]:=List.eq_nil_of_length_eq_zero c
  subst this
  exact .nil
 |cons x r l=>
  cases vs with
  |nil=>simp at b
  |cons a vs=>
   simp only[List.map_cons,List.cons.injEq]at b
   cases ws with
   |nil=>simp at c
   |cons u ws=>
    obtain⟨k,y,e,d⟩:=h 0 u rfl
    have e:a=(k,y):=by simpa using e
    subst e
    have f:k=Sum.inr x:=b.1
    subst f
    have d:JL (Sum.inr x) u=true:=d
    rcases BP d with⟨i,t,g,_⟩|⟨z,t,g,m⟩
    ·cases g
    ·cases g
     subst m
     exact .cons _ t (l b.2 (by simpa using c) fun j v n=>h (j+1) v (by simpa using n))
theorem SW {us:List Value} {ys:List Str} (h:StrsAre us ys):Vals (ys.map V.str) us:=by
 induction h with
 |nil=>exact .nil
 |cons n t _ a=>exact .cons ⟨t,rfl⟩ a
inductive FK (xs:List V) (H:Hp) (Q:VK):Prop
 |mk (d:Addr) (b:List (Key×V)) (ss:List Str) (e:xs=[.ref d]) (f:Rd H d (.dK b)) (g:b.map (·.1)=ss.map Sum.inr) (h:b.length<64) (i:∀(p:Addr) (a:List Str) (c:Hp),H p=none->AJ H c->c p=some (.lst (a.map V.str))->a.Perm ss->sortedS a=true->Q (.ref p) c):FK xs H Q
def Jj:List V->Hp->VK->Prop:=fun xs H Q=>FK xs H Q
theorem MK (T:X.calm=true):Dz X (.builtin "sorted") Jj:=by
 intro pins s σ H xs us Q I r h
 obtain⟨d,U,F,rfl,hd,G,p,q⟩:=h
 obtain⟨u,rfl,Y⟩:=vals1 r
 cases Y
 obtain⟨z,Z,k,l,dd⟩:=FJ I.Bl hd
 have t:X.A.in1.handled=none:=I.ok.hd T
 have n:k.length=U.length:=l.length.symm
 have x:k.map (·.1)=F.map Sum.inr:=by rw[<-G];exact(KV.keys l).symm
 obtain⟨ep,y⟩:=dd.dictAt
 have J:k.length<=sizeLine:=by rw[n];exact z
 refine Calls.call_function_entry kind_sorted plain_sorted entry_sorted (args_sorted1 _) ?_
 unfold Builtin.«sorted»
 refine wpAny_bind (m:=checkCount "sorted" 1 1 _) (wpAny_pure (wpAny_bind (PySem.W.kdu_collect (PySem.W.kdl_dict (knd:=Av X.prog X.w) (kvs:=k) (ep:=ep) Z) t y J fun c K a keep items=>?_)))
 have B:a.toList.length=k.length:=by rw[Array.length_toList];exact items.1
 have C:StrsAre a.toList F:=SV (P:=X.prog) (w:=X.w) x B fun j v e=>items.2 j v (by rw[<-Array.getElem?_toList];exact e)
 refine wpAny_bind (wpAny_newList ?_ (by rw[B];exact J))
 have f:(c.push {cls:=.type "list",data:=.seq a.toList.toArray}).get? c.objs.size=some (seqObj "list" a.toList.toArray 0):=Heap.get?_push_size _ rfl
 refine wpAny_bind (wpAny_holding (wpAny_call_entry slot_list_sort ⟨_,f,rfl⟩ entry_list_sort (list_sort_treeK strKind_oneLt f C.keysOf (fun L M rest e=>keyKind_strs (by rw[<-e];exact C)) (by rw[B,n];exact p) fun g a1 a2=>⟨_,rfl,?_⟩) (args_list_sort _)))
 obtain⟨i,b1,N,b3⟩:=sorted_out_str C a1 a2
 obtain⟨ee,he⟩:=sortedHeap_at (out:=(arrOf g).map (·.2)) f
 refine wpAny_pure ⟨_,rfl,?_⟩
 have D:(c.push {cls:=.type "list",data:=.seq a.toList.toArray}).objs.size=c.objs.size+1:=size_push' ..
 have O:=I.kept (t':=K) keep
 have k2:∀b o,c.get? b=some o->(sortedHeap (c.push {cls:=.type "list",data:=.seq a.toList.toArray}) c.objs.size a.toList ((arrOf g).map (·.2))).get? b=some o:=fun b o e=>by
  have R:b<c.objs.size:=Heap.lt_size e
  rw[sortedHeap_old (Nat.ne_of_lt R) (by rw[D];exact Nat.lt_succ_of_lt R)]
  exact Heap.get?_push_of_some _ e
 have E:i.length<=sizeLine:=by
  rw[N.length_eq]
  have:=congrArg List.length G
  rw[List.length_map,List.length_map]at this
  rw[<-this]
  exact z
 have new:BJ X.prog X.w (upd H c.objs.size (.lst (i.map V.str))) (sortedHeap (c.push {cls:=.type "list",data:=.seq a.toList.toArray}) c.objs.size a.toList ((arrOf g).map (·.2))) c.objs.size (.lst (i.map V.str)):=
  ⟨by rw[List.length_map];exact E,((arrOf g).map (·.2)).toList,ee,SW b1,by rw[Array.toArray_toList];exact he⟩
 have S:H c.objs.size=none:=O.fresh
 exact⟨.ref c.objs.size,_,O.laid (t':=K) k2 (Nat.le_refl _) new,rfl,q _ i _ S (AJ.new S) AF N b3⟩
end
structure Txt (mg:Str->Option Value):Prop where
 isinstance:mg "isinstance"=none
 int:mg "int"=none
 bool:mg "bool"=none
 str:mg "str"=none
 list:mg "list"=none
 dict:mg "dict"=none
 tuple:mg "tuple"=none
 len:mg "len"=none
 range:mg "range"=none
 max:mg "max"=none
 min:mg "min"=none
 sorted:mg "sorted"=none
 all:mg "all"=none
 any:mg "any"=none
 reversed:mg "reversed"=none
 ValueError:mg "ValueError"=none
 sum:mg "sum"=none
theorem Ar:bootBuiltins "isinstance"=some (.builtin "isinstance"):=by decide+kernel
theorem Zm:bootBuiltins "int"=some (.type "int"):=by decide+kernel
theorem Qy:bootBuiltins "str"=some (.type "str"):=by decide+kernel
theorem Gb:bootBuiltins "list"=some (.type "list"):=by decide+kernel
theorem Gd:bootBuiltins "dict"=some (.type "dict"):=by decide+kernel
theorem YJ:bootBuiltins "tuple"=some (.type "tuple"):=by decide+kernel
theorem gQ:bootBuiltins "max"=some (.builtin "max"):=by decide+kernel
theorem gR:bootBuiltins "min"=some (.builtin "min"):=by decide+kernel
theorem Uv:bootBuiltins "sorted"=some (.builtin "sorted"):=by decide+kernel
theorem gS:bootBuiltins "any"=some (.builtin "any"):=by decide+kernel
theorem BM {c:Bool} {A B:Prop} (a:c=false) (h:B):if c=true then A else B:=by
 rw[a]
 exact BO h
theorem Bj {c:Bool} {A B:Prop} (a:c=true) (h:A):if c=true then A else B:=by
 rw[a]
 exact BF h
inductive wU (P:Program) (w:World) (K:ACH) (mg:Str->Option Value) (base:Heap) (x:Str) (ps:List Str) (n:Nat) (sp:Sp):Prop
 |mk (f:Addr) (a:FuncData) (k:PySem.W.keepIn K (.ref f)=true) (b:Binds K a ps []) (m:mg x=some (.ref f)) (G:BG P w K mg base DC n f a ps sp):wU P w K mg base x ps n sp
structure Df (P:Program) (w:World) (K:ACH) (mg:Str->Option Value) (base:Heap) (x:Str) (ps:List Str) (n:Nat) (sp:Sp):Prop where
 ex:wU P w K mg base x ps n sp
theorem Df.mk' {P:Program} {w:World} {K:ACH} {mg:Str->Option Value} {base:Heap} {x q:Str} {st:Stmt} {ps:List Str} {n:Nat} {sp:Sp} {f:Addr} {a:FuncData} (F:DW K x q st f a) (b:Binds K a ps []) (m:mg x=some (.ref f)) (G:BG P w K mg base DC n f a ps sp):Df P w K mg base x ps n sp:=⟨⟨f,a,F.kp,b,m,G⟩⟩
theorem Qz (r:Int) {n:Int} (h:0<n):0<=r % n/\r % n<n:=⟨Int.emod_nonneg _ (by lia),Int.emod_lt_of_pos _ h⟩
def yO (b:Addr) (H c:Hp):Prop:=∀a o,a≠b->H a=some o->c a=some o
def bV (x:Str):Bool:=decide (x.length<=12)&&(sgn x).all Up
def Nv (v:V):Prop:=(∃i:Int,v=.int i/\i.natAbs<2 ^ 400)∨∃x:Str,v=.str x/\bV x=true
theorem Uw {x:Str} (h:bV x=true):x.length<=12:=by
 unfold bV at h
 simp only[Bool.and_eq_true,decide_eq_true_eq]at h
 exact h.1
namespace Dc
mutual
def ok:Dc->Prop
 |leaf v=>Nv v
 |row _ xs=>ML xs
 |tab _ ks xs=>(∀k∈ks,Be k=true)/\ML xs
def ML:List Dc->Prop
 |[]=>True
 |x::r=>ok x/\ML r
end
theorem Bi:∀{xs:List Dc},ML xs↔∀x∈xs,ok x
 |[]=>by simp[ML]
 |x::r=>by simp only[ML,List.forall_mem_cons,Bi (xs:=r)]
mutual
def named (N:List Str):Dc->Prop
 |leaf _=>True
 |row _ xs=>Pb N xs
 |tab _ ks xs=>(∀k∈ks,k∈N)/\Pb N xs
def Pb (N:List Str):List Dc->Prop
 |[]=>True
 |x::r=>named N x/\Pb N r
end
def lb:Dc->Prop
 |leaf v=>Nv v
 |row _ xs=>xs=[]
 |tab _ ks xs=>ks=[]/\xs=[]
def Xa:Dc->String
 |leaf (.int _)=>"int"
 |leaf _=>"str"
 |row _ _=>"list"
 |tab _ _ _=>"dict"
theorem Ho {H:Hp} {d:Dc} (h:d.At H):PX H d.val d.Xa:=by
 cases d with
 |leaf v=>
  rcases(show Lf v from h)with⟨i,rfl⟩|⟨x,rfl,_⟩
  ·exact .int i
  ·exact .str x
 |row a xs=>simp only[At]at h;exact .lst h.1
 |tab a b xs=>simp only[At]at h;exact .dK h.1
def sub:Dc->List V->Option Dc
 |d,[]=>some d
 |row _ xs,.int i::r=>if 0<=i then(xs[i.toNat]?).bind fun x=>sub x r else none
 |tab _ ks xs,.str k::r=>((ks.zip xs).lookup k).bind fun x=>sub x r
 |_,_=>none
def As (v:V):Prop:=(∃k:Nat,v=.int (k:Int))∨∃x:Str,v=.str x/\Be x=true
theorem As.flat {v:V} (h:As v):Bg v=true:=by
 rcases h with⟨k,rfl⟩|⟨x,rfl,_⟩<;>rfl
theorem Ae {ks:List Str} {xs:List Dc} {k:Str} {x:Dc} (h:(ks.zip xs).lookup k=some x):k∈ks/\x∈xs:=by
 induction ks generalizing xs with
 |nil=>simp at h
 |cons y r a=>
  cases xs with
  |nil=>simp at h
  |cons z zs=>
   simp only[List.zip_cons_cons,List.lookup_cons]at h
   by_cases e:k=y
   ·subst e
    simp at h
    subst h
    exact⟨List.mem_cons_self,List.mem_cons_self⟩
   ·have:(k==y)=false:=by simpa using e
    rw[this]at h
    have:=a h
    exact⟨List.mem_cons_of_mem _ this.1,List.mem_cons_of_mem _ this.2⟩
theorem sub_snoc {d:Dc} {zs:List V} {e:Dc} (h:d.sub zs=some e) (us:List V):d.sub (zs++us)=e.sub us:=by
 induction zs generalizing d with
 |nil=>cases d<;>(simp only[sub,Option.some.injEq]at h;subst h;rfl)
 |cons z r c=>
  cases d with
  |leaf v=>simp[sub]at h
  |row a xs=>
   cases z with
   |int i=>
    simp only[sub,List.cons_append]at h⊢
    by_cases f:0<=i
    ·rw[if_pos f]at h⊢
     cases b:xs[i.toNat]? with
     |none=>rw[b]at h;simp at h
     |some x=>rw[b]at h;exact c (d:=x) h
    ·rw[if_neg f]at h;simp at h
   |_=>simp[sub]at h
  |tab a g xs=>
   cases z with
   |str k=>
    simp only[sub,List.cons_append]at h⊢
    cases b:(g.zip xs).lookup k with
    |none=>rw[b]at h;simp at h
    |some x=>rw[b]at h;exact c (d:=x) h
   |_=>simp[sub]at h
theorem Eb {ks:List Str} {xs:List Dc} (h:ks.length=xs.length) (k:Str):Ct (kvs ks xs) (Sum.inr k)=((ks.zip xs).lookup k).map val:=by
 induction ks generalizing xs with
 |nil=>simp[kvs,UZ]
 |cons y r b=>
  cases xs with
  |nil=>simp at h
  |cons z zs=>
   have e:kvs (y::r) (z::zs)=(Sum.inr y,z.val)::kvs r zs:=rfl
   rw[e]
   by_cases a:k=y
   ·subst a
    rw[Fc rfl]
    simp
   ·rw[Fe (by intro z;exact a (Sum.inr.inj z).symm),b (by simpa using h)]
    have:(k==y)=false:=by simpa using a
    simp[List.zip_cons_cons,List.lookup_cons,this]
theorem DO {ks:List Str} {xs:List Dc} (h:ks.length=xs.length) {k:Str} (a:k∈ks):∃x,(ks.zip xs).lookup k=some x/\x∈xs:=by
 induction ks generalizing xs with
 |nil=>cases a
 |cons y r b=>
  cases xs with
  |nil=>simp at h
  |cons z zs=>
   by_cases e:k=y
   ·subst e
    exact⟨z,by simp,List.mem_cons_self⟩
   ·obtain⟨x,c,d⟩:=b (xs:=zs) (by simpa using h) ((List.mem_cons.mp a).resolve_left e)
    refine⟨x,?_,List.mem_cons_of_mem _ d⟩
    have:(k==y)=false:=by simpa using e
    simp[List.zip_cons_cons,List.lookup_cons,this,c]
end Dc
abbrev YK:Str:="abcdefghijklmnopqrstuvwxyz"
theorem MM:YH.length=26:=by decide+kernel
theorem Ux (i:Int) (b:0<=i) (d:i<26):∃c,NL (sgn YK) i=some c/\Up c=true:=by
 obtain⟨n,rfl⟩:=Int.eq_ofNat_of_zero_le b
 have a:n<YH.length:=by rw[MM];lia
 exact⟨YH[n],CM (ACD a),PZ (List.getElem_mem a)⟩
theorem IL (r:Int):0<=r % 26/\r % 26<26:=⟨Int.emod_nonneg _ (by decide),Int.emod_lt_of_pos _ (by decide)⟩
def gT (v:V):Prop:=∃c,v=.str ⟨#[c]⟩/\Up c=true
theorem LM:∀ys:List V,(∀y∈ys,gT y)->∃zs:List Str,ys=zs.map V.str/\(∀z∈zs,z.length=1)/\((zs.map sgn).flatten).length=ys.length/\((zs.map sgn).flatten).all Up=true
 |[],_=>⟨[],rfl,by simp,rfl,rfl⟩
 |y::r,h=>by
  obtain⟨c,e,b⟩:=h y List.mem_cons_self
  obtain⟨zs,d,f,g,i⟩:=LM r fun z a=>h z (List.mem_cons_of_mem _ a)
  refine⟨⟨#[c]⟩::zs,by rw[e,d];rfl,?_,?_,?_⟩
  ·intro z a
   rcases List.mem_cons.mp a with rfl|a
   ·rfl
   ·exact f z a
  ·show(sgn ⟨#[c]⟩++(zs.map sgn).flatten).length=_
   rw[List.length_append,g]
   show 1+r.length=r.length+1
   lia
  ·show(sgn ⟨#[c]⟩++(zs.map sgn).flatten).all Up=true
   rw[List.all_append,i]
   show([c].all Up&&true)=true
   simp[b]
inductive Q_ (K:ACH) (vs:List V) (H:Hp) (Q:VK) (b:XK):Prop
 |mk (a:Addr) (c:List Int) (k:Nat) (d:vs=[.ref a,.int (k:Int)]) (e:Bd K H a (c.map V.int)) (f:∀r:Int,0<=r->Q (.int r) H):Q_ K vs H Q b
def Pc (K:ACH):Sp:=fun b H Q a=>Q_ K b H Q a
inductive Uy (vs:List V) (H:Hp) (Q:VK) (a:XK):Prop
 |mk (c:Int) (k:Nat) (b:vs=[.int c,.int (k:Int)]) (d:k<=1000) (e:∀r:Int,0<=r->r<2305843009213693951->Q (.int r) H):Uy vs H Q a
def Nw:Sp:=fun b H Q a=>Uy b H Q a
def Uz:Nat->Int->Int
 |0,n=>n
 |k+1,n=>Uz k n/1000000
def Nx (c:Int) (k:Nat):Int:=(((c+3)*1181783497276652981 % 2305843009213693951+((k:Int)+1)*614889782588491411) % 2305843009213693951)*(((c+3)*1181783497276652981 % 2305843009213693951+((k:Int)+1)*614889782588491411) % 2305843009213693951) % 999999999999999989
def Jk (c:Int) (k:Nat):Int:=if c % 4=0/\4*10 ^ 60<=c then Uz k (c/4) % 1000000 else(Nx c k+1)*(Nx c k/1000003+7) % 2305843009213693951/7919
theorem U_ (c:Int) (k:Nat):0<=Jk c k/\Jk c k<2305843009213693951:=by
 unfold Jk
 split
 ·have a:=Int.emod_nonneg (Uz k (c/4)) (show(1000000:Int)≠0 by decide)
  have b:=Int.emod_lt_of_pos (Uz k (c/4)) (show(0:Int)<1000000 by decide)
  lia
 ·have a:=Int.emod_nonneg ((Nx c k+1)*(Nx c k/1000003+7)) (show(2305843009213693951:Int)≠0 by decide)
  have b:=Int.emod_lt_of_pos ((Nx c k+1)*(Nx c k/1000003+7)) (show(0:Int)<2305843009213693951 by decide)
  lia
inductive RA (vs:List V) (H:Hp) (Q:VK) (a:XK):Prop
 |mk (c:Int) (k:Nat) (b:vs=[.int c,.int (k:Int)]) (d:k<=1000) (e:Q (.int (Jk c k)) H):RA vs H Q a
def MN:Sp:=fun b H Q a=>RA b H Q a
theorem U' {vs:List V} {H:Hp} {Q:VK} {E:XK} (h:Nw vs H Q E):MN vs H Q E:=by
 obtain⟨c,k,e,a,q⟩:=h
 exact⟨c,k,e,a,q _ (U_ c k).1 (U_ c k).2⟩
theorem VA {ys:List Str} (P:Nat->Str->Prop) (h:∀(j:Nat) y,ys[j]?=some y->P j y) (inj:∀(i j:Nat) y,i<j->j<ys.length->P i y->P j y->False):ys.Nodup:=by
 refine List.pairwise_iff_getElem.mpr fun i j d b a e=>?_
 have f:=h i _ (ACD d)
 have c:=h j _ (ACD b)
 rw[<-e]at c
 exact inj i j _ a b f c
inductive Ny (vs:List V) (H:Hp) (Q:VK) (a:XK):Prop
 |mk (c:Int) (d:Int) (e:vs=[.int c,.int d]) (f:∀(p:Addr) (ys:List Str) (b:Hp),AJ H b->H p=none->b p=some (.lst (ys.map V.str))->ys.length=6->ys.Nodup->(∀y∈ys,Be y=true)->Q (.ref p) b):Ny vs H Q a
def MO:Sp:=fun b H Q a=>Ny b H Q a
inductive YL (vs:List V) (H:Hp) (Q:VK) (a:XK):Prop
 |mk (c:Int) (d:vs=[.int c]) (e:∀v b,Nv v->AJ H b->Q v b):YL vs H Q a
inductive YM (vs:List V) (H:Hp) (Q:VK) (e:XK):Prop
 |mk (c:Int) (d:Int) (m:Int) (f:vs=[.int c,.int d,.int m]) (g:∀(p:Dc) (b:Hp),AJ H b->p.At b->p.lb->(∀a∈p.addrs,∀o u,b a≠some (.Cz o u))->(∀a∈p.addrs,H a=none)->Q p.val b):YM vs H Q e
def bW (N:List Str) (b:Addr) (y:V) (H d:Hp):Prop:=
 (∃a i,H b=some (.lst a)/\d b=some (.lst (a.take i++y::a.drop i)))∨∃c k,H b=some (.dK c)/\(Sum.inr k:Key)∉c.map (·.1)/\(Be k=true/\k∈N)/\d b=some (.dK (c++[(Sum.inr k,y)]))
inductive YN (K:ACH) (vs:List V) (H:Hp) (Q:VK) (d:XK):Prop
 |mk (b:Addr) (n:Addr) (y:V) (ys:List Str) (c:Int) (f:vs=[.ref b,y,.ref n,.int c]) (g:0<=c) (h:Bd K H n (ys.map V.str)) (i:ys.length<=100) (j:(∀y∈ys,Be y=true)) (k:((∃vs,H b=some (.lst vs)/\vs.length<=1000)∨∃e,H b=some (.dK e)/\e.length<=1000)) (l:(∀a,yO b H a->bW ys b y H a->Q (.bl true) a)) (m:∀a,AJ H a->Q (.bl false) a):YN K vs H Q d
structure Made (H H':Hp) (d:Dc):Prop where
 same:AJ H H'
 at_:d.At H'
 ok:d.ok
 nd:d.addrs.Nodup
 own:∀a∈d.addrs,∀o u,H' a≠some (.Cz o u)
 new:∀a∈d.addrs,H a=none
inductive bX (K:ACH) (vs:List V) (H:Hp) (Q:VK) (b:XK):Prop
 |mk (a:Addr) (n:Addr) (e:List Int) (k:Nat) (ys:List Str) (f:vs=[.ref a,.int (k:Int),.ref n]) (g:Bd K H a (e.map V.int)) (h:e.length<=63) (i:k<=1000) (j:H n=some (.lst (ys.map V.str))) (l:ys.length<=100) (m:(∀y∈ys,Be y=true)) (o:∀(t:Addr) (d:Dc) (c:Hp),Made H c d->c t=some (.tup [d.val,.int (d.size:Int)])->d.size<=40->(ys≠[]->d.named ys)->Q (.ref t) c):bX K vs H Q b
inductive YO (K:ACH) (vs:List V) (H:Hp) (Q:VK) (b:XK):Prop
 |mk (a:Addr) (n:Addr) (e:List Int) (k:Nat) (ys:List Str) (f:vs=[.ref a,.int (k:Int),.ref n]) (g:Bd K H a (e.map V.int)) (h:e.length<=63) (i:k<=1000) (j:H n=some (.lst (ys.map V.str))) (l:ys.length<=100) (m:(∀y∈ys,Be y=true)) (o:∀(t:Addr) (d:Dc) (c:Hp),Made H c d->c t=some (.tup [d.val,.int (d.size:Int)])->d.size<=24->(ys≠[]->d.named ys)->Q (.ref t) c):YO K vs H Q b
inductive VB (K:ACH) (vs:List V) (H:Hp) (Q:VK) (b:XK):Prop
 |mk (a:Addr) (c:List Int) (e:vs=[.ref a]) (f:Bd K H a (c.map V.int)) (g:c.length<=63) (h:∀d,Q (.bl true) d):VB K vs H Q b
def Nz (K:ACH):Sp:=fun b H Q a=>VB K b H Q a
theorem Az {n:Nat} (h:n<=1000):n<=sizeLine:=Nat.le_of_lt (BQ h)
theorem Am {x y:V}:[x,y].length<=sizeLine:=Az (show 2<=1000 by decide)
theorem Fi {x:V}:[x].length<=sizeLine:=Az (show 1<=1000 by decide)
theorem By (us:List V) (lv:V):FY (us++[lv]) none (some (-1))=us:=by
 have a:HT.CZ (us++[lv]).length (us++[lv]).length (some (-1))=us.length:=by
  simp only[HT.CZ,List.length_append,List.length_singleton]
  rw[if_pos (by decide)]
  lia
 unfold FY
 rw[a,HT.Nb,List.drop_zero,Nat.sub_zero]
 exact List.take_left
theorem gU {P:Program} {w:World} {K:ACH} {mg:Str->Option Value} {base:Heap} {f:Addr} {a:FuncData} {ps:List Str} {sp:Sp} (no:∀vs H Q E,¬sp vs H Q E):BG P w K mg base DC 0 f a ps sp:=
 ⟨fun vs H Q E h=>absurd h (no vs H Q E),fun A outer s H args b vs Q E _ _ _ _ h=>absurd h (no vs H Q E)⟩
theorem VC {t u:TS} {D:Ends} {σ:St} {H:Hp} (R:Hp->Prop) (k:∀a,R a->u D σ a) (h:(∀a,R a->u D σ a)->t {D with nx:=u D} σ H):Rt t u D σ H:=h k
theorem Dc.there {H:Hp} {d:Dc} {b:Addr} (h:d.At H) (a:b∈d.addrs):H b≠none:=by
 have f:∀u,Rd H b u->H b≠none:=fun u r z=>by
  rcases r with r|⟨o,r⟩<;>rw[r]at z<;>cases z
 rcases Dc.LK d h a with⟨c,e,_⟩|⟨g,i,e,_⟩
 ·exact f _ e
 ·exact f _ e
theorem Rd.exact {H:Hp} {b:Addr} {u:HO} (r:Rd H b u) (no:∀o u,H b≠some (.Cz o u)):H b=some u:=r.elim id fun⟨o,e⟩=>absurd e (no o u)
theorem Fj {H b:Hp} {a:Addr} (h:H a≠none) (no:∀o u,H a≠some (.Cz o u)) (s:∀o,H a=some o->b a=some o):∀o u,b a≠some (.Cz o u):=fun o u e=>by
 cases q:H a with
 |none=>exact h q
 |some x=>
  rw[s x q]at e
  cases e
  exact no o u q
structure lg (H Hi:Hp) (d:Dc) (L:Addr) (ts:List Addr):Prop where
 made:Made H Hi d
 nL:H L=none
 eL:Hi L=some (.lst (ts.map V.ref))
 out:L∉d.addrs
 hold:∀t∈ts,∃b k,Hi t=some (.tup [.ref b,.int k])/\b∈d.addrs
namespace Dc
mutual
def slim:Dc->Prop
 |leaf _=>True
 |row _ xs=>Jl xs
 |tab _ _ xs=>xs.length<64/\Jl xs
def Jl:List Dc->Prop
 |[]=>True
 |x::r=>slim x/\Jl r
end
theorem Ec:∀{xs:List Dc},Jl xs->∀x∈xs,slim x
 |[],_,x,a=>nomatch a
 |y::r,h,x,a=>by
  simp only[Jl]at h
  rcases List.mem_cons.mp a with rfl|a
  ·exact h.1
  ·exact Ec h.2 x a
mutual
theorem MP:∀d:Dc,d.size<64->d.slim
 |leaf _,_=>trivial
 |row a xs,h=>by
  simp only[size]at h
  simp only[slim]
  exact Jm xs (by lia)
 |tab a ks xs,h=>by
  simp only[size]at h
  simp only[slim]
  have:=GZ xs
  exact⟨by lia,Jm xs (by lia)⟩
theorem Jm:∀xs:List Dc,Ab xs<64->Jl xs
 |[],_=>trivial
 |x::r,h=>by
  simp only[Ab]at h
  simp only[Jl]
  exact⟨MP x (by lia),Jm r (by lia)⟩
end
def yP (ks:List Str) (xs:List Dc) (k:Str):Nat:=(((ks.zip xs).lookup k).map size).getD 0
end Dc
section
variable{X:Cx} {pins:List (Addr×Obj)} {σ:St} {H:Hp} {s:Shared} {a:Addr} {kvs:List (Key×V)}
theorem Inv.freeze (I:Inv X pins σ H s) (e:H a=some (.dK kvs)):∃o,s.heap.get? a=some o/\Inv X pins σ (upd H a (.Cz o (.dK kvs))) s:=by
 have ok:=(show BJ X.prog X.w H s.heap a (.dK kvs)from I.Bl a _ e)
 obtain⟨z,g,h,i,o,j,k,f,r⟩:=id ok
 refine⟨o,f,?_⟩
 have c:∀b u,H b=some u->u≠.dK kvs->b≠a:=fun b u q n w=>by
  subst w
  rw[e]at q
  exact n (ACF q).symm
 have un:Un X.fs [] H (upd H a (.Cz o (.dK kvs))) s.heap s.heap:=
  ⟨fun b d q _ _ _=>q,fun b d q _ _ _=>⟨d.slots,q⟩,fun b d q n _=>by rw[AR (fun w=>by subst w;rw[e]at n;cases n)];exact n,fun b d q _=>⟨d,q⟩,
   fun b xs q=>by rw[AR (c b _ q (by intro z;cases z))];exact q,fun b d u q=>by rw[AR (c b _ q (by intro z;cases z))];exact q,fun b l q=>⟨#[],by rw[AR (c b _ q (by intro z;cases z)),q];simp⟩⟩
 have Bl:GQ X.prog X.w (upd H a (.Cz o (.dK kvs))) s.heap:=I.Bl.write (by rw[e];trivial) (.inl rfl) (fun b u _ q=>q) ⟨o,f⟩ ⟨f,ok⟩
 exact I.un (h':=s.heap) (t':=s.toks) un Bl
theorem Inv.lj {o:Obj} (I:Inv X pins σ H s) (e:H a=some (.Cz o (.dK kvs))) (nf:∀o u,X.H₀ a≠some (.Cz o u)):Inv X pins σ (upd H a (.dK kvs)) s:=by
 have ok:=(show BJ X.prog X.w H s.heap a (.Cz o (.dK kvs))from I.Bl a _ e)
 have d:∀b u,H b=some u->u≠.Cz o (.dK kvs)->b≠a:=fun b u q n w=>by
  subst w
  rw[e]at q
  exact n (ACF q).symm
 have f:∀b,H b=none->b≠a:=fun b n w=>by subst w;rw[e]at n;cases n
 have B:=I.base
 refine⟨I.ok,I.os,I.bare,⟨B.keep,B.slot,fun b g q n h=>by rw[AR (f b (B.free b g q n h))];exact B.free b g q n h,B.there,fun b xs q=>by rw[AR (d b _ (B.Kh b xs q) (by intro z;cases z))];exact B.Kh b xs q,
  fun b g u q=>by rw[AR (fun w=>nf g u (by rw[<-w];exact q))];exact B.JM b g u q,fun b l q=>?_⟩,I.loc,I.cell,by rw[AR (f _ I.free)];exact I.free,fun x c q=>by rw[AR (f _ (I.ER x c q))];exact I.ER x c q,
  fun p m=>let⟨t,i,y⟩:=I.pin p m;⟨t,by rw[AR (f _ i)];exact i,y⟩,fun b u q=>?_,I.len⟩
 ·obtain⟨more,j⟩:=B.Lw b l q
  exact⟨more,by rw[AR (d b _ j (by intro z;cases z))];exact j⟩
 ·by_cases k:b=a
  ·subst k
   rw[AF]at q
   cases q
   exact ok.2
  ·rw[AR k]at q
   exact(I.Bl b u q).Ow (fun c v _ r=>r) (fun c r=>by rw[AR (d c _ r (by intro z;cases z))];exact r) fun c xs r=>by rw[AR (d c _ r (by intro z;cases z))];exact r
theorem Inv.nf (I:Inv X pins σ H s) (e:H a=some (.dK kvs)):∀o u,X.H₀ a≠some (.Cz o u):=fun o u q=>by
 have:=I.base.JM a o u q
 rw[e]at this
 cases this
end
def Pd (a:Addr) (o:Obj) (kvs:List (Key×V)) (k:Hp->Prop):Hp->Prop:=fun H=>H a=some (.Cz o (.dK kvs))/\k (upd H a (.dK kvs))
inductive VD (t:TE) (σ:St) (H:Hp) (Q:VK):Prop
 |mk (a:_) (kvs:_) (b:H a=some (.dK kvs)) (c:∀o,t σ (upd H a (.Cz o (.dK kvs))) fun v=>Pd a o kvs (Q v)):VD t σ H Q
def gW (t:TE):TE:=fun a H Q=>VD t a H Q
inductive bY (t:TS) (D:Ends) (σ:St) (H:Hp):Prop
 |mk (a:_) (kvs:_) (b:H a=some (.dK kvs)) (c:∀o,t ⟨fun σ=>Pd a o kvs (D.nx σ),fun v=>Pd a o kvs (D.rt v),fun σ=>Pd a o kvs (D.bk σ),fun σ=>Pd a o kvs (D.ct σ)⟩ σ (upd H a (.Cz o (.dK kvs)))):bY t D σ H
section
variable{X:Cx}
theorem bZ {e:Expr} {t:TE} (h:PE X e t):PE X e (gW t):=by
 rintro pins s c H Q I ⟨a,kvs,b,d⟩
 obtain⟨o,l,f⟩:=I.freeze b
 exact BX (h pins s c _ _ f (d o)) fun u m ⟨v,n,g,i,j,k⟩=>⟨v,_,g.lj j (I.nf b),i,k⟩
theorem Jn {e:Expr} {t u:TE} (h:PE X e t) (h':PE X e u):PE X e (fun σ H Q=>t σ H Q∨u σ H Q):=by
 rintro pins s σ H Q I (q|q)
 ·exact h pins s σ H Q I q
 ·exact h' pins s σ H Q I q
theorem VE {e:Stmt} {t u:TS} (h:PS X e t) (h':PS X e u):PS X e (fun D σ H=>t D σ H∨u D σ H):=by
 rintro pins s σ H D I (q|q)
 ·exact h pins s σ H D I q
 ·exact h' pins s σ H D I q
end
def l_ (a:Addr) (o:Obj) (kvs:List (Key×V)):It:=
 ⟨fun i H=>H a=some (.Cz o (.dK kvs))/\i<kvs.length,fun i H x b=>b=H/\∃k v,kvs[i]?=some (k,v)/\x=kV k,fun i H=>H a=some (.Cz o (.dK kvs))/\i=kvs.length⟩
def gX (c:TE):TI:=fun d H R=>c d H fun x b=>∃a o kvs,x=.ref a/\b a=some (.Cz o (.dK kvs))/\R (l_ a o kvs) b
theorem YQ {P:Program} {w:World} {k:Key} {u:Value} (h:(Av P w).is k u=true):RelV (kV k) u:=by
 rcases BP (k:=k) (v:=u) h with⟨i,t,rfl,rfl⟩|⟨x,t,rfl,rfl⟩
 ·exact⟨t,rfl⟩
 ·exact⟨t,rfl⟩
theorem SX {P:Program} {w:World} {K:ACH} {tg:Expr} {a it:Addr} {o:Obj} {kvs:List (Key×V)} {vs:List (Key×Value)} {ep:Nat} (eY:a≠it) (rel:KV kvs vs) (hD:∀h:Heap,h.get? a=some o->h.DictAt (Av P w) a vs ep):
  Turn P w K tg (l_ a o kvs) [it] it (fun i h=>h.IsKeyIter it a i vs.length ep)where
 mem:=by simp
 obj:=fun i h st b hb=>by
  have e:b=it:=by simpa using hb
  subst e
  obtain⟨ob,h1,_,h3⟩:=st
  exact⟨ob,h1,fun v z=>by rw[h3]at z;cases z⟩
 keep:=fun i h h' st k=>st.at fun ob e=>k it (by simp) ob e
 item:=fun X hp hw _ hc i pins s σ H E I hf st go=>by
  subst hp hw
  have f:=hf it (by simp)
  obtain⟨ga,gi⟩:=go
  have l':=hD s.heap (show BJ X.prog X.w H s.heap a (.Cz o (.dK kvs))from I.Bl a _ ga).1
  refine(Walks.dictKeys (knd:=Av X.prog X.w) (I.ok.hd hc) it a eY vs ep).item i s _ E (by rw[<-rel.length];exact gi) ⟨st,l'⟩ fun v h' tk hP UE kept=>?_
  obtain⟨k,x,yQ,hk⟩:=hP
  obtain⟨ob,h1,h2,h3⟩:=UE.1
  have mB:∃y,kvs[i]?=some (k,y):=by
   have e:=congrArg (fun l=>l[i]?) (KV.keys rel)
   simp only[List.getElem?_map,yQ,ACD gi]at e
   have e:kvs[i].1=k:=by simpa using e
   exact⟨kvs[i].2,by rw[ACD gi,<-e]⟩
  obtain⟨y,hy⟩:=mB
  refine⟨v,rfl,Ql (o:=ob) h1 h2 h3 (by decide) ⟨kV k,H,I.turned (fun b yR hb e=>kept b yR (by simp[hb]) e) f.1 f.2.1 f.2.2.2.1 f.2.2.2.2.1 f.2.2.2.2.2,YQ hk,⟨rfl,k,y,hy,rfl⟩,UE.1,fun b hb=>?_⟩⟩
  have e:b=it:=by simpa using hb
  subst e
  exact f.1
 done:=fun X hp hw _ hc i pins s σ H E I hf st stop=>by
  subst hp hw
  have f:=hf it (by simp)
  obtain⟨ga,gi⟩:=stop
  have gi:i=vs.length:=by rw[gi];exact rel.length
  subst gi
  have l':=hD s.heap (show BJ X.prog X.w H s.heap a (.Cz o (.dK kvs))from I.Bl a _ ga).1
  refine(Walks.dictKeys (knd:=Av X.prog X.w) (I.ok.hd hc) it a eY vs ep).done s _ E ⟨st,l'⟩ fun h' tk kept=>?_
  exact⟨rfl,I.turned (fun b ob hb e=>kept b ob (by simp[hb]) e) f.1 f.2.1 f.2.2.2.1 f.2.2.2.2.1 f.2.2.2.2.2⟩
 self:=fun A i s Q E st hQ=>wpAny_pyIter_keyiter st hQ
section
variable{X:Cx} {tg:Expr}
theorem YR {l:Expr} {k:TE} (p:PE X l k):PI X tg l (gX k):=by
 intro pins s r H R I h
 refine BX (p pins s r H _ I h) fun v c t=>t.elim fun x m g u y=>?_
 obtain⟨a,o,kvs,rfl,A,q⟩:=y
 cases u
 have ok:=(show BJ X.prog X.w m c.heap a (.Cz o (.dK kvs))from g.Bl a _ A)
 obtain⟨n,z,B,G,i,C⟩:=ok
 obtain⟨J,d⟩:=C.dictAt
 obtain⟨K,D,f,E⟩:=id d
 rw[n]at f
 cases f
 have j:a<c.heap.objs.size:=Heap.lt_size n
 refine wpAny_pyIter_dict B d ⟨c.heap.objs.size,[c.heap.objs.size],_,l_ a o kvs,m,rfl,g.kept (t':=c.toks) fun b L e=>Heap.get?_push_of_some _ e,
  SX (Nat.ne_of_lt j) i (fun h e=>⟨o,D,e,E⟩),⟨_,Heap.get?_push_size _ rfl,rfl,rfl⟩,fun b F=>?_,q⟩
 have e:b=c.heap.objs.size:=by simpa using F
 subst e
 exact g.Oy (Nat.le_refl _) g.fresh
end
def FN (H a:Hp):Prop:=∀b u,Rd H b u->Rd a b u
theorem AJ.r {H a:Hp} (s:AJ H a):FN H a:=fun b u r=>r.up fun o=>s b o
theorem FN.trans {H a H2:Hp} (s:FN H a) (t:FN a H2):FN H H2:=fun b u r=>t b u (s b u r)
theorem FN.Cz {H:Hp} {a:Addr} {o:Obj} {kvs:List (Key×V)} (e:H a=some (.dK kvs)):FN H (upd H a (.Cz o (.dK kvs))):=fun b u r=>by
 by_cases c:b=a
 ·subst c
  rcases r with r|⟨d,r⟩
  ·rw[e]at r;cases r;exact .inr ⟨o,AF⟩
  ·rw[e]at r;cases r
 ·exact r.up fun d q=>by rw[AR c];exact q
theorem Dc.VF {H b:Hp} {d:Dc} (s:FN H b) (h:d.At H):d.At b:=Dc.Qw d (fun a _ u r=>s a u r) h
end L2
namespace PySem
open PyProof.Rows PySem.F PySem.Spec
theorem Jo:typeLookup (.type "list") "keys"=pure none:=by rw[typeLookup_type,builtinLookup_eq_fast];kernel_rfl
theorem Jp {prog:Program} {w:World} {A:Around} {E:Value->Shared->Prop} {s:Shared} {a:Addr} {o:Obj} {xs:Array Value} {k:Nat} {Q:Option Value->Shared->Prop}
  (j:s.heap.get? a=some o) (l:o.cls=.type "list") (b:o.data=.seq xs k) (m:o.dict=none) (p:A.handled=none)
  (h:∀h' tk e,Heap.NewExcOf s.heap h' e "AttributeError"->Q none {s with heap:=h',toks:=tk}):
  wpAny (model prog w) A (getAttr? (.ref a) "keys") Q E s:=by
 obtain⟨c,Dr,q,r⟩:=o
 simp only at l b m
 subst l b m
 obtain⟨t,g,d,tk,os⟩:=s
 have n:∀f,(⟨t,g,d,f,os⟩:Shared).TypeIs (.ref a) "list":=fun _=>⟨_,j,rfl⟩
 have u:=sub_AttributeError
 have v:=F.slot_list_getattribute.lookup
 have x:=F.slot_list_getattribute.bind (.ref a)
 have y:=am_list_getattr_none
 unfold getAttr? getAttrBy? getAttrBy
 repeat (any_goals (first|assumption|exact n _|((with_reducible show wpAny _ _ (call (Value.builtin "list.__getattribute__") _ _) _ _ _);refine call_meets F.slot_list_getattribute (n _) am_entry_list_getattribute (F.args_list_getattribute_2 _ _) (meets_getattribute_miss_list a xs k r "keys" _ Jo (by decide+kernel) (by decide+kernel)) ⟨j,p,fun h' f e i=>?_⟩)|wp_step))
 obtain⟨z,B,C⟩:=i.there
 show wpAny _ _ (getattributeRaised _ _ _ _ _ _ _) _ _ _
 unfold getattributeRaised
 repeat (any_goals (first|assumption|wp_step))
 exact h _ _ _ i.of
theorem FO:entryFor table "dict.update.loop"=some Builtin.«dict.update.loop»:=entryFor_of_tree (by kernel_rfl)
theorem Cc:plainId "dict.update.loop"=true:=by decide+kernel
section
variable{prog:Program} {w:World} {K:Type} [DecidableEq K] {knd:KeyKind prog w K} {A:Around} {R:Result->Shared->Prop}
theorem SY {I l d:Addr} {items:Array Value} {more:List (K×Value)} (hh:A.handled=none) (F:l≠I) (h:d≠I) (G:d≠l) (hlen:items.size=more.length) (hsz:more.length<=100000):
  ∀(k i:Nat) (s:Shared),more.length-i=k->i<=more.length->s.heap.IsListIter I l i->s.heap.IsList l items->s.heap.DictOf knd d (merged [] (more.take i))->
   (∀(j:Nat) x c,more[j]?=some (x,c)->∃t a,items[j]?=some (.ref t)/\t≠d/\t≠I/\IsTup s.heap t #[a,c]/\knd.is x a=true)->
   (∀h' tk,h'.DictOf knd d (merged [] more)->(∀b o,b≠d->b≠I->s.heap.get? b=some o->h'.get? b=some o)->R (.ok (.ret .none)) {s with heap:=h',toks:=tk})->
   codeAny (model prog w) A (.builtin "dict.update.loop" ⟨[.ref d,.ref I,rawInt (i:Int),.none],[]⟩) R s:=by
 have W:=Walks.list (prog:=prog) (w:=w) (A:=A.in1) hh I l F items
 intro k
 induction k with
 |zero=>
  intro i s hk hi m H D J L
  have M:i=more.length:=by lia
  subst M
  refine codeAny_builtin FO ?_
  rw[Around.under_plainId Cc _]
  show wpAny _ A.in1 (pyNext (.ref I)>>=_) _ _ s
  refine wpAny_bind (W.done s _ _ (by rw[hlen];exact⟨m,H⟩) fun h' tk kept=>?_)
  rw[List.take_length]at D
  obtain⟨o,N,O,P,r⟩:=D
  show wpAny _ A.in1 (Builtin.Dict.addKeywords d []>>=_) _ _ _
  exact wpAny_bind (wpAny_pure (wpAny_pure (L h' tk ⟨o,N,O,kept _ _ (by simp[h]) P,r⟩ fun b o _ hb e=>kept b o (by simp[hb]) e)))
 |succ k ih=>
  intro i s hk hi m H D J L
  have n:i<more.length:=by lia
  obtain⟨⟨x,c⟩,hm⟩:∃p,more[i]?=some p:=⟨_,ACD n⟩
  obtain⟨t,a,ht,td,tI,tup,f⟩:=J i x c hm
  refine codeAny_builtin FO ?_
  rw[Around.under_plainId Cc _]
  show wpAny _ A.in1 (pyNext (.ref I)>>=_) _ _ s
  refine wpAny_bind (W.item i s _ _ (by rw[hlen];exact n) ⟨m,H⟩ fun v h' tk hv y kept=>?_)
  rw[ht]at hv
  cases hv
  obtain⟨ot,Q,q,nt,z⟩:=tup
  have g:h'.get? t=some ot:=kept _ _ (by simp[tI]) Q
  have hT:({s with heap:=h',toks:=tk}:Shared).TypeIs (.ref t) "tuple":=⟨_,g,q⟩
  obtain⟨ct,dt,dat,slt⟩:=ot
  simp only at q z
  subst q z
  obtain⟨o,N,O,P,r⟩:=id D
  have S:h'.DictOf knd d (merged [] (more.take i)):=⟨o,N,O,kept _ _ (by simp[h]) P,r⟩
  have T:(merged [] (more.take i)).length<=sizeLine:=by
   have:=merged_length_le ([]:List (K×Value)) (more.take i)
   rw[List.length_take,List.length_nil]at this
   have e:sizeLine=16777216:=sizeLine_eq
   lia
  show wpAny _ A.in1 (holding [Value.ref t] _>>=_) _ _ _
  refine wpAny_bind (wpAny_holding (wpAny_bind (wpAny_tryCatch ?_)))
  unfold Builtin.Dict.pairItems
  refine wpAny_bind (wpAny_typeOf hT ?_)
  rw[if_pos (by decide)]
  unfold seqItems?
  refine wpAny_bind ?_
  refine wpAny_bind (wpAny_load g ?_)
  refine wpAny_pure (wpAny_pure ?_)
  show wpAny _ A.in1 (holding [a,c] (dictSet d a c)) _ _ _
  refine wpAny_holding ?_
  unfold dictSet
  try with_reducible refine wpAny_holding ?_
  refine wpAny_bind (knd.pyHash f ?_)
  refine wpAny_dictSetHashed_pairs (hsz:=T) f S fun h2 B u=>?_
  have e1:stored (merged [] (more.take i)) x c=merged [] (more.take (i+1)):=(merged_take_succ [] more i (x,c) hm).symm
  rw[e1]at B
  have kp:∀b o,b≠d->b≠I->s.heap.get? b=some o->h2.get? b=some o:=fun b o E U e=>by
   rw[u.2 b E]
   exact kept b o (by simp[U]) e
  have ic:((i:Int)+1)=((i+1:Nat):Int):=by simp
  refine wpAny_pure ⟨plainId_quiet Cc _,?_⟩
  rw[ic]
  refine ih (i+1) _ (by lia) n (y.1.at fun o e=>by rw[u.2 I (Ne.symm h)];exact e) (y.2.at fun o e=>by rw[u.2 l (Ne.symm G)];exact e) B (fun j k2 v2 hj=>?_) (fun U V X Y=>L U V X fun b o E h4 e=>Y b o E h4 (kp b o E h4 e))
  obtain⟨t2,C,a1,a2,a3,⟨Z,b1,b2⟩,a5⟩:=J j k2 v2 hj
  exact⟨t2,C,a1,a2,a3,⟨Z,kp _ _ a2 a3 b1,b2⟩,a5⟩
end
end PySem
namespace L2
open PySem PySem.Spec PyProof.Rows
section
variable{X:Cx}
inductive RB (K:ACH) (xs:List V) (H:Hp) (Q:VK):Prop
 |mk (l:Addr) (a:List Addr) (kvs:List (Key×V)) (b:xs=[.ref l]) (c:Bd K H l (a.map V.ref)) (d:a.length=kvs.length) (e:(∀(j:Nat) k v,kvs[j]?=some (k,v)->∃t,a[j]?=some t/\H t=some (.tup [kV k,v]))) (f:kvs.length<=1000) (g:∀p,H p=none->Q (.ref p) (upd H p (.dK (DB [] kvs)))):RB K xs H Q
def bb (K:ACH):List V->Hp->VK->Prop:=fun xs H Q=>RB K xs H Q
theorem Ir (hc:X.calm=true):Dz X (.type "dict") (bb X.K):=by
 intro pins s σ H xs us Q I r h
 obtain⟨l,f,kvs,rfl,hl,hlen,hp,hz,q⟩:=h
 obtain⟨u,rfl,ru⟩:=vals1 r
 cases ru
 obtain⟨n,rv,pl,_⟩:=I.list hl
 obtain⟨W,nl,L,x,Y,C⟩:=id pl
 have M:X.A.in1.handled=none:=I.ok.hd hc
 refine callType_codes (Q₁:=fun N B=>N=.ref s.heap.objs.size/\B={s with heap:=s.heap.push {cls:=.type "dict",data:=.dict #[]}}) F.kt_called_dict (F.kt_typeCall_dict_1 _) F.entry_dict_init (kt_code_dict_new _ ⟨rfl,rfl⟩) ?_
 rintro N B ⟨rfl,rfl⟩
 have g:(s.heap.push {cls:=.type "dict",data:=.dict #[]}).DictOf (Av X.prog X.w) s.heap.objs.size []:=Heap.DictOf.new s.heap
 refine⟨g.typeIs,F.args_dict_init_2 _ _,?_⟩
 unfold Builtin.«dict.__init__»
 refine wpAny_bind ?_
 unfold Builtin.Dict.selfAndRest
 refine wpAny_bind (wpAny_notOrdered_dict g.typeIs ?_)
 show wpAny _ _ (pure (s.heap.objs.size,[Value.ref l])) _ _ _
 refine wpAny_pure ?_
 show wpAny _ _ (Builtin.Dict.updateFrom "dict.__init__" s.heap.objs.size (.ref l) [] .none) _ _ _
 unfold Builtin.Dict.updateFrom
 have c:(s.heap.push {cls:=.type "dict",data:=.dict #[]}).get? l=some W:=Heap.get?_push_of_some _ L
 have Z:({s with heap:=s.heap.push {cls:=.type "dict",data:=.dict #[]}}:Shared).TypeIs (.ref l) "list":=⟨_,c,x⟩
 refine wpAny_bind (wpAny_typeOf Z ?_)
 rw[if_pos (by decide)]
 refine wpAny_bind (Jp c x C Y M fun D tk1 e1 ne1=>?_)
 rw[if_pos (show(Option.isNone (none:Option Value))=true from rfl)]
 have i:∀b o,(s.heap.push {cls:=.type "dict",data:=.dict #[]}).get? b=some o->D.get? b=some o:=ne1.keeps
 have O:∀b o,s.heap.get? b=some o->D.get? b=some o:=fun b o e=>i b o (Heap.get?_push_of_some _ e)
 have yS:D.IsList l n.toArray:=⟨W,i _ _ c,x,nl,C⟩
 refine wpAny_bind (wpAny_rule ?_)
 refine wpAny_bind (wpAny_pyIter_list yS ?_)
 refine wpAny_pure ⟨plainId_quiet Cc _,?_⟩
 obtain⟨od,es,ep,P,rd⟩:=id g
 have y:s.heap.objs.size<D.objs.size:=Heap.lt_size (i _ _ P)
 have R:l<s.heap.objs.size:=Heap.lt_size L
 have yT:∀kvs:List (Key×V),(∀p∈kvs,∃(t:Addr),H t=some (.tup [kV p.1,p.2]))->True:=fun _ _=>trivial
 have E:∀(t:Addr) k v,H t=some (.tup [kV k,v])->∃a d,IsTup s.heap t #[a,d]/\(Av X.prog X.w).is k a=true/\RelV v d:=fun t k v e=>by
  obtain⟨z,r2,tp,_⟩:=I.tuple (Ah.of e)
  cases r2 with
  |cons ra rr=>
   cases rr with
   |cons rb rr=>
    cases rr
    exact⟨_,_,tp,IK ra,rb⟩
 obtain⟨more,G⟩:∃more:List (Key×Value),KV kvs more/\∀(j:Nat) m d,more[j]?=some (m,d)->∃t a,f[j]?=some t/\IsTup s.heap t #[a,d]/\(Av X.prog X.w).is m a=true:=by
  have gen:∀(kvs:List (Key×V)) (f:List Addr),(∀(j:Nat) k v,kvs[j]?=some (k,v)->∃t,f[j]?=some t/\H t=some (.tup [kV k,v]))->
    ∃more:List (Key×Value),KV kvs more/\∀(j:Nat) m d,more[j]?=some (m,d)->∃t a,f[j]?=some t/\IsTup s.heap t #[a,d]/\(Av X.prog X.w).is m a=true:=by
   intro kvs
   induction kvs with
   |nil=>exact fun f _=>⟨[],.nil,fun j m d e=>by simp at e⟩
   |cons p r ih=>
    intro f h
    obtain⟨k,v⟩:=p
    obtain⟨t,e1,e2⟩:=h 0 k v rfl
    obtain⟨a,d,a1,a2,a3⟩:=E t k v e2
    obtain⟨more,b1,b2⟩:=ih f.tail (fun j k v e=>by
     obtain⟨t,c1,c2⟩:=h (j+1) k v (by simpa using e)
     exact⟨t,by rw[List.getElem?_tail];exact c1,c2⟩)
    refine⟨(k,d)::more,.cons ⟨rfl,a3⟩ b1,fun j m S e=>?_⟩
    cases j with
    |zero=>
     have e:(k,d)=(m,S):=by simpa using e
     cases e
     exact⟨t,a,e1,a1,a2⟩
    |succ j=>
     obtain⟨t,a,c1,c2,c3⟩:=b2 j m S (by simpa using e)
     exact⟨t,a,by rw[List.getElem?_tail]at c1;exact c1,c2,c3⟩
  exact gen kvs f hp
 obtain⟨J,hm⟩:=G
 have T:n.length=f.length:=by rw[<-rv.length,List.length_map]
 have U:∀(j:Nat) t,f[j]?=some t->n.toArray[j]?=some (.ref t):=fun j t e=>by
  obtain⟨u,D,h2⟩:=rv.get (show(f.map V.ref)[j]?=some (.ref t)by rw[List.getElem?_map,e];rfl)
  cases h2
  simpa using D
 show codeAny _ _ (.builtin "dict.update.loop" ⟨[.ref s.heap.objs.size,.ref D.objs.size,rawInt ((0:Nat):Int),.none],[]⟩) _ _
 refine SY (knd:=Av X.prog X.w) (l:=l) (items:=n.toArray) (more:=more) M (Nat.ne_of_lt (Nat.lt_trans R y)) (Nat.ne_of_lt y) (Nat.ne_of_gt R) (by rw[List.size_toArray,T,hlen];exact J.length) (by rw[<-J.length];lia) more.length 0 _ (by simp) (Nat.zero_le _)
  ⟨_,Heap.get?_push_size _ rfl,rfl,rfl⟩ ⟨W,Heap.get?_push_of_some _ (i _ _ c),x,nl,C⟩ ⟨od,es,ep,Heap.get?_push_of_some _ (i _ _ P),rd⟩ (fun j m d e=>?_) (fun h2 yU hd2 yV=>⟨rfl,?_⟩)
 ·obtain⟨t,a,c1,⟨ot,c2,yW⟩,c3⟩:=hm j m d e
  have:t<s.heap.objs.size:=Heap.lt_size c2
  exact⟨t,a,U j t c1,Nat.ne_of_lt this,Nat.ne_of_lt (Nat.lt_trans this y),⟨ot,Heap.get?_push_of_some _ (O _ _ c2),yW⟩,c3⟩
 ·have gY:(DB [] kvs).length<=sizeLine:=by
   have:=EK kvs []
   exact Az (by simp at this;lia)
  refine⟨.ref s.heap.objs.size,_,I.laid (t':=yU) (fun b o e=>?_) (Nat.le_refl _) (Jb gY (beq_eq_false_iff_ne.mpr (Ne.symm (Nat.ne_of_lt I.big))) (KV.merge J .nil) hd2),rfl,q _ I.fresh⟩
  have:=Heap.lt_size e
  exact yV b o (Nat.ne_of_lt this) (Nat.ne_of_lt (Nat.lt_trans this y)) (Heap.get?_push_of_some _ (O _ _ e))
end
theorem VG {x:V} (h:Bg x=true):F' x x=true:=by
 cases x<;>simp_all [Bg,F']
section
variable{X:Cx}
theorem LN {pins:List (Addr×Obj)} {σ:St} {H:Hp} {s:Shared} {A:Around} {xs ys:List V} {its a:List Value} (d:Vals xs its) (e:Vals ys a) (f:∀z∈xs,Bg z=true) (g:∀z∈ys,Bg z=true)
  (j:Nat) (h:j<its.toArray.size) (i:j<a.toArray.size):SeqAt.EqAt A s its.toArray[j] a.toArray[j] (F' (xs.getD j .Ao) (ys.getD j .Ao)):=by
 have k:its.toArray.size=xs.length:=by rw[List.size_toArray];exact d.length.symm
 have l:a.toArray.size=ys.length:=by rw[List.size_toArray];exact e.length.symm
 have b:j<xs.length:=by rw[<-k];exact h
 have c:j<ys.length:=by rw[<-l];exact i
 obtain⟨m,n,o⟩:=d.get (ACD b)
 obtain⟨p,q,r⟩:=e.get (ACD c)
 have t:its.toArray[j]=m:=by
  have:=(ACE n).2
  simpa using this
 have u:a.toArray[j]=p:=by
  have:=(ACE q).2
  simpa using this
 rw[t,u]
 have v:xs.getD j .Ao=xs[j]:=by rw[List.getD_eq_getElem?_getD,ACD b];rfl
 have w:ys.getD j .Ao=ys[j]:=by rw[List.getD_eq_getElem?_getD,ACD c];rfl
 rw[v,w]
 exact JX o r (f _ (List.getElem_mem b)) (g _ (List.getElem_mem c))
inductive Zn (K:ACH) (c:Bool) (x:V) (y:V) (H:Hp) (Q:VK):Prop
 |mk (a:Addr) (b:Addr) (xs:List V) (ys:List V) (d:x=.ref a) (e:y=.ref b) (f:Bd K H a xs) (g:Bd K H b ys) (h:(∀z∈xs,Bg z=true)) (i:(∀z∈ys,Bg z=true)) (j:Q (.bl (if c then !BB xs ys else BB xs ys)) H):Zn K c x y H Q
def mD (K:ACH) (a:Bool):R2:=fun x y H Q=>Zn K a x y H Q
theorem bc (k:X.A.units<cLine):Dy X (compareOp .Eq) (mD X.K false):=by
 intro pins s σ H x y v u Q I r t h
 obtain⟨a,b,xs,c,rfl,rfl,w,z,B,C,q⟩:=h
 cases r
 cases t
 obtain⟨g,l,m,_⟩:=I.list w
 obtain⟨d,n,o,_⟩:=I.list z
 have i:g.toArray.size=xs.length:=by rw[List.size_toArray];exact l.length.symm
 have p:d.toArray.size=c.length:=by rw[List.size_toArray];exact n.length.symm
 by_cases f:xs.length=c.length
 ·refine SeqAt.eq_listAt (e:=fun j=>F' (xs.getD j .Ao) (c.getD j .Ao)) m.isList o.isList (by rw[i,p,f]) k (fun j D E=>LN (pins:=pins) (σ:=σ) (H:=H) l n B C j D E) ?_
  refine⟨.bl (BB xs c),H,I,?_,q⟩
  show Value.bool _=Value.bool _
  congr 1
  unfold BB
  rw[i,f,Nat.min_self,beq_self_eq_true,Bool.and_true]
 ·refine SeqAt.eq_list_lengthsAt m.isList o.isList (by rw[i,p];simpa using f) k ⟨.bl (BB xs c),H,I,?_,q⟩
  show Value.bool _=Value.bool _
  congr 1
  unfold BB
  rw[beq_eq_false_iff_ne.mpr f,Bool.and_false]
theorem VH {a:Expr} {f:TA} {p pos:Pos} (l:Gl X "range") (m:X.mg "range"=none) (n:PA X [a] f) (hs:starEach [a] X.env=[(false,eval a X.env)]:=by rfl):
  PE X (.Call (.Name "range" p) [a] [] pos) (fun d H Q=>f d H fun g c=>∃j:Int,g=[.int j]/\∀r,c r=none->Q (.ref r) (upd c r (.ar 0 j))):=by
 intro pins s d H Q I h
 refine Call_ (Hh I l m boot_range (PyProof.Rows.callWith_type1 (BX (n pos pins s d H _ I h) fun y i u=>u.elim fun g c k v w=>?_) hs rfl))
 obtain⟨j,e,q⟩:=w
 subst e
 cases v with
 |cons r x=>
  cases x
  obtain⟨t,rfl⟩:=r
  exact call_range_1 ⟨.ref i.heap.objs.size,upd c i.heap.objs.size (.ar 0 j),k.laid (fun b o e=>Heap.get?_push_of_some _ e) (Nat.le_refl _) ⟨_,_,_,Heap.get?_push_size _ rfl⟩,rfl,q _ k.fresh⟩
inductive Ed (xs:List V) (H:Hp) (Q:VK):Prop
 |mk (r:Addr) (n:Nat) (a:xs=[.ref r]) (b:H r=some (.ar 0 (n:Int))) (c:n<=1000) (d:∀l,H l=none->Q (.ref l) (upd H l (.lst ((List.range n).map fun(i:Nat)=>V.int (i:Int))))):Ed xs H Q
def Iu:List V->Hp->VK->Prop:=fun xs H Q=>Ed xs H Q
theorem Kn (o:X.calm=true):Dz X (.type "list") Iu:=by
 intro pins s K H xs L Q I r h
 obtain⟨g,n,rfl,p,x,q⟩:=h
 obtain⟨u,rfl,y⟩:=vals1 r
 cases y
 obtain⟨t,u,v,e⟩:=(show BJ X.prog X.w H s.heap g (.ar 0 (n:Int))from I.Bl g _ p)
 have f:X.A.handled=none:=I.ok.hd o
 refine call_list_range (n:=n) f e (small_one (by lia) (by lia) (by lia) (by lia)) (by rw[rangeSize_one];split<;>lia) (by lia) fun B C b D E F j=>?_
 have G:((List.range n).map fun(i:Nat)=>V.int (i:Int)).length<=sizeLine:=by rw[List.length_map,List.length_range];exact Az x
 refine⟨.ref s.heap.objs.size,_,I.laid (t':=C) E (Nat.le_refl _) (show BJ X.prog X.w _ B _ (.lst _)from⟨G,b.toList,D,?_,by rw[Array.toArray_toList];exact F⟩),rfl,q _ I.fresh⟩
 have gen:∀(n:Nat) (l:List Value),l.length=n->(∀(i:Nat) v,l[i]?=some v->∃t,v=Value.int (0+(i:Int)*1) t)->Vals ((List.range n).map fun(i:Nat)=>V.int (i:Int)) l:=by
  intro n
  induction n with
  |zero=>intro l c _;rw[List.eq_nil_of_length_eq_zero c];exact .nil
  |succ n J=>
   intro l c k
   have a:l≠[]:=fun z=>by rw[z]at c;cases c
   have m:l=l.dropLast++[l.getLast a]:=(List.dropLast_concat_getLast a).symm
   rw[List.range_succ,List.map_append,m]
   refine(J l.dropLast (by rw[List.length_dropLast,c];rfl) fun i v d=>?_).append (.cons ?_ .nil)
   ·refine k i v ?_
    rw[m,List.getElem?_append_left ((ACE d).1)]
    exact d
   ·have:l[n]?=some (l.getLast a):=by
     rw[List.getLast_eq_getElem]
     have:l.length-1=n:=by lia
     rw[ACD (by lia)]
     congr 1
     simp[this]
    obtain⟨t,e⟩:=k n _ this
    exact⟨t,by rw[e];congr 1;lia⟩
 exact gen n b.toList (by rw[Array.length_toList];exact j.1) fun i v d=>j.2 i v (by rw[<-Array.getElem?_toList];exact d)
inductive D' (xs:List V) (H:Hp) (Q:VK):Prop
 |mk (a:_) (kvs:_) (b:xs=[.ref a]) (c:Rd H a (.dK kvs)) (d:∀p,H p=none->Q (.ref p) (upd H p (.dK kvs))):D' xs H Q
def Hq:List V->Hp->VK->Prop:=fun xs H Q=>D' xs H Q
theorem Jq:Dz X (.type "dict") Hq:=by
 intro pins s f H xs g Q I r h
 obtain⟨a,kvs,rfl,b,q⟩:=h
 obtain⟨u,rfl,c⟩:=vals1 r
 cases c
 exact Ue I b fun p i d e=>⟨.ref p,_,e,rfl,q p d⟩
inductive MQ (xs:List V) (H:Hp) (Q:VK):Prop
 |mk (a:_) (kvs:_) (b:xs=[V.ref a]) (c:Rd H a (.dK kvs)) (d:Q (.int kvs.length) H):MQ xs H Q
end
namespace Dc
mutual
def deep:Dc->Nat
 |leaf _=>1
 |row _ xs=>1+Cf xs
 |tab _ _ xs=>1+Cf xs
def Cf:List Dc->Nat
 |[]=>0
 |x::r=>max (deep x) (Cf r)
end
theorem Jr (d:Dc):1<=d.deep:=by cases d<;>simp only[deep]<;>lia
theorem Bz:∀{xs:List Dc} {x:Dc},x∈xs->x.deep<=Cf xs
 |[],_,h=>nomatch h
 |y::r,x,h=>by
  simp only[Cf]
  rcases List.mem_cons.mp h with rfl|h
  ·lia
  ·have:=Bz h
   lia
mutual
theorem GC:∀d:Dc,d.deep<=d.size
 |leaf _=>Nat.le_refl _
 |row a xs=>by simp only[deep,size];have:=Ge xs;lia
 |tab a b xs=>by simp only[deep,size];have:=Ge xs;lia
theorem Ge:∀xs:List Dc,Cf xs<=Ab xs
 |[]=>Nat.le_refl _
 |x::r=>by simp only[Cf,Ab];have:=GC x;have:=Ge r;lia
end
mutual
def parts:Dc->List Dc
 |leaf v=>[leaf v]
 |row a xs=>row a xs::Pe xs
 |tab a ks xs=>tab a ks xs::Pe xs
def Pe:List Dc->List Dc
 |[]=>[]
 |x::r=>parts x++Pe r
end
structure BI (e d:Dc):Prop where
 at_:∀{H:Hp},d.At H->e.At H
 ok:d.ok->e.ok
 slim:d.slim->e.slim
 deep:e.deep<=d.deep
 size:e.size<=d.size
 addrs:∀a∈e.addrs,a∈d.addrs
theorem BI.refl (d:Dc):BI d d:=⟨id,id,id,Nat.le_refl _,Nat.le_refl _,fun _ h=>h⟩
theorem BI.trans {e d c:Dc} (p:BI e d) (q:BI d c):BI e c:=⟨fun h=>p.at_ (q.at_ h),fun h=>p.ok (q.ok h),fun h=>p.slim (q.slim h),Nat.le_trans p.deep q.deep,Nat.le_trans p.size q.size,fun a h=>q.addrs a (p.addrs a h)⟩
theorem BI.row {x:Dc} {a:Addr} {xs:List Dc} (h:x∈xs):BI x (row a xs):=
 ⟨fun q=>by simp only[At]at q;exact CV q.2 x h,fun q=>by simp only[Dc.ok]at q;exact Bi.mp q x h,fun q=>by simp only[Dc.slim]at q;exact Ec q x h,
  by simp only[Dc.deep];have:=Bz h;lia,by simp only[Dc.size];have:=Ea h;lia,fun c b=>by simp only[Dc.addrs];exact List.mem_cons_of_mem _ (GY h b)⟩
theorem BI.tab {x:Dc} {a:Addr} {ks:List Str} {xs:List Dc} (h:x∈xs):BI x (tab a ks xs):=
 ⟨fun q=>by simp only[At]at q;exact CV q.2.2.2 x h,fun q=>by simp only[Dc.ok]at q;exact Bi.mp q.2 x h,fun q=>by simp only[Dc.slim]at q;exact Ec q.2 x h,
  by simp only[Dc.deep];have:=Bz h;lia,by simp only[Dc.size];have:=Ea h;lia,fun c b=>by simp only[Dc.addrs];exact List.mem_cons_of_mem _ (GY h b)⟩
mutual
def BA:Dc->Dc->Prop
 |leaf v,leaf w=>v=w
 |row _ xs,row _ ys=>Aj xs ys
 |tab _ ks xs,tab _ a ys=>ks=a/\Aj xs ys
 |_,_=>False
def Aj:List Dc->List Dc->Prop
 |[],[]=>True
 |x::r,y::t=>BA x y/\Aj r t
 |_,_=>False
end
theorem HE:∀{xs ys:List Dc},Aj xs ys->xs.length=ys.length
 |[],[],_=>rfl
 |[],_::_,h=>by simp[Aj]at h
 |_::_,[],h=>by simp[Aj]at h
 |x::r,y::t,h=>by simp only[Aj]at h;simp only[List.length_cons,HE h.2]
theorem LO:∀{xs ys:List Dc},Aj xs ys->∀(i:Nat) x,xs[i]?=some x->∃y,ys[i]?=some y/\BA x y
 |[],_,_,i,x,e=>by simp at e
 |x::r,[],h,_,_,_=>by simp[Aj]at h
 |x::r,y::t,h,0,z,e=>by simp only[Aj]at h;simp at e;subst e;exact⟨y,rfl,h.1⟩
 |x::r,y::t,h,i+1,z,e=>by simp only[Aj]at h;simp at e;obtain⟨w,a,b⟩:=LO h.2 i z e;exact⟨w,by simpa using a,b⟩
theorem HF {xs a ys b:List Dc}:Aj xs ys->Aj a b->Aj (xs++a) (ys++b):=by
 induction xs generalizing ys with
 |nil=>
  intro h c
  cases ys with
  |nil=>exact c
  |cons y t=>simp[Aj]at h
 |cons x r d=>
  intro h c
  cases ys with
  |nil=>simp[Aj]at h
  |cons y t=>
   simp only[Aj,List.cons_append]at h⊢
   exact⟨h.1,d h.2 c⟩
mutual
theorem LP:∀d:Dc,BA d d
 |leaf _=>by simp[BA]
 |row _ xs=>by simp only[BA];exact Gf xs
 |tab _ _ xs=>by simp only[BA];exact⟨trivial,Gf xs⟩
theorem Gf:∀xs:List Dc,Aj xs xs
 |[]=>by simp[Aj]
 |x::r=>by simp only[Aj];exact⟨LP x,Gf r⟩
end
mutual
theorem GD:∀d e:Dc,BA d e->d.ok->e.ok
 |leaf v,e,h,k=>by cases e<;>simp_all [BA,ok]
 |row a xs,e,h,k=>by
  cases e with
  |row b ys=>simp only[BA]at h;simp only[ok]at k⊢;exact Js xs ys h k
  |_=>simp[BA]at h
 |tab a ks xs,e,h,k=>by
  cases e with
  |tab b c ys=>simp only[BA]at h;simp only[ok]at k⊢;exact⟨h.1▸k.1,Js xs ys h.2 k.2⟩
  |_=>simp[BA]at h
theorem Js:∀xs ys:List Dc,Aj xs ys->ML xs->ML ys
 |[],[],_,_=>by simp[ML]
 |[],_::_,h,_=>by simp[Aj]at h
 |_::_,[],h,_=>by simp[Aj]at h
 |x::r,y::t,h,k=>by simp only[Aj]at h;simp only[ML]at k⊢;exact⟨GD x y h.1 k.1,Js r t h.2 k.2⟩
end
mutual
theorem GF:∀d e:Dc,BA d e->d.size=e.size
 |leaf v,e,h=>by cases e<;>simp_all [BA,size]
 |row a xs,e,h=>by
  cases e with
  |row b ys=>simp only[BA]at h;simp only[size,Gg xs ys h]
  |_=>simp[BA]at h
 |tab a ks xs,e,h=>by
  cases e with
  |tab b c ys=>simp only[BA]at h;simp only[size,Gg xs ys h.2]
  |_=>simp[BA]at h
theorem Gg:∀xs ys:List Dc,Aj xs ys->Ab xs=Ab ys
 |[],[],_=>rfl
 |[],_::_,h=>by simp[Aj]at h
 |_::_,[],h=>by simp[Aj]at h
 |x::r,y::t,h=>by simp only[Aj]at h;simp only[Ab,GF x y h.1,Gg r t h.2]
end
def kids:Dc->List Dc
 |leaf _=>[]
 |row _ xs=>xs
 |tab _ _ xs=>xs
theorem Pf {xs ys:List Dc} (p:xs.Perm ys):Ab xs=Ab ys:=by
 induction p with
 |nil=>rfl
 |cons x _ a=>simp only[Ab,a]
 |swap x y l=>simp only[Ab];lia
 |trans _ _ b c=>exact b.trans c
def YS:Dc->List V->Prop
 |leaf _,l=>l=[]
 |row _ xs,l=>l=(List.range xs.length).map fun(i:Nat)=>V.int (i:Int)
 |tab _ ks _,l=>∃ss:List Str,l=ss.map V.str/\ss.Perm ks/\sortedS ss=true
end Dc
structure Bf (H H':Hp) (d:Dc):Prop where
 same:AJ H H'
 at_:d.At H'
 nd:d.addrs.Nodup
 own:∀a∈d.addrs,∀o u,H' a≠some (.Cz o u)
 new:∀a∈d.addrs,H a=none
theorem Bf.up {H b H2:Hp} {d:Dc} (D:Bf H b d) (s:AJ b H2):Bf H H2 d:=⟨D.same.trans s,Dc.BS s D.at_,D.nd,fun a c=>Fj (Dc.there D.at_ c) (D.own a c) (s a),D.new⟩
theorem YT {c:TT} {g:TS} {D:Ends} {σ:St} {H:Hp} (W:Nat->St->Hp->Prop) (h:Nat) (j:W h σ H)
  (hs:∀m σ H,W m σ H->c σ H fun b d=>if b=true then g {D with nx:=fun a f=>∃e,e<m/\W e a f,ct:=fun a f=>∃e,e<m/\W e a f,bk:=D.nx} σ d else D.nx σ d)
  (mono:∀σ H Q i,(∀b d,Q b d->i b d)->c σ H Q->c σ H i):UC c g D σ H:=by
 refine⟨W,⟨h,j⟩,fun m σ H p=>?_⟩
 refine mono σ H _ _ (fun b d q=>?_) (hs m σ H p)
 cases b with
 |true=>exact⟨_,fun a f z=>z,q⟩
 |false=>exact q
inductive RC (n:Nat) (vs:List V) (H:Hp) (Q:VK) (a:XK):Prop
 |mk (d:Dc) (c:vs=[d.val]) (e:d.At H) (f:d.deep<=n) (g:d.size<=900) (h:∀(d':Dc) (b:Hp),Bf H b d'->Dc.BA d d'->Q d'.val b):RC n vs H Q a
def Jt (n:Nat):Sp:=fun b H Q a=>RC n b H Q a
inductive VI (n:Nat) (vs:List V) (H:Hp) (Q:VK) (a:XK):Prop
 |mk (d:Dc) (e:Dc) (c:vs=[d.val,e.val]) (f:d.At H) (g:e.At H) (h:Dc.BA d e) (i:d.slim) (j:d.deep<=n) (k:d.size<=900) (l:∀b,AJ H b->Q (.bl true) b):VI n vs H Q a
inductive VJ (n:Nat) (vs:List V) (H:Hp) (Q:VK) (a:XK):Prop
 |mk (d:Dc) (c:vs=[d.val]) (e:d.At H) (f:d.deep<=n) (g:d.size<=900) (h:∀(p:Addr) (b:Hp),AJ H b->H p=none->b p=some (.lst (d.parts.map Dc.val))->Q (.ref p) b):VJ n vs H Q a
inductive N_ (vs:List V) (H:Hp) (Q:VK) (a:XK):Prop
 |mk (d:Dc) (c:vs=[d.val]) (e:d.At H) (f:d.slim) (g:d.size<=900) (h:∀(p:Addr) (l:List V) (b:Hp),AJ H b->H p=none->b p=some (.lst l)->d.YS l->Q (.ref p) b):N_ vs H Q a
def MR:Sp:=fun b H Q a=>N_ b H Q a
inductive VL (vs:List V) (H:Hp) (Q:VK) (a:XK):Prop
 |mk (d:Dc) (e:vs=[d.val]) (f:d.At H) (g:d.slim) (h:d.size<=900) (i:∀(p:Addr) (c:List Dc) (b:Hp),AJ H b->H p=none->b p=some (.lst (c.map Dc.val))->c.Perm d.kids->Q (.ref p) b):VL vs H Q a
inductive Sa (vs:List V) (H:Hp) (Q:VK) (a:XK):Prop
 |mk (d:Dc) (c:vs=[d.val]) (e:d.At H) (f:d.slim) (g:d.size<=900) (h:∀b,AJ H b->Q (.int (d.size:Int)) b):Sa vs H Q a
inductive VM (vs:List V) (H:Hp) (Q:VK) (a:XK):Prop
 |mk (d:Dc) (c:vs=[d.val]) (e:d.At H) (f:d.ok) (g:d.slim) (h:d.size<=900) (i:∀b,AJ H b->Q (.bl true) b):VM vs H Q a
def Dc.kindS:Dc->Str
 | .leaf (.str _)=>"text"
 | .leaf _=>"number"
 | .row _ _=>"row"
 | .tab _ _ _=>"table"
inductive YU (vs:List V) (H:Hp) (Q:VK) (a:XK):Prop
 |mk (d:Dc) (b:vs=[d.val]) (c:d.At H) (e:Q (.str d.kindS) H):YU vs H Q a
inductive VN (n:Nat) (vs:List V) (H:Hp) (Q:VK) (b:XK):Prop
 |mk (d:Dc) (t:Addr) (xs:List V) (c:vs=[d.val,.ref t]) (e:d.At H) (f:d.ok) (g:d.slim) (h:d.deep<=n) (i:H t=some (.tup xs)) (j:xs.length+d.size<=1000) (k:∀(p:Addr) (ps:List Addr) (a:Hp),AJ H a->H p=none->a p=some (.lst (ps.map V.ref))->ps.length=d.size->(∀q∈ps,∃zs,a q=some (.tup (xs++zs))/\(d.sub zs).isSome=true)->Q (.ref p) a):VN n vs H Q b
def back (a:Addr) (H c:Hp):Hp:=fun b=>if b=a then H a else c b
theorem RD {a b:Addr} {H c:Hp} (h:b≠a):back a H c b=c b:=if_neg h
theorem YV {a:Addr} {H b:Hp}:back a H b a=H a:=if_pos rfl
theorem VO {a:Addr} {H c:Hp} {u:HO} (e:H a=some u):back a H c=upd c a u:=by
 funext b
 unfold back upd
 split
 ·exact e
 ·rfl
theorem Sb {a:Addr} {H c:Hp} (e:H a=c a):back a H c=c:=by
 funext b
 unfold back
 split
 ·rename_i h;rw[h,e]
 ·rfl
structure To (a:Addr) (o:Obj) (kvs:List (Key×V)) (H Hf:Hp):Prop where
 at_:Hf a=some (.Cz o (.dK kvs))
 rd:FN H Hf
 ne:∀b,b≠a->Hf b=H b
 rda:Rd H a (.dK kvs)
theorem To.free {a b:Addr} {o:Obj} {kvs:List (Key×V)} {H c:Hp} (F:To a o kvs H c) (h:c b=none):H b=none/\b≠a:=by
 have d:b≠a:=fun z=>by rw[z,F.at_]at h;cases h
 rw[F.ne b d]at h
 exact⟨h,d⟩
theorem To.back {a:Addr} {o:Obj} {kvs:List (Key×V)} {H d f:Hp} (F:To a o kvs H d) (s:AJ d f):AJ H (back a H f):=fun b u e=>by
 by_cases c:b=a
 ·subst c;rw[YV];exact e
 ·rw[RD c]
  exact s b u (by rw[F.ne b c];exact e)
inductive RE (t:TE) (σ:St) (H:Hp) (Q:VK):Prop
 |mk (a:_) (kvs:_) (d:Rd H a (.dK kvs)) (e:∀o b,To a o kvs H b->t σ b fun v c=>c a=some (.Cz o (.dK kvs))/\Q v (back a H c)):RE t σ H Q
def bf (t:TE):TE:=fun a H Q=>RE t a H Q
inductive YW (t:TS) (D:Ends) (σ:St) (H:Hp):Prop
 |mk (a:_) (kvs:_) (d:Rd H a (.dK kvs)) (e:∀o c,To a o kvs H c->t ⟨fun σ b=>b a=some (.Cz o (.dK kvs))/\D.nx σ (back a H b),fun v b=>b a=some (.Cz o (.dK kvs))/\D.rt v (back a H b),fun σ b=>b a=some (.Cz o (.dK kvs))/\D.bk σ (back a H b),fun σ b=>b a=some (.Cz o (.dK kvs))/\D.ct σ (back a H b)⟩ σ c):YW t D σ H
theorem To.of {a:Addr} {o:Obj} {kvs:List (Key×V)} {H:Hp} (e:H a=some (.dK kvs)):To a o kvs H (upd H a (.Cz o (.dK kvs))):=⟨AF,FN.Cz e,fun b c=>AR c,.inl e⟩
theorem To.same {a:Addr} {o:Obj} {kvs:List (Key×V)} {H:Hp} (e:H a=some (.Cz o (.dK kvs))):To a o kvs H H:=⟨e,fun _ _ r=>r,fun _ _=>rfl,.inr ⟨o,e⟩⟩
section
variable{X:Cx}
theorem YX {e:Expr} {t:TE} (h:PE X e t):PE X e (bf t):=by
 rintro pins s c H Q I ⟨a,kvs,r,d⟩
 rcases r with r|⟨o,r⟩
 ·refine bZ h pins s c H Q I ⟨a,kvs,r,fun o=>?_⟩
  have:=d o _ (To.of r)
  have e:(fun v b=>b a=some (.Cz o (.dK kvs))/\Q v (back a H b))=fun v=>Pd a o kvs (Q v):=by
   funext v b
   unfold Pd
   rw[VO r]
  rw[e]at this
  exact this
 ·refine BX (h pins s c H _ I (d o H (To.same r))) fun u l ⟨v,g,i,j,k,f⟩=>⟨v,g,i,j,?_⟩
  rw[Sb (r.trans k.symm)]at f
  exact f
end
theorem MS {J:It} {o:TE} {fs:List Nat} {σ:St} {H:Hp} {Q:VK} (n:Nat) (item:Nat->V) (P:Addr->Nat->Hp->Prop) (s:∀D,H D=none->P D 0 (upd H D (.lst [])))
  (h:∀D i H2,i<n->P D i H2->J.go i H2) (t:∀D i H2 v q,i<n->P D i H2->J.XZ i H2 v q->v=item i/\q=H2) (j:∀D H2,P D n H2->J.stop n H2)
  (u:∀D i H2,H D=none->i<n->P D i H2->o (some (item i)::CN σ fs) H2 fun y d=>∃ys,d D=some (.lst ys)/\ys.length<sizeLine/\P D (i+1) (upd d D (.lst (ys++[y]))))
  (w:∀D H2,H D=none->P D n H2->Q (.ref D) H2):Hm J Uh o fs σ H Q:=by
 intro D k
 refine⟨fun i m H2=>m=n-i/\i<=n/\P D i H2,⟨n,rfl,Nat.zero_le _,s D k⟩,?_⟩
 rintro i m H2 ⟨rfl,x,p⟩
 by_cases f:i<n
 ·refine .inr ⟨h D i H2 f p,fun v r y=>?_⟩
  obtain⟨rfl,rfl⟩:=t D i H2 v r f p y
  unfold Uh
  dsimp only
  rw[if_pos rfl]
  have g:=u D i r k f p
  have e:(fun(y:V) (d:Hp)=>∃ys,d D=some (.lst ys)/\ys.length<sizeLine/\∃l,l<n-i/\l=n-(i+1)/\i+1<=n/\P D (i+1) (upd d D (.lst (ys++[y]))))=fun y d=>∃ys,d D=some (.lst ys)/\ys.length<sizeLine/\P D (i+1) (upd d D (.lst (ys++[y]))):=by
   funext y d
   refine propext ⟨fun⟨ys,a,b,l,_,_,_,c⟩=>⟨ys,a,b,c⟩,fun⟨ys,a,b,c⟩=>⟨ys,a,b,n-(i+1),by lia,rfl,f,c⟩⟩
  rw[<-e]at g
  exact g
 ·have e:i=n:=by lia
  subst e
  exact .inl ⟨j D H2 p,w D H2 k p⟩
structure Al (H H':Hp) (es:List Dc):Prop where
 same:AJ H H'
 at_:Dc.DF H' es
 nd:(Dc.AK es).Nodup
 own:∀a∈Dc.AK es,∀o u,H' a≠some (.Cz o u)
 new:∀a∈Dc.AK es,H a=none
theorem Al.nil {H b:Hp} (s:AJ H b):Al H b []:=⟨s,trivial,.nil,fun a h=>(nomatch h),fun a h=>(nomatch h)⟩
theorem Dc.MT {H:Hp} {c:List Dc} {b:Addr} (h:Dc.DF H c) (a:b∈Dc.AK c):H b≠none:=by
 induction c with
 |nil=>cases a
 |cons x r d=>
  simp only[Dc.DF]at h
  simp only[Dc.AK,List.mem_append]at a
  rcases a with a|a
  ·exact Dc.there h.1 a
  ·exact d h.2 a
theorem Al.frame {H d H2:Hp} {b:List Dc} (F:Al H d b) (s:AJ H H2) (f:∀a∈Dc.AK b,∀o,d a=some o->H2 a=some o):Al H H2 b:=
 ⟨s,Dc.BL b f F.at_,F.nd,fun a c=>Fj (Dc.MT F.at_ c) (F.own a c) (f a c),F.new⟩
theorem Al.up {H b H2:Hp} {c:List Dc} (F:Al H b c) (s:AJ b H2):Al H H2 c:=F.frame (F.same.trans s) fun a _=>s a
theorem Al.snoc {H H2 j:Hp} {g:List Dc} {d:Dc} (F:Al H H2 g) (f:Bf H2 j d):Al H j (g++[d]):=by
 have h:=F.up f.same
 have i:Dc.AK (g++[d])=Dc.AK g++d.addrs:=by rw[Dc.AU];simp[Dc.AK]
 refine⟨h.same,(Dc.BW _ _).mpr ⟨h.at_,by simp only[Dc.DF];exact⟨f.at_,trivial⟩⟩,?_,fun a c=>?_,fun a c=>?_⟩
 ·rw[i]
  refine List.nodup_append.mpr ⟨F.nd,f.nd,fun a c b k e=>?_⟩
  subst e
  exact Dc.MT F.at_ c (f.new a k)
 ·rw[i]at c
  rcases List.mem_append.mp c with c|c
  ·exact h.own a c
  ·exact f.own a c
 ·rw[i]at c
  rcases List.mem_append.mp c with c|c
  ·exact F.new a c
  ·exact F.same.free (f.new a c)
theorem Al.row {H d:Hp} {c:List Dc} {D:Addr} (F:Al H d c) (f:H D=none) (g:D∉Dc.AK c) (e:d D=some (.lst (c.map Dc.val))):Bf H d (.row D c):=by
 refine⟨F.same,by simp only[Dc.At];exact⟨.inl e,F.at_⟩,?_,fun a b=>?_,fun a b=>?_⟩
 ·simp only[Dc.addrs];exact List.nodup_cons.mpr ⟨g,F.nd⟩
 ·simp only[Dc.addrs,List.mem_cons]at b
  rcases b with rfl|b
  ·intro o u z;rw[e]at z;cases z
  ·exact F.own a b
 ·simp only[Dc.addrs,List.mem_cons]at b
  rcases b with rfl|b
  ·exact f
  ·exact F.new a b
theorem Al.tab {H d:Hp} {c:List Dc} {ks:List Str} {D:Addr} (F:Al H d c) (f:H D=none) (g:D∉Dc.AK c) (l:ks.length=c.length) (h:ks.Nodup) (e:d D=some (.dK (Dc.kvs ks c))):Bf H d (.tab D ks c):=by
 refine⟨F.same,by simp only[Dc.At];exact⟨.inl e,l,h,F.at_⟩,?_,fun a b=>?_,fun a b=>?_⟩
 ·simp only[Dc.addrs];exact List.nodup_cons.mpr ⟨g,F.nd⟩
 ·simp only[Dc.addrs,List.mem_cons]at b
  rcases b with rfl|b
  ·intro o u z;rw[e]at z;cases z
  ·exact F.own a b
 ·simp only[Dc.addrs,List.mem_cons]at b
  rcases b with rfl|b
  ·exact f
  ·exact F.new a b
theorem FC:∀(more kvs:List (Key×V)),((kvs++more).map (·.1)).Nodup->DB kvs more=kvs++more
 |[],kvs,_=>by simp[DB]
 |p::r,kvs,h=>by
  have a:Ct kvs p.1=none:=by
   cases e:Ct kvs p.1 with
   |none=>rfl
   |some v=>
    have:=YB e
    rw[List.map_append,List.map_cons]at h
    obtain⟨_,_,b⟩:=List.nodup_append.mp h
    exact absurd rfl (b p.1 this p.1 List.mem_cons_self)
  show DB (putK kvs p.1 p.2) r=_
  rw[Ng p.2 a,FC r (kvs++[(p.1,p.2)]) (by simpa using h)]
  simp
namespace Dc
theorem Ju {nm:Str} {x:Dc}:∀(ks:List Str) (xs:List Dc) (i:Nat),ks.Nodup->ks[i]?=some nm->xs[i]?=some x->(ks.zip xs).lookup nm=some x
 |[],_,_,_,h,_=>by simp at h
 |y::r,[],_,_,_,h=>by simp at h
 |y::r,z::t,0,_,b,c=>by simp at b c;subst b c;simp
 |y::r,z::t,i+1,d,b,c=>by
  obtain⟨n1,n2⟩:=List.nodup_cons.mp d
  have a:r[i]?=some nm:=by simpa using b
  have e:nm≠y:=fun z=>n1 (z▸ACG a)
  have:(nm==y)=false:=by simpa using e
  simp only[List.zip_cons_cons,List.lookup_cons,this]
  exact Ju r t i n2 a (by simpa using c)
theorem HG {ks:List Str} {xs:List Dc} (h:ks.length=xs.length):(kvs ks xs).length=xs.length:=by
 have:=congrArg List.length (Dq (ks:=ks) (xs:=xs) h)
 rw[List.length_map,List.length_map]at this
 rw[this,h]
theorem Pg {ks:List Str} {xs:List Dc} (h:ks.length=xs.length) (f:ks.Nodup) {i:Nat} {k:Key} {v:V} (e:(kvs ks xs)[i]?=some (k,v)):
  ∃nm x,ks[i]?=some nm/\xs[i]?=some x/\k=Sum.inr nm/\v=x.val/\(ks.zip xs).lookup nm=some x/\Ct (kvs ks xs) (Sum.inr nm)=some x.val:=by
 have d:i<xs.length:=by rw[<-HG h];exact(ACE e).1
 obtain⟨x,c⟩:∃x,xs[i]?=some x:=⟨_,ACD d⟩
 obtain⟨nm,a⟩:∃nm,ks[i]?=some nm:=⟨_,ACD (by rw[h];exact d)⟩
 have lk:=Ju ks xs i f a c
 have b:=e
 unfold kvs at b
 rw[List.getElem?_map]at b
 have g:(ks.zip (xs.map val))[i]?=some (nm,x.val):=by
  rw[List.getElem?_zip_eq_some]
  exact⟨a,by rw[List.getElem?_map,c];rfl⟩
 rw[g]at b
 have b:=ACF b
 exact⟨nm,x,a,c,(congrArg Prod.fst b).symm,(congrArg Prod.snd b).symm,lk,by rw[Eb h,lk];rfl⟩
end Dc
def bg:V->Bool
 | .int _=>true
 |_=>false
def gZ:V->Bool
 | .str x=>Be x
 |_=>false
def Short (v:V):Prop:=∀x,v=.str x->x.length<=1000
inductive VP (vs:List V) (H:Hp) (Q:VK) (a:XK):Prop
 |mk (v:_) (T:_) (b:vs=[v]) (c:PX H v T) (d:Q (.bl (bg v)) H):VP vs H Q a
inductive Ph (vs:List V) (H:Hp) (Q:VK) (a:XK):Prop
 |mk (x:Str) (c:vs=[.str x]) (d:x.length<=1000) (e:∀b,AJ H b->Q (.bl ((sgn x).all Up)) b):Ph vs H Q a
inductive YY (vs:List V) (H:Hp) (Q:VK) (a:XK):Prop
 |mk (v:_) (T:_) (c:vs=[v]) (d:PX H v T) (e:Short v) (f:∀b,AJ H b->Q (.bl (gZ v)) b):YY vs H Q a
inductive VQ (vs:List V) (H:Hp) (Q:VK) (a:XK):Prop
 |mk (d:Dc) (c:vs=[d.val]) (e:d.At H) (f:d.ok) (g:d.size<=900) (h:∀b,AJ H b->Q (.bl true) b):VQ vs H Q a
def Fl (H b:Hp) (c:V):Dc->Prop
 | .leaf v=>c=v/\Dc.Lf v
 | .row _ xs=>∃a,c=.ref a/\b a=some (.lst (xs.map Dc.val))/\H a=none
 | .tab _ ks xs=>∃a,c=.ref a/\b a=some (.dK (Dc.kvs ks xs))/\H a=none
def rootOf (p:V×Dc):Option Addr:=match p.1 with
 | .ref a=>some a
 |_=>none
abbrev roots (ps:List (V×Dc)):List Addr:=ps.filterMap rootOf
theorem BU {ps:List (V×Dc)} {c:Addr}:c∈roots ps↔∃p∈ps,p.1=.ref c:=by
 rw[List.mem_filterMap]
 constructor
 ·rintro⟨p,b,e⟩
  refine⟨p,b,?_⟩
  unfold rootOf at e
  split at e
  ·rename_i a h;cases e;exact h
  ·cases e
 ·rintro⟨p,b,e⟩
  exact⟨p,b,by unfold rootOf;rw[e]⟩
theorem BH (ps a:List (V×Dc)):roots (ps++a)=roots ps++roots a:=List.filterMap_append ..
def BN:List (V×Dc)->List Dc->Prop
 |[],[]=>True
 |p::ps,e::a=>e.val=p.1/\Dc.BA p.2 e/\BN ps a
 |_,_=>False
theorem BN.split:∀{ps a:List (V×Dc)} {b:List Dc},BN (ps++a) b->∃c ec,b=c++ec/\BN ps c/\BN a ec
 |[],a,b,h=>⟨[],b,rfl,trivial,h⟩
 |p::ps,a,[],h=>by simp[BN]at h
 |p::ps,a,e::b,h=>by
  simp only[List.cons_append,BN]at h
  obtain⟨c,ec,rfl,d,f⟩:=BN.split h.2.2
  exact⟨e::c,ec,rfl,by simp only[BN];exact⟨h.1,h.2.1,d⟩,f⟩
theorem BN.app:∀{ps a:List (V×Dc)} {b ec:List Dc},BN ps b->BN a ec->BN (ps++a) (b++ec)
 |[],a,[],ec,_,h=>h
 |[],_,_::_,_,h,_=>by simp[BN]at h
 |_::_,_,[],_,h,_=>by simp[BN]at h
 |p::ps,a,e::b,ec,h,h'=>by
  simp only[BN,List.cons_append]at h⊢
  exact⟨h.1,h.2.1,BN.app h.2.2 h'⟩
theorem BN.vals:∀{ps:List (V×Dc)} {a:List Dc},BN ps a->a.map Dc.val=ps.map (·.1)
 |[],[],_=>rfl
 |[],_::_,h=>by simp[BN]at h
 |_::_,[],h=>by simp[BN]at h
 |p::ps,e::a,h=>by
  simp only[BN]at h
  simp only[List.map_cons,h.1,BN.vals h.2.2]
theorem BN.VR:∀{ps:List (V×Dc)} {a:List Dc},BN ps a->Dc.Aj (ps.map (·.2)) a
 |[],[],_=>by simp[Dc.Aj]
 |[],_::_,h=>by simp[BN]at h
 |_::_,[],h=>by simp[BN]at h
 |p::ps,e::a,h=>by
  simp only[BN]at h
  simp only[List.map_cons,Dc.Aj]
  exact⟨h.2.1,BN.VR h.2.2⟩
structure Ee (H Hi:Hp) (L:Addr) (tv:V) (d:Dc) (ps:List (V×Dc)):Prop where
 same:AJ H Hi
 nL:H L=none
 eL:Hi L=some (.lst (ps.map (·.1)))
 out:∀p∈ps,Fl H Hi p.1 p.2
 src:∀p∈ps,p.2.At H/\p.2.slim
 nd:(roots ps).Nodup
 Sd:L∉roots ps
 bh:∀(es:List Dc) (H':Hp),BN ps es->Al H H' es->(∀c∈Dc.AK es,Hi c=none∨c∈roots ps)->(∀b o,b≠L->b∉roots ps->Hi b=some o->H' b=some o)->∃e:Dc,e.val=tv/\Dc.BA d e/\Bf H H' e
theorem Fl.root {H f:Hp} {p:V×Dc} {c:Addr} (o:Fl H f p.1 p.2) (e:p.1=.ref c):f c≠none/\H c=none/\∀j u,f c≠some (.Cz j u):=by
 obtain⟨v,d⟩:=p
 simp only at e
 subst e
 cases d with
 |leaf v=>
  obtain⟨rfl,h⟩:=(show V.ref c=v/\Dc.Lf v from o)
  rcases h with⟨i,h⟩|⟨x,h,_⟩<;>cases h
 |row b xs=>
  obtain⟨a,e,g,k⟩:=(show∃a,V.ref c=.ref a/\f a=some (.lst (xs.map Dc.val))/\H a=none from o)
  cases e
  exact⟨by rw[g];simp,k,fun j u z=>by rw[g]at z;cases z⟩
 |tab b l xs=>
  obtain⟨a,e,g,k⟩:=(show∃a,V.ref c=.ref a/\f a=some (.dK (Dc.kvs l xs))/\H a=none from o)
  cases e
  exact⟨by rw[g];simp,k,fun j u z=>by rw[g]at z;cases z⟩
theorem Fl.up {H h H2:Hp} {c:V} {d:Dc} (o:Fl H h c d) (k:∀a,c=.ref a->∀u,h a=some u->H2 a=some u):Fl H H2 c d:=by
 cases d with
 |leaf v=>exact o
 |row b xs=>obtain⟨a,e,f,g⟩:=o;exact⟨a,e,k a e _ f,g⟩
 |tab b i xs=>obtain⟨a,e,f,g⟩:=o;exact⟨a,e,k a e _ f,g⟩
theorem Ee.step {H t H2:Hp} {L a:Addr} {S:V} {d node:Dc} {ps:List (V×Dc)} (C:Ee H t L S d (ps++[(.ref a,node)])) (j:List (V×Dc))
  (keep:∀b o,b≠a->b≠L->t b=some o->H2 b=some o) (eL:H2 L=some (.lst ((ps++j).map (·.1)))) (out:∀p∈j,Fl H H2 p.1 p.2) (src:∀p∈j,p.2.At H/\p.2.slim) (rn:(roots j).Nodup) (v:∀c∈roots j,t c=none)
  (n:H2 a≠none) (own:∀G u,H2 a≠some (.Cz G u))
  (build:∀(ec:List Dc) (k:Hp),BN j ec->Dc.DF k ec->k a=H2 a->∃e:Dc,e.val=.ref a/\Dc.BA node e/\e.At k/\e.addrs.Perm (a::Dc.AK ec)):Ee H H2 L S d (ps++j):=by
 have E:roots (ps++[(V.ref a,node)])=roots ps++[a]:=by rw[BH];rfl
 have nd:=C.nd
 rw[E]at nd
 obtain⟨I,_,J⟩:=List.nodup_append.mp nd
 have Sd:=C.Sd
 rw[E]at Sd
 have aL:a≠L:=fun z=>Sd (by rw[<-z];simp)
 have A:a∉roots ps:=fun z=>J a z a (by simp) rfl
 have K:=(C.out (.ref a,node) (by simp)).root rfl
 have T:∀c∈roots ps,c≠a/\c≠L/\t c≠none:=fun c f=>by
  obtain⟨p,g,e⟩:=BU.mp f
  refine⟨fun z=>A (by rw[<-z];exact f),fun z=>Sd (by rw[<-z];simp[f]),?_⟩
  exact((C.out p (by simp[g])).root e).1
 refine⟨fun b o e=>?_,C.nL,eL,fun p g=>?_,fun p g=>?_,?_,?_,fun es k dn B z U=>?_⟩
 ·exact keep b o (Ap e K.2.1) (Ap e C.nL) (C.same b o e)
 ·rcases List.mem_append.mp g with g|g
  ·refine(C.out p (by simp[g])).up fun c e u h=>?_
   have:=T c (BU.mpr ⟨p,g,e⟩)
   exact keep c u this.1 this.2.1 h
  ·exact out p g
 ·rcases List.mem_append.mp g with g|g
  ·exact C.src p (by simp[g])
  ·exact src p g
 ·rw[BH]
  refine List.nodup_append.mpr ⟨I,rn,fun x F y r e=>?_⟩
  subst e
  exact(T x F).2.2 (v x r)
 ·rw[BH]
  intro h
  rcases List.mem_append.mp h with h|h
  ·exact Sd (by simp[h])
  ·have:=v L h
   rw[C.eL]at this
   cases this
 ·obtain⟨l,ec,rfl,d1,d2⟩:=dn.split
  have W:a∉roots (ps++j):=by
   rw[BH]
   intro h
   rcases List.mem_append.mp h with h|h
   ·exact A h
   ·exact K.1 (v a h)
  have D:k a=H2 a:=by
   cases e:H2 a with
   |none=>exact absurd e n
   |some o=>exact U a o aL W e
  obtain⟨EM,at2⟩:=(Dc.BW _ _).mp B.at_
  obtain⟨e,ev,el,ea,X⟩:=build ec k d2 at2 D
  have i:a∉Dc.AK (l++ec):=fun h=>by
   rcases z a h with h|h
   ·exact n h
   ·exact W h
  have m:Dc.AK (l++[e])=Dc.AK l++e.addrs:=by rw[Dc.AU];simp[Dc.AK]
  have s:∀c,c∈Dc.AK (l++[e])->c=a∨c∈Dc.AK (l++ec):=fun c f=>by
   rw[m]at f
   rw[Dc.AU]
   rcases List.mem_append.mp f with f|f
   ·exact .inr (List.mem_append_left _ f)
   ·rcases List.mem_cons.mp (X.mem_iff.mp f)with f|f
    ·exact .inl f
    ·exact .inr (List.mem_append_right _ f)
  have M:Al H k (l++[e]):=by
   refine⟨B.same,(Dc.BW _ _).mpr ⟨EM,by simp only[Dc.DF];exact⟨ea,trivial⟩⟩,?_,fun c f=>?_,fun c f=>?_⟩
   ·have Y:=B.nd
    rw[Dc.AU]at Y i
    have:(Dc.AK l++(a::Dc.AK ec)).Nodup:=by
     obtain⟨x1,x2,x3⟩:=List.nodup_append.mp Y
     refine List.nodup_append.mpr ⟨x1,List.nodup_cons.mpr ⟨fun h=>i (List.mem_append_right _ h),x2⟩,fun x F y r N=>?_⟩
     subst N
     rcases List.mem_cons.mp r with r|r
     ·exact i (List.mem_append_left _ (by rw[<-r];exact F))
     ·exact x3 x F x r rfl
    rw[m]
    exact((List.Perm.append_left _ X).nodup_iff).mpr this
   ·rcases s c f with rfl|f
    ·intro G u h;rw[D]at h;exact own G u h
    ·exact B.own c f
   ·rcases s c f with rfl|f
    ·exact K.2.1
    ·exact B.new c f
  refine C.bh (l++[e]) k (d1.app (by simp only[BN];exact⟨ev,el,trivial⟩)) M (fun c f=>?_) (fun b o Z O h=>?_)
  ·rw[E]
   rcases s c f with rfl|f
   ·exact .inr (by simp)
   ·rcases z c f with h|h
    ·left
     cases q:t c with
     |none=>rfl
     |some o=>
      have P:c≠a:=fun w=>n (by rw[<-w];exact h)
      have Q:c≠L:=fun w=>by rw[w,eL]at h;cases h
      rw[keep c o P Q q]at h
      cases h
    ·rw[BH]at h
     rcases List.mem_append.mp h with h|h
     ·exact .inr (by simp[h])
     ·exact .inl (v c h)
  ·rw[E]at O
   have R:b≠a:=fun w=>O (by simp[w])
   refine U b o Z ?_ (keep b o R Z h)
   rw[BH]
   intro w
   rcases List.mem_append.mp w with w|w
   ·exact O (by simp[w])
   ·rw[v b w]at h;cases h
theorem Ee.start {H i:Hp} {L:Addr} {d:Dc} {b:V} (s:AJ H i) (m:H L=none) (n:i L=some (.lst [b])) (o:Fl H i b d) (h:d.At H) (q:d.slim) (t:b≠.ref L):Ee H i L b d [(b,d)]:=by
 refine⟨s,m,n,fun p c=>by rw[List.mem_singleton.mp c];exact o,fun p c=>by rw[List.mem_singleton.mp c];exact⟨h,q⟩,?_,?_,fun u w f g z x=>?_⟩
 ·cases b<;>first|exact List.nodup_nil|exact List.nodup_cons.mpr ⟨(fun h=>nomatch h),List.nodup_nil⟩
 ·intro v
  obtain⟨p,c,e⟩:=BU.mp v
  rw[List.mem_singleton.mp c]at e
  exact t e
 ·cases u with
  |nil=>simp[BN]at f
  |cons e r=>
   cases r with
   |cons _ _=>simp[BN]at f
   |nil=>
    simp only[BN]at f
    have j:Dc.AK [e]=e.addrs:=by simp[Dc.AK]
    have l:=g.at_
    simp only[Dc.DF]at l
    have fn:=g.nd
    rw[j]at fn
    exact⟨e,f.1,f.2.1,g.same,l.1,fn,fun a k=>g.own a (by rw[j];exact k),fun a k=>g.new a (by rw[j];exact k)⟩
theorem Ee.done {H a:Hp} {L:Addr} {d:Dc} {f:V} (C:Ee H a L f d []):∃e:Dc,e.val=f/\Dc.BA d e/\Bf H a e:=
 C.bh [] a trivial (.nil C.same) (fun c g=>(nomatch g)) fun b o _ _ h=>h
theorem Ee.leaf {H j H2:Hp} {L:Addr} {d:Dc} {n v:V} {ps:List (V×Dc)} (C:Ee H j L n d (ps++[(v,.leaf v)])) (keep:∀b o,b≠L->j b=some o->H2 b=some o) (r:H2 L=some (.lst (ps.map (·.1)))):Ee H H2 L n d ps:=by
 have s:Dc.Lf v:=(show v=v/\Dc.Lf v from C.out (v,.leaf v) (by simp)).2
 have k:roots (ps++[(v,Dc.leaf v)])=roots ps:=by
  rw[BH]
  rcases s with⟨i,rfl⟩|⟨x,rfl,_⟩<;>simp[roots,rootOf]
 have nd:=C.nd
 have Sd:=C.Sd
 rw[k]at nd Sd
 refine⟨fun b o e=>keep b o (Ap e C.nL) (C.same b o e),C.nL,r,fun p f=>?_,fun p f=>C.src p (by simp[f]),nd,Sd,fun l B D a z E=>?_⟩
 ·refine(C.out p (by simp[f])).up fun c e u h=>keep c u (fun w=>Sd ?_) h
  rw[<-w]
  exact BU.mpr ⟨p,f,e⟩
 ·have g:Dc.AK (l++[.leaf v])=Dc.AK l:=by rw[Dc.AU];simp[Dc.AK,Dc.addrs]
  refine C.bh (l++[.leaf v]) B (D.app (by simp[BN,Dc.val,Dc.BA])) ⟨a.same,(Dc.BW _ _).mpr ⟨a.at_,by simp only[Dc.DF,Dc.At];exact⟨s,trivial⟩⟩,by rw[g];exact a.nd,by rw[g];exact a.own,by rw[g];exact a.new⟩ (fun c t=>?_) (fun b o y A h=>?_)
  ·rw[g]at t
   rw[k]
   rcases z c t with h|h
   ·left
    cases q:j c with
    |none=>rfl
    |some o=>
     have m:c≠L:=fun w=>by rw[w,r]at h;cases h
     rw[keep c o m q]at h
     cases h
   ·exact .inr h
  ·rw[k]at A
   exact E b o y A (keep b o y h)
def Hr (H:Hp) (Q:VK):Dc->Prop
 | .leaf v=>Q v H
 | .row _ xs=>∀p,H p=none->Q (.ref p) (upd H p (.lst (xs.map Dc.val)))
 | .tab _ ks xs=>∀p,H p=none->Q (.ref p) (upd H p (.dK (Dc.kvs ks xs)))
inductive OA (vs:List V) (H:Hp) (Q:VK) (a:XK):Prop
 |mk (d:Dc) (b:vs=[d.val]) (c:d.At H) (e:Hr H Q d):OA vs H Q a
def MU:Sp:=fun b H Q a=>OA b H Q a
inductive LQ (vs:List V) (H:Hp) (Q:VK) (a:XK):Prop
 |mk (d:Dc) (c:vs=[d.val]) (e:d.At H) (f:d.slim) (g:d.size<=900) (h:∀(d':Dc) (b:Hp),Bf H b d'->Dc.BA d d'->Q d'.val b):LQ vs H Q a
def Jv:Sp:=fun b H Q a=>LQ b H Q a
theorem Hr.of {j H:Hp} {Q:VK} {d:Dc} (s:AJ j H) (h:d.At H) (k:∀f g,AJ H g->Fl j g f d->(∀a,f=.ref a->H a=none)->Q f g):Hr H Q d:=by
 cases d with
 |leaf v=>
  refine k v H (AJ.refl H) ⟨rfl,h⟩ fun a e=>?_
  rcases(show Dc.Lf v from h)with⟨i,rfl⟩|⟨x,rfl,_⟩<;>cases e
 |row b xs=>exact fun p c=>k _ _ (AJ.new c) ⟨p,rfl,AF,s.free c⟩ fun a e=>by cases e;exact c
 |tab b l xs=>exact fun p c=>k _ _ (AJ.new c) ⟨p,rfl,AF,s.free c⟩ fun a e=>by cases e;exact c
def EN (ks:List Str) (vs:List V):List (Key×V):=(ks.zip vs).map fun p=>(Sum.inr p.1,p.2)
theorem OB (ks:List Str) (xs:List Dc):Dc.kvs ks xs=EN ks (xs.map Dc.val):=rfl
theorem VS {ks:List Str} {vs:List V} (h:ks.length=vs.length):(EN ks vs).length=ks.length:=by
 unfold EN
 rw[List.length_map,List.length_zip]
 lia
theorem Jw:∀{ks:List Str} {vs:List V} {j:Nat} {k:Str},ks.length=vs.length->ks.Nodup->ks[j]?=some k->Ct (EN ks vs) (Sum.inr k)=vs[j]?
 |[],_,_,_,_,_,h=>by simp at h
 |y::r,[],_,_,h,_,_=>by simp at h
 |y::r,v::vs,0,k,_,_,h=>by
  simp at h
  subst h
  exact Fc rfl
 |y::r,v::vs,j+1,k,b,c,h=>by
  obtain⟨n1,n2⟩:=List.nodup_cons.mp c
  have a:r[j]?=some k:=by simpa using h
  have d:¬(Sum.inr y:Key)=Sum.inr k:=fun z=>n1 (by rw[Sum.inr.inj z];exact ACG a)
  show Ct ((Sum.inr y,v)::EN r vs) (Sum.inr k)=_
  rw[Fe d,Jw (by simpa using b) n2 a]
  simp
theorem VT {ks:List Str} {vs:List V} {j:Nat} {k:Str} (b:ks.length=vs.length) (d:ks.Nodup) (h:ks[j]?=some k) (c:V):putK (EN ks vs) (Sum.inr k) c=EN ks (vs.set j c):=by
 have g:j<vs.length:=by rw[<-b];exact(ACE h).1
 have i:Ct (EN ks vs) (Sum.inr k)=some vs[j]:=by rw[Jw b d h,ACD g]
 unfold putK
 rw[if_pos (by rw[Ff,i];rfl)]
 have gen:∀(ks:List Str) (vs:List V) (j:Nat),ks.length=vs.length->ks.Nodup->ks[j]?=some k->(EN ks vs).map (fun a=>if a.1=Sum.inr k then(a.1,c)else a)=EN ks (vs.set j c):=by
  intro ks
  induction ks with
  |nil=>intro vs j _ _ h;simp at h
  |cons y r l=>
   intro vs j b d h
   cases vs with
   |nil=>simp at b
   |cons v vs=>
    obtain⟨e,m⟩:=List.nodup_cons.mp d
    cases j with
    |zero=>
     simp at h
     subst h
     have n:(EN r vs).map (fun a=>if a.1=Sum.inr y then(a.1,c)else a)=EN r vs:=by
      have:∀p∈EN r vs,(fun a:Key×V=>if a.1=Sum.inr y then(a.1,c)else a) p=id p:=fun p o=>by
       obtain⟨q,s,rfl⟩:=List.mem_map.mp o
       have t:q.1∈r:=(List.of_mem_zip s).1
       exact if_neg fun z=>e (by rw[<-Sum.inr.inj z];exact t)
      rw[List.map_congr_left this,List.map_id]
     show(if(Sum.inr y:Key)=Sum.inr y then(Sum.inr y,c)else(Sum.inr y,v))::(EN r vs).map _=(Sum.inr y,c)::EN r vs
     rw[if_pos rfl,n]
    |succ j=>
     have f:r[j]?=some k:=by simpa using h
     have u:¬(Sum.inr y:Key)=Sum.inr k:=fun z=>e (by rw[Sum.inr.inj z];exact ACG f)
     show(if(Sum.inr y:Key)=Sum.inr k then(Sum.inr y,c)else(Sum.inr y,v))::(EN r vs).map _=(Sum.inr y,v)::EN r (vs.set j c)
     rw[if_neg u,l vs j (by simpa using b) m f]
 exact gen ks vs j b d h
theorem reorder {ks ss:List Str} {ec:List Dc} (p:ss.Perm ks) (q:ss.Nodup) (l:ec.length=ss.length):∃a:List Dc,a.Perm ec/\a.length=ks.length/\∀(j t:Nat) k,ks[j]?=some k->ss[t]?=some k->a[j]?=ec[t]?:=by
 have c:∀k∈ks,∃x,(ss.zip ec).lookup k=some x:=fun k s=>let⟨x,h,_⟩:=Dc.DO l.symm (p.mem_iff.mpr s);⟨x,h⟩
 have gen:∀ks:List Str,(∀k∈ks,∃x,(ss.zip ec).lookup k=some x)->∃a:List Dc,a.map some=ks.map fun k=>(ss.zip ec).lookup k:=by
  intro ks
  induction ks with
  |nil=>exact fun _=>⟨[],rfl⟩
  |cons k r u=>
   intro h
   obtain⟨x,v⟩:=h k List.mem_cons_self
   obtain⟨a,d⟩:=u fun w e=>h w (List.mem_cons_of_mem _ e)
   exact⟨x::a,by simp[d,v]⟩
 obtain⟨a,f⟩:=gen ks c
 have b:ec.map some=ss.map fun k=>(ss.zip ec).lookup k:=by
  refine List.ext_getElem? fun i=>?_
  rw[List.getElem?_map,List.getElem?_map]
  cases g:ss[i]? with
  |none=>
   have:ec[i]?=none:=List.getElem?_eq_none_iff.mpr (by rw[l];exact List.getElem?_eq_none_iff.mp g)
   rw[this]
   rfl
  |some k=>
   have m:i<ec.length:=by rw[l];exact(ACE g).1
   rw[ACD m]
   show some (some ec[i])=some ((ss.zip ec).lookup k)
   rw[Dc.Ju ss ec i q g (ACD m)]
 refine⟨a,?_,?_,fun j t k y d=>?_⟩
 ·have A:(a.map some).Perm (ec.map some):=by rw[f,b];exact(p.map _).symm
  have B:=A.filterMap id
  simpa using B
 ·have:=congrArg List.length f
  simpa using this
 ·have n:=congrArg (fun z=>z[j]?) f
  simp only[List.getElem?_map,y]at n
  have o:=congrArg (fun z=>z[t]?) b
  simp only[List.getElem?_map,d]at o
  have C:a[j]?.map some=ec[t]?.map some:=n.trans o.symm
  cases D:a[j]?<;>cases E:ec[t]?<;>simp_all
theorem IM {xs ys:List Dc} (p:xs.Perm ys):(Dc.AK xs).Perm (Dc.AK ys):=by
 induction p with
 |nil=>exact .refl _
 |cons x _ a=>simp only[Dc.AK];exact a.append_left _
 |swap x y l=>
  simp only[Dc.AK,<-List.append_assoc]
  exact(List.perm_append_comm).append_right _
 |trans _ _ b c=>exact b.trans c
theorem VU {H:Hp} {xs ys:List Dc} (p:xs.Perm ys) (h:Dc.DF H ys):Dc.DF H xs:=by
 have gen:∀l:List Dc,(∀x∈l,x.At H)->Dc.DF H l:=by
  intro l
  induction l with
  |nil=>intro _;trivial
  |cons x r a=>intro h;simp only[Dc.DF];exact⟨h x List.mem_cons_self,a fun y b=>h y (List.mem_cons_of_mem _ b)⟩
 exact gen xs fun x c=>Dc.CV h x (p.mem_iff.mp c)
theorem OC:∀{xs ys:List Dc},xs.length=ys.length->(∀(i:Nat) x y,xs[i]?=some x->ys[i]?=some y->Dc.BA x y)->Dc.Aj xs ys
 |[],[],_,_=>by simp[Dc.Aj]
 |[],_::_,h,_=>by simp at h
 |_::_,[],h,_=>by simp at h
 |x::r,y::t,h,k=>by
  simp only[Dc.Aj]
  exact⟨k 0 x y rfl rfl,OC (by simpa using h) fun i a b c d=>k (i+1) a b (by simpa using c) (by simpa using d)⟩
theorem Se {H b:Hp} {d:Dc} {a:V} (c:d.At H) (o:Fl H b a d) {L:Addr} (e:a=.ref L):b L≠none:=(Fl.root (p:=(a,d)) o e).1
theorem HH {b:List V} {xs:List Dc} {c:V} {x:Dc} {i:Nat} (l:b.length=i) (a:xs[i]?=some x):(b++[c]).zip xs=b.zip xs++[(c,x)]:=by
 induction b generalizing xs i with
 |nil=>
  cases xs with
  |nil=>simp at a
  |cons y t=>
   simp at l
   subst l
   simp at a
   subst a
   simp
 |cons z r d=>
  cases xs with
  |nil=>simp at a
  |cons y t=>
   cases i with
   |zero=>simp at l
   |succ i=>
    simp only[List.cons_append,List.zip_cons_cons]
    rw[d (by simpa using l) (by simpa using a)]
namespace Dc
inductive Eqv:Dc->Dc->Prop where
 |leaf (v:V):Eqv (leaf v) (leaf v)
 |row {a b:Addr} {xs ys:List Dc} (l:xs.length=ys.length) (h:∀(i:Nat) x y,xs[i]?=some x->ys[i]?=some y->Eqv x y):Eqv (row a xs) (row b ys)
 |tab {a b:Addr} {ks c:List Str} {xs ys:List Dc} (p:ks.Perm c) (h:∀k x y,(ks.zip xs).lookup k=some x->(c.zip ys).lookup k=some y->Eqv x y):Eqv (tab a ks xs) (tab b c ys)
theorem VW {ks:List Str}:∀{xs ys:List Dc},Aj xs ys->∀{k:Str} {x y:Dc},(ks.zip xs).lookup k=some x->(ks.zip ys).lookup k=some y->∃i:Nat,xs[i]?=some x/\ys[i]?=some y:=by
 induction ks with
 |nil=>intro xs ys _ k x y h;simp at h
 |cons z r d=>
  intro xs ys c k x y a b
  cases xs with
  |nil=>simp at a
  |cons j xs=>
   cases ys with
   |nil=>simp at b
   |cons l ys=>
    simp only[Aj]at c
    simp only[List.zip_cons_cons,List.lookup_cons]at a b
    by_cases e:k=z
    ·subst e
     simp at a b
     exact⟨0,by simp[a],by simp[b]⟩
    ·have:(k==z)=false:=by simpa using e
     rw[this]at a b
     obtain⟨i,f,g⟩:=d c.2 a b
     exact⟨i+1,by simpa using f,by simpa using g⟩
mutual
theorem HI:∀d e:Dc,BA d e->Eqv d e
 |leaf v,e,h=>by
  cases e with
  |leaf w=>
   have:v=w:=by simpa[BA]using h
   subst this;exact .leaf v
  |_=>simp[BA]at h
 |row a xs,e,h=>by
  cases e with
  |row b c=>
   simp only[BA]at h
   exact .row (HE h) (Hs xs c h)
  |_=>simp[BA]at h
 |tab a m xs,e,h=>by
  cases e with
  |tab b n c=>
   simp only[BA]at h
   obtain⟨rfl,h⟩:=h
   refine .tab (.refl _) fun k x y f g=>?_
   obtain⟨i,j,l⟩:=VW h f g
   exact Hs xs c h i x y j l
  |_=>simp[BA]at h
theorem Hs:∀xs ys:List Dc,Aj xs ys->∀(i:Nat) x y,xs[i]?=some x->ys[i]?=some y->Eqv x y
 |[],_,_,i,x,y,h,_=>by simp at h
 |_::_,[],h,_,_,_,_,_=>by simp[Aj]at h
 |c::r,d::t,h,0,x,y,a,b=>by
  simp only[Aj]at h
  simp at a b
  subst a b
  exact HI _ _ h.1
 |c::r,d::t,h,i+1,x,y,a,b=>by
  simp only[Aj]at h
  exact Hs r t h.2 i x y (by simpa using a) (by simpa using b)
end
theorem Eqv.symm {d e:Dc} (h:Eqv d e):Eqv e d:=by
 induction h with
 |leaf v=>exact .leaf v
 |row l _ a=>exact .row l.symm fun i x y b c=>a i y x c b
 |tab p _ a=>exact .tab p.symm fun k x y b c=>a k y x c b
inductive Wf:Dc->Prop where
 |leaf (v:V):Wf (leaf v)
 |row {a:Addr} {xs:List Dc} (h:∀x∈xs,Wf x):Wf (row a xs)
 |tab {a:Addr} {ks:List Str} {xs:List Dc} (l:ks.length=xs.length) (n:ks.Nodup) (h:∀x∈xs,Wf x):Wf (tab a ks xs)
mutual
theorem EA {H:Hp}:∀d:Dc,d.At H->d.Wf
 |leaf v,_=>.leaf v
 |row a xs,h=>by simp only[At]at h;exact .row (Pj xs h.2)
 |tab a ks xs,h=>by simp only[At]at h;exact .tab h.2.1 h.2.2.1 (Pj xs h.2.2.2)
theorem Pj {H:Hp}:∀xs:List Dc,DF H xs->∀x∈xs,x.Wf
 |[],_,x,a=>nomatch a
 |y::r,h,x,a=>by
  simp only[DF]at h
  have b:=EA y h.1
  have c:=Pj r h.2
  rcases List.mem_cons.mp a with e|a
  ·rw[e];exact b
  ·exact c x a
end
def ix (ks:List Str) (k:Str):Nat:=ks.findIdx (·==k)
theorem Gh {ks:List Str} {k:Str} (h:k∈ks):ks[ix ks k]?=some k:=by
 have a:ix ks k<ks.length:=List.findIdx_lt_length_of_exists ⟨k,h,by simp⟩
 rw[ACD a]
 have b:(ks[ix ks k]==k)=true:=List.findIdx_getElem (w:=a)
 exact congrArg some (eq_of_beq b)
theorem B_ {ks:List Str} {xs:List Dc} {k:Str} {x:Dc} (l:ks.length=xs.length) (n:ks.Nodup) (h:(ks.zip xs).lookup k=some x):xs[ix ks k]?=some x:=by
 have b:=(Ae h).1
 have e:=Gh b
 have c:=(ACE e).1
 obtain⟨y,a⟩:∃y,xs[ix ks k]?=some y:=⟨_,ACD (by rw[<-l];exact c)⟩
 have:=Ju ks xs _ n e a
 rw[h]at this
 cases this
 exact a
def Au:Dc->List V->Dc->Dc
 |_,[],n=>n
 |row a xs,.int i::r,n=>row a (match xs[i.toNat]? with|some x=>xs.set i.toNat (Au x r n)|none=>xs)
 |tab a ks xs,.str k::r,n=>tab a ks (match xs[ix ks k]? with|some x=>xs.set (ix ks k) (Au x r n)|none=>xs)
 |d,_::_,_=>d
theorem DR {a:Addr} {xs:List Dc} {i:Nat} {x:Dc} (h:xs[i]?=some x) (r:List V) (n:Dc):Au (row a xs) (.int (i:Int)::r) n=row a (xs.set i (Au x r n)):=by
 simp only[Au,Int.toNat_natCast,h]
theorem Ca {a:Addr} {ks:List Str} {xs:List Dc} {k:Str} {x:Dc} (h:xs[ix ks k]?=some x) (r:List V) (n:Dc):Au (tab a ks xs) (.str k::r) n=tab a ks (xs.set (ix ks k) (Au x r n)):=by
 simp only[Au,h]
theorem Br {d:Dc} {z:V} {r:List V} {e:Dc} (h:d.sub (z::r)=some e):(∃a xs i x,d=row a xs/\z=.int ((i:Nat):Int)/\xs[i]?=some x/\x.sub r=some e)∨∃a ks xs k x,d=tab a ks xs/\z=.str k/\(ks.zip xs).lookup k=some x/\x.sub r=some e:=by
 cases d with
 |leaf v=>simp[sub]at h
 |row a xs=>
  cases z with
  |int i=>
   simp only[sub]at h
   by_cases c:0<=i
   ·rw[if_pos c]at h
    cases b:xs[i.toNat]? with
    |none=>rw[b]at h;simp at h
    |some x=>rw[b]at h;exact .inl ⟨a,xs,i.toNat,x,rfl,by rw[Int.toNat_of_nonneg c],b,h⟩
   ·rw[if_neg c]at h;simp at h
  |_=>simp[sub]at h
 |tab a ks xs=>
  cases z with
  |str k=>
   simp only[sub]at h
   cases b:(ks.zip xs).lookup k with
   |none=>rw[b]at h;simp at h
   |some x=>rw[b]at h;exact .inr ⟨a,ks,xs,k,x,rfl,rfl,b,h⟩
  |_=>simp[sub]at h
theorem Ba (d:Dc):d.sub []=some d:=by cases d<;>rfl
theorem GG {a:Addr} {xs:List Dc} {i:Nat} {x:Dc} (h:xs[i]?=some x) (r:List V):(row a xs).sub (.int (i:Int)::r)=x.sub r:=by
 simp only[sub]
 rw[if_pos (by lia),Int.toNat_natCast,h]
 rfl
theorem EB {a:Addr} {ks:List Str} {xs:List Dc} {k:Str} {x:Dc} (h:(ks.zip xs).lookup k=some x) (r:List V):(tab a ks xs).sub (.str k::r)=x.sub r:=by
 simp only[sub,h]
 rfl
theorem BI.sub {us:List V}:∀{d e:Dc},d.sub us=some e->BI e d:=by
 induction us with
 |nil=>intro d e h;rw[Ba]at h;cases h;exact .refl d
 |cons z r f=>
  intro d e h
  rcases Br h with⟨a,xs,i,x,rfl,rfl,b,c⟩|⟨a,g,xs,k,x,rfl,rfl,b,c⟩
  ·exact(f c).trans (.row (ACG b))
  ·exact(f c).trans (.tab (Ae b).2)
theorem Ef {us:List V}:∀{d e n:Dc},d.sub us=some e->n.val=e.val->(Au d us n).val=d.val:=by
 induction us with
 |nil=>intro d e n h b;rw[Ba]at h;cases h;cases d<;>exact b
 |cons z r g=>
  intro d e n h b
  rcases Br h with⟨a,xs,i,x,rfl,rfl,c,f⟩|⟨a,j,xs,k,x,rfl,rfl,c,f⟩
  ·rw[DR c];rfl
  ·simp only[Au];rfl
theorem IP {xs:List Dc} {i:Nat} {x y:Dc} (h:xs[i]?=some x) (e:y.val=x.val):(xs.set i y).map val=xs.map val:=by
 refine List.ext_getElem? fun j=>?_
 rw[List.getElem?_map,List.getElem?_map]
 by_cases a:i=j
 ·subst a
  rw[List.getElem?_set_self (ACE h).1,h]
  exact congrArg some e
 ·rw[List.getElem?_set_ne a]
theorem CW {xs:List Dc} {i:Nat} {x:Dc} (h:xs[i]?=some x):∃l r,xs=l++x::r/\∀y,xs.set i y=l++y::r:=by
 have a:=(ACE h).1
 have b:=(ACE h).2
 refine⟨xs.take i,xs.drop (i+1),?_,fun y=>List.set_eq_take_append_cons_drop .. |>.trans (if_pos a)⟩
 rw[<-b,List.getElem_cons_drop,List.take_append_drop]
theorem DG {us:List V}:∀{d e n:Dc},d.Wf->d.addrs.Nodup->d.sub us=some e->∃l r,d.addrs=l++e.addrs++r/\(Au d us n).addrs=l++n.addrs++r:=by
 induction us with
 |nil=>intro d e n _ _ h;rw[Ba]at h;cases h;exact⟨[],[],by simp,by cases d<;>simp[Au]⟩
 |cons z r v=>
  intro d e n w b h
  rcases Br h with⟨a,xs,i,x,rfl,rfl,g,m⟩|⟨a,B,xs,k,x,rfl,rfl,g,m⟩
  ·cases w with
   |row o=>
    obtain⟨l,t,j,p⟩:=CW g
    simp only[addrs,List.nodup_cons]at b
    rw[j,AU]at b
    simp only[AK]at b
    have c:x.addrs.Nodup:=((List.nodup_append.mp (List.nodup_append.mp b.2).2.1)).1
    obtain⟨l2,q,s,u⟩:=v (n:=n) (o x (ACG g)) c m
    refine⟨a::(AK l++l2),q++AK t,?_,?_⟩
    ·simp only[addrs];rw[j,AU];simp only[AK];rw[s];simp
    ·rw[DR g];simp only[addrs];rw[p,AU];simp only[AK];rw[u];simp
  ·cases w with
   |tab y A o=>
    have f:=B_ y A g
    obtain⟨l,t,j,p⟩:=CW f
    simp only[addrs,List.nodup_cons]at b
    rw[j,AU]at b
    simp only[AK]at b
    have c:x.addrs.Nodup:=((List.nodup_append.mp (List.nodup_append.mp b.2).2.1)).1
    obtain⟨l2,q,s,u⟩:=v (n:=n) (o x (ACG f)) c m
    refine⟨a::(AK l++l2),q++AK t,?_,?_⟩
    ·simp only[addrs];rw[j,AU];simp only[AK];rw[s];simp
    ·rw[Ca f];simp only[addrs];rw[p,AU];simp only[AK];rw[u];simp
theorem YZ {H E:Hp} {us:List V}:∀{d e n:Dc},d.addrs.Nodup->d.sub us=some e->n.val=e.val->n.At E->(∀a∈d.addrs,a∉e.addrs->∀o,H a=some o->E a=some o)->d.At H->(Au d us n).At E:=by
 induction us with
 |nil=>intro d e n _ h _ G _ _;rw[Ba]at h;cases h;cases d<;>exact G
 |cons z r R=>
  intro d e n D h I G f q
  have PE:=BI.sub h
  rcases Br h with⟨a,xs,i,x,rfl,rfl,F,u⟩|⟨a,J,xs,k,x,rfl,rfl,F,u⟩
  ·obtain⟨l,t,s,K⟩:=CW F
   have v:=BI.sub u
   simp only[At]at q
   simp only[addrs,List.nodup_cons]at D
   have L:a∉e.addrs:=fun z=>D.1 (by rw[s,AU];simp only[AK];exact List.mem_append_right _ (List.mem_append_left _ (v.addrs a z)))
   have g:=D.2
   rw[s,AU]at g
   simp only[AK]at g
   obtain⟨S,M,N⟩:=List.nodup_append.mp g
   obtain⟨O,T,P⟩:=List.nodup_append.mp M
   have p:=q.2
   rw[s]at p
   obtain⟨Q,w⟩:=(BW _ _).mp p
   simp only[DF]at w
   have y:∀c,c∈AK xs->c∉e.addrs->∀o,H c=some o->E c=some o:=fun c b A o j=>f c (by simp only[addrs];exact List.mem_cons_of_mem _ b) A o j
   have m:∀c,c∈AK l∨c∈x.addrs∨c∈AK t->c∈AK xs:=fun c b=>by
    rw[s,AU]
    simp only[AK,List.mem_append]
    exact b
   have B:=R (n:=n) O u I G (fun c b A o j=>y c (m c (.inr (.inl b))) A o j) w.1
   rw[DR F]
   simp only[At]
   refine⟨?_,?_⟩
   ·rw[IP F (Ef u I)]
    exact q.1.up (f a (by simp[addrs]) L)
   ·rw[K]
    refine(BW _ _).mpr ⟨BL l (fun c b o j=>y c (m c (.inl b)) (fun z=>N c b c (List.mem_append_left _ (v.addrs c z)) rfl) o j) Q,?_⟩
    simp only[DF]
    exact⟨B,BL t (fun c b o j=>y c (m c (.inr (.inr b))) (fun z=>P c (v.addrs c z) c b rfl) o j) w.2⟩
  ·simp only[At]at q
   have C:=B_ q.2.1 q.2.2.1 F
   obtain⟨l,t,s,K⟩:=CW C
   have v:=BI.sub u
   simp only[addrs,List.nodup_cons]at D
   have L:a∉e.addrs:=fun z=>D.1 (by rw[s,AU];simp only[AK];exact List.mem_append_right _ (List.mem_append_left _ (v.addrs a z)))
   have g:=D.2
   rw[s,AU]at g
   simp only[AK]at g
   obtain⟨S,M,N⟩:=List.nodup_append.mp g
   obtain⟨O,T,P⟩:=List.nodup_append.mp M
   have p:=q.2.2.2
   rw[s]at p
   obtain⟨Q,w⟩:=(BW _ _).mp p
   simp only[DF]at w
   have y:∀c,c∈AK xs->c∉e.addrs->∀o,H c=some o->E c=some o:=fun c b A o j=>f c (by simp only[addrs];exact List.mem_cons_of_mem _ b) A o j
   have m:∀c,c∈AK l∨c∈x.addrs∨c∈AK t->c∈AK xs:=fun c b=>by
    rw[s,AU]
    simp only[AK,List.mem_append]
    exact b
   have B:=R (n:=n) O u I G (fun c b A o j=>y c (m c (.inr (.inl b))) A o j) w.1
   rw[Ca C]
   simp only[At]
   refine⟨?_,by rw[List.length_set];exact q.2.1,q.2.2.1,?_⟩
   ·have:kvs J (xs.set (ix J k) (Au x r n))=kvs J xs:=by unfold kvs;rw[IP C (Ef u I)]
    rw[this]
    exact q.1.up (f a (by simp[addrs]) L)
   ·rw[K]
    refine(BW _ _).mpr ⟨BL l (fun c b o j=>y c (m c (.inl b)) (fun z=>N c b c (List.mem_append_left _ (v.addrs c z)) rfl) o j) Q,?_⟩
    simp only[DF]
    exact⟨B,BL t (fun c b o j=>y c (m c (.inr (.inr b))) (fun z=>P c (v.addrs c z) c b rfl) o j) w.2⟩
def room:Dc->V->Bool
 |row _ xs,.int i=>decide (0<=i)&&decide (i<=(xs.length:Int))
 |tab _ ks _,.str k=> !ks.contains k
 |_,_=>false
def DS:Dc->V->Dc->Dc
 |row a xs,.int i,v=>row a (xs.take i.toNat++v::xs.drop i.toNat)
 |tab a ks xs,.str k,v=>tab a (ks++[k]) (xs++[v])
 |d,_,_=>d
def Bh:Dc->V->Dc
 |row a xs,.int i=>row a (xs.eraseIdx i.toNat)
 |tab a ks xs,.str k=>tab a (ks.eraseIdx (ix ks k)) (xs.eraseIdx (ix ks k))
 |d,_=>d
theorem sub_one {d:Dc} {z:V} {x:Dc} (h:d.sub [z]=some x):(∃a xs i,d=row a xs/\z=.int ((i:Nat):Int)/\xs[i]?=some x)∨∃a ks xs k,d=tab a ks xs/\z=.str k/\(ks.zip xs).lookup k=some x:=by
 rcases Br h with⟨a,xs,i,y,c,e,f,b⟩|⟨a,ks,xs,k,y,c,e,f,b⟩
 ·rw[Ba]at b;cases b;exact .inl ⟨a,xs,i,c,e,f⟩
 ·rw[Ba]at b;cases b;exact .inr ⟨a,ks,xs,k,c,e,f⟩
theorem Pk {e:Dc} {z:V} (h:e.room z=true):(∃a xs i,e=row a xs/\z=.int ((i:Nat):Int)/\i<=xs.length)∨∃a ks xs k,e=tab a ks xs/\z=.str k/\k∉ks:=by
 cases e with
 |leaf v=>cases z<;>simp[room]at h
 |row a xs=>
  cases z with
  |int i=>
   simp only[room,Bool.and_eq_true,decide_eq_true_eq]at h
   exact .inl ⟨a,xs,i.toNat,rfl,by rw[Int.toNat_of_nonneg h.1],by lia⟩
  |_=>simp[room]at h
 |tab a ks xs=>
  cases z with
  |str k=>
   simp only[room,Bool.not_eq_true',List.contains_eq_mem,decide_eq_false_iff_not]at h
   exact .inr ⟨a,ks,xs,k,rfl,rfl,h⟩
  |_=>simp[room]at h
theorem HJ (e:Dc) (z:V) (v:Dc):(DS e z v).val=e.val:=by
 cases e<;>cases z<;>rfl
theorem OD (e:Dc) (z:V):(Bh e z).val=e.val:=by
 cases e<;>cases z<;>rfl
theorem mem_set {xs:List Dc} {i:Nat} {y z:Dc} (h:z∈xs.set i y):z∈xs∨z=y:=List.mem_or_eq_of_mem_set h
theorem MV {us:List V}:∀{d e n:Dc},d.Wf->d.sub us=some e->n.Wf->(Au d us n).Wf:=by
 induction us with
 |nil=>intro d e n _ h j;cases d<;>exact j
 |cons z r o=>
  intro d e n w h j
  rcases Br h with⟨a,xs,i,x,rfl,rfl,l,m⟩|⟨a,q,xs,k,x,rfl,rfl,l,m⟩
  ·cases w with
   |row c=>
    rw[DR l]
    refine .row fun y b=>?_
    rcases mem_set b with b|rfl
    ·exact c y b
    ·exact o (c x (ACG l)) m j
  ·cases w with
   |tab p f c=>
    have g:=B_ p f l
    rw[Ca g]
    refine .tab (by rw[List.length_set];exact p) f fun y b=>?_
    rcases mem_set b with b|rfl
    ·exact c y b
    ·exact o (c x (ACG g)) m j
theorem LR {xs:List Dc} {i:Nat} {x y:Dc} (h:xs[i]?=some x):Ab (xs.set i y)+x.size=Ab xs+y.size:=by
 obtain⟨l,t,a,b⟩:=CW h
 rw[b,a,Bq,Bq]
 simp only[Ab]
 lia
theorem Sf {us:List V}:∀{d e n:Dc},d.Wf->d.sub us=some e->(Au d us n).size+e.size=d.size+n.size:=by
 induction us with
 |nil=>intro d e n _ h;rw[Ba]at h;cases h;cases d<;>simp only[Au]<;>lia
 |cons z r l=>
  intro d e n w h
  rcases Br h with⟨a,xs,i,x,rfl,rfl,c,f⟩|⟨a,o,xs,k,x,rfl,rfl,c,f⟩
  ·cases w with
   |row g=>
    have:=l (n:=n) (g x (ACG c)) f
    have:=LR (y:=Au x r n) c
    rw[DR c]
    simp only[size]
    lia
  ·cases w with
   |tab m j g=>
    have b:=B_ m j c
    have:=l (n:=n) (g x (ACG b)) f
    have:=LR (y:=Au x r n) b
    rw[Ca b]
    simp only[size]
    lia
theorem Eqv.sub {us:List V}:∀{d d' e:Dc},d.Wf->d'.Wf->Eqv d d'->d.sub us=some e->∃f,d'.sub us=some f/\Eqv e f:=by
 induction us with
 |nil=>intro d d' e _ _ q h;rw[Ba]at h;cases h;exact⟨d',Ba d',q⟩
 |cons z r v=>
  intro d d' e w A q h
  rcases Br h with⟨a,xs,i,x,rfl,rfl,c,j⟩|⟨a,E,xs,k,x,rfl,rfl,c,j⟩
  ·cases q with
   |@row _ b _ B l m=>
    cases w with
    |row n=>
     cases A with
     |row o=>
      obtain⟨y,g⟩:∃y,B[i]?=some y:=⟨_,ACD (by rw[<-l];exact(ACE c).1)⟩
      obtain⟨f,s,t⟩:=v (n x (ACG c)) (o y (ACG g)) (m i x y c g) j
      exact⟨f,by rw[GG g];exact s,t⟩
  ·cases q with
   |@tab _ b _ F _ B p m=>
    cases w with
    |tab G H n=>
     cases A with
     |tab u C o=>
      obtain⟨y,g,D⟩:=DO u (p.mem_iff.mp (Ae c).1)
      obtain⟨f,s,t⟩:=v (n x (Ae c).2) (o y D) (m k x y c g) j
      exact⟨f,by rw[EB g];exact s,t⟩
theorem Gi {ks:List Str} {xs:List Dc} {k a:Str} {x y z:Dc} (l:ks.length=xs.length) (n:ks.Nodup) (f:(ks.zip xs).lookup k=some x) (h:(ks.zip (xs.set (ix ks k) y)).lookup a=some z):(a=k/\z=y)∨(a≠k/\(ks.zip xs).lookup a=some z):=by
 have l2:ks.length=(xs.set (ix ks k) y).length:=by rw[List.length_set];exact l
 have c:=B_ l2 n h
 have i:=(Ae f).1
 have b:=(Ae h).1
 by_cases e:a=k
 ·subst e
  rw[List.getElem?_set_self (ACE (B_ l n f)).1]at c
  exact .inl ⟨rfl,(ACF c).symm⟩
 ·right
  refine⟨e,?_⟩
  have d:ix ks k≠ix ks a:=fun w=>e (by have g:=Gh i;have j:=Gh b;rw[w,j]at g;exact ACF g)
  rw[List.getElem?_set_ne d]at c
  exact Ju ks xs _ n (Gh b) c
theorem Eqv.Au {us:List V}:∀{d d' e n v:Dc},d.Wf->d'.Wf->Eqv d d'->d.sub us=some e->Eqv n v->Eqv (Dc.Au d us n) (Dc.Au d' us v):=by
 induction us with
 |nil=>intro d d' e n v _ _ _ _ q;cases d<;>cases d'<;>exact q
 |cons z r I=>
  intro d d' e n v w J q h K
  rcases Br h with⟨a,xs,i,x,rfl,rfl,c,A⟩|⟨a,S,xs,k,x,rfl,rfl,c,A⟩
  ·cases q with
   |@row _ b _ L l t=>
    cases w with
    |row B=>
     cases J with
     |row C=>
      obtain⟨y,f⟩:∃y,L[i]?=some y:=⟨_,ACD (by rw[<-l];exact(ACE c).1)⟩
      rw[DR c,DR f]
      refine .row (by rw[List.length_set,List.length_set];exact l) fun j D E s m=>?_
      by_cases u:i=j
      ·subst u
       rw[List.getElem?_set_self (ACE c).1]at s
       rw[List.getElem?_set_self (ACE f).1]at m
       cases s;cases m
       exact I (B x (ACG c)) (C y (ACG f)) (t i x y c f) A K
      ·rw[List.getElem?_set_ne u]at s m
       exact t j D E s m
  ·cases q with
   |@tab _ b _ T _ L p t=>
    cases w with
    |tab M N B=>
     cases J with
     |tab g o C=>
      obtain⟨y,f,O⟩:=DO g (p.mem_iff.mp (Ae c).1)
      have F:=B_ M N c
      have G:=B_ g o f
      rw[Ca F,Ca G]
      refine .tab p fun k2 D E s m=>?_
      rcases Gi M N c s with⟨rfl,rfl⟩|⟨H,P⟩
      ·rcases Gi g o f m with⟨_,rfl⟩|⟨H,_⟩
       ·exact I (B x (Ae c).2) (C y O) (t k2 x y c f) A K
       ·exact absurd rfl H
      ·rcases Gi g o f m with⟨Q,_⟩|⟨_,R⟩
       ·exact absurd Q H
       ·exact t k2 D E P R
end Dc
theorem Gj {a:Type} {l:List a} {i:Nat} (h:i<l.length):(l[i]::l.eraseIdx i).Perm l:=by
 have b:l=l.take i++l[i]::l.drop (i+1):=by rw[List.getElem_cons_drop,List.take_append_drop]
 rw[List.eraseIdx_eq_take_drop_succ]
 exact(List.perm_middle.symm).trans (by rw[<-b])
namespace Dc
theorem LS {ks:List Str} {xs:List Dc} (l:ks.length=xs.length) (n:ks.Nodup) {k a:Str} (f:k∈ks):((ks.eraseIdx (ix ks k)).zip (xs.eraseIdx (ix ks k))).lookup a=if a=k then none else(ks.zip xs).lookup a:=by
 induction ks generalizing xs with
 |nil=>cases f
 |cons y r g=>
  cases xs with
  |nil=>simp at l
  |cons x t=>
   obtain⟨h,i⟩:=List.nodup_cons.mp n
   by_cases e:y=k
   ·subst e
    have c:ix (y::r) y=0:=by simp[ix,List.findIdx_cons]
    rw[c]
    simp only[List.eraseIdx_zero,List.tail_cons,List.zip_cons_cons,List.lookup_cons]
    by_cases b:a=y
    ·subst b
     rw[if_pos rfl]
     cases q:(r.zip t).lookup a with
     |none=>rfl
     |some z=>exact absurd (Ae q).1 h
    ·rw[if_neg b]
     have:(a==y)=false:=by simpa using b
     rw[this]
   ·have d:k∈r:=(List.mem_cons.mp f).resolve_left (fun z=>e z.symm)
    have c:ix (y::r) k=ix r k+1:=by
     have:(y==k)=false:=by simpa using e
     simp[ix,List.findIdx_cons,this]
    rw[c]
    simp only[List.eraseIdx_cons_succ,List.zip_cons_cons,List.lookup_cons]
    by_cases b:a=y
    ·subst b
     rw[if_neg e]
     simp
    ·have:(a==y)=false:=by simpa using b
     rw[this]
     exact g (by simpa using l) i d
theorem OE {ks:List Str} {k:Str} (h:k∈ks):ix ks k<ks.length:=(ACE (Gh h)).1
theorem JB {e x:Dc} {z:V} (d:e.Wf) (h:e.sub [z]=some x):(Bh e z).Wf:=by
 rcases sub_one h with⟨a,xs,i,rfl,rfl,f⟩|⟨a,m,xs,k,rfl,rfl,f⟩
 ·cases d with
  |row b=>exact .row fun y c=>b y (List.mem_of_mem_eraseIdx c)
 ·cases d with
  |tab g l b=>
   have j:=OE (Ae f).1
   refine .tab ?_ (List.Nodup.sublist (List.eraseIdx_sublist _ _) l) fun y c=>b y (List.mem_of_mem_eraseIdx c)
   rw[List.length_eraseIdx_of_lt j,List.length_eraseIdx_of_lt (by rw[<-g];exact j),g]
theorem IQ {xs:List Dc} {i:Nat} {x:Dc} (h:xs[i]?=some x):Ab (xs.eraseIdx i)+x.size=Ab xs:=by
 obtain⟨l,t,c,d⟩:=CW h
 have e:=(ACE h).1
 have a:xs.eraseIdx i=xs.take i++xs.drop (i+1):=List.eraseIdx_eq_take_drop_succ ..
 have b:xs=xs.take i++x::xs.drop (i+1):=by
  rw[<-(ACE h).2,List.getElem_cons_drop,List.take_append_drop]
 rw[a,Bq]
 have:=congrArg Ab b
 rw[Bq]at this
 simp only[Ab]at this
 lia
theorem Sg {e x:Dc} {z:V} (c:e.Wf) (h:e.sub [z]=some x):(Bh e z).size+x.size=e.size:=by
 rcases sub_one h with⟨a,xs,i,rfl,rfl,b⟩|⟨a,g,xs,k,rfl,rfl,b⟩
 ·simp only[Bh,size,Int.toNat_natCast]
  have:=IQ b
  lia
 ·cases c with
  |tab d f j=>
   simp only[Bh,size]
   have:=IQ (B_ d f b)
   lia
theorem Eqv.room {e a:Dc} {z:V} (q:Eqv e a):e.room z=a.room z:=by
 cases q with
 |leaf v=>rfl
 |row l h=>cases z<;>simp[Dc.room,l]
 |tab p h=>
  cases z with
  |str k=>simp only[Dc.room,List.contains_eq_mem,p.mem_iff]
  |_=>rfl
theorem Eqv.Bh {e t x:Dc} {z:V} (D:e.Wf) (u:t.Wf) (h:e.sub [z]=some x) (q:Eqv e t):Eqv (Dc.Bh e z) (Dc.Bh t z):=by
 rcases sub_one h with⟨a,xs,i,rfl,rfl,v⟩|⟨a,g,xs,k,rfl,rfl,v⟩
 ·cases q with
  |@row _ b _ E l o=>
   simp only[Dc.Bh,Int.toNat_natCast]
   have F:=(ACE v).1
   refine .row (by rw[List.length_eraseIdx_of_lt F,List.length_eraseIdx_of_lt (by lia),l]) fun j r s c d=>?_
   rw[List.getElem?_eraseIdx]at c d
   split at c
   ·rename_i w
    rw[if_pos w]at d
    exact o j r s c d
   ·rename_i w
    rw[if_neg w]at d
    exact o (j+1) r s c d
 ·cases q with
  |@tab _ b _ m _ E p o=>
   cases D with
   |tab G H M=>
    cases u with
    |tab y A N=>
     have n:=(Ae v).1
     have f:=p.mem_iff.mp n
     simp only[Dc.Bh]
     refine .tab ?_ fun B r s c d=>?_
     ·have I:g[ix g k]'(OE n)=k:=(ACE (Gh n)).2
      have J:m[ix m k]'(OE f)=k:=(ACE (Gh f)).2
      have K:g.Perm (k::g.eraseIdx (ix g k)):=by have:=(Gj (OE n)).symm;rw[I]at this;exact this
      have L:m.Perm (k::m.eraseIdx (ix m k)):=by have:=(Gj (OE f)).symm;rw[J]at this;exact this
      exact List.Perm.cons_inv (K.symm.trans (p.trans L))
     ·rw[LS G H n]at c
      rw[LS y A f]at d
      by_cases C:B=k
      ·rw[if_pos C]at c;cases c
      ·rw[if_neg C]at c d
       exact o B r s c d
end Dc
theorem Bf.edit {H H2 j:Hp} {t e n:Dc} {us:List V} {b:Addr} (F:Bf H H2 t) (hs:t.sub us=some e) (J:e.val=.ref b) (s:b∈e.addrs) (K:n.val=.ref b) (v:n.At j) (w:∀a o,a≠b->H2 a=some o->j a=some o) (A:n.addrs.Nodup)
  (k:∀c∈n.addrs,∀o u,j c≠some (.Cz o u)) (g:∀c∈n.addrs,c∈e.addrs∨(c∉t.addrs/\H c=none)):Bf H j (t.Au us n):=by
 have P:=Dc.BI.sub hs
 have L:=P.addrs b s
 have wt:=Dc.EA t F.at_
 obtain⟨l,r,G,B⟩:=Dc.DG (n:=n) wt F.nd hs
 have nd:=F.nd
 rw[G]at nd
 obtain⟨C,D,i⟩:=List.nodup_append.mp nd
 obtain⟨E,M,m⟩:=List.nodup_append.mp C
 have mt:∀c,c∈t.addrs↔(c∈l∨c∈e.addrs)∨c∈r:=fun c=>by rw[G,List.mem_append,List.mem_append]
 refine⟨fun a o h=>w a o (Ap h (F.new b L)) (F.same a o h),Dc.YZ F.nd hs (K.trans J.symm) v (fun a Q N o h=>w a o (fun z=>N (by rw[z];exact s)) h) F.at_,?_,fun c d=>?_,fun c d=>?_⟩
 ·rw[B]
  refine List.nodup_append.mpr ⟨List.nodup_append.mpr ⟨E,A,fun x f y p z=>?_⟩,D,fun x f y p z=>?_⟩
  ·subst z
   rcases g x p with h|h
   ·exact m x f x h rfl
   ·exact h.1 ((mt x).mpr (.inl (.inl f)))
  ·subst z
   rcases List.mem_append.mp f with f|f
   ·exact i x (List.mem_append_left _ f) x p rfl
   ·rcases g x f with h|h
    ·exact i x (List.mem_append_right _ h) x p rfl
    ·exact h.1 ((mt x).mpr (.inr p))
 ·rw[B,List.mem_append,List.mem_append]at d
  have q:c∈t.addrs->c≠b->∀o u,j c≠some (.Cz o u):=fun I O=>Fj (Dc.there F.at_ I) (F.own c I) (fun o=>w c o O)
  rcases d with(d|d)|d
  ·exact q ((mt c).mpr (.inl (.inl d))) fun z=>m c d c (by rw[z];exact s) rfl
  ·exact k c d
  ·exact q ((mt c).mpr (.inr d)) fun z=>i c (List.mem_append_right _ (by rw[z];exact s)) c d rfl
 ·rw[B,List.mem_append,List.mem_append]at d
  rcases d with(d|d)|d
  ·exact F.new c ((mt c).mpr (.inl (.inl d)))
  ·rcases g c d with h|h
   ·exact F.new c (P.addrs c h)
   ·exact h.2
  ·exact F.new c ((mt c).mpr (.inr d))
namespace Dc
theorem Pl {e v:Dc} {z:V} (h:e.room z=true):(DS e z v).addrs.Perm (e.addrs++v.addrs):=by
 rcases Pk h with⟨a,xs,i,rfl,rfl,c⟩|⟨a,d,xs,k,rfl,rfl,f⟩
 ·simp only[DS,addrs,AU,AK,List.cons_append]
  have b:AK xs=AK (xs.take ((i:Int).toNat))++AK (xs.drop ((i:Int).toNat)):=by rw[<-AU,List.take_append_drop]
  rw[b,List.append_assoc]
  exact((List.perm_append_comm).append_left _).cons _
 ·simp only[DS,addrs,AU,AK,List.cons_append,List.append_nil]
  exact .refl _
theorem IS {xs:List Dc} {i:Nat} {x:Dc} (h:xs[i]?=some x):(x.addrs++AK (xs.eraseIdx i)).Perm (AK xs):=by
 have a:=(ACE h).1
 have b:=(ACE h).2
 have:=IM (Gj a)
 rw[b]at this
 simpa only[AK]using this
theorem Pm {e x:Dc} {z:V} (c:e.Wf) (h:e.sub [z]=some x):(x.addrs++(Bh e z).addrs).Perm e.addrs:=by
 rcases sub_one h with⟨a,xs,i,rfl,rfl,b⟩|⟨a,g,xs,k,rfl,rfl,b⟩
 ·simp only[Bh,addrs,Int.toNat_natCast]
  exact(List.perm_middle).trans ((IS b).cons _)
 ·cases c with
  |tab d f j=>
   simp only[Bh,addrs]
   exact(List.perm_middle).trans ((IS (B_ d f b)).cons _)
theorem LU {H:Hp} {xs:List Dc} {i:Nat} (h:DF H xs):DF H (xs.eraseIdx i):=by
 have gen:∀l:List Dc,(∀x∈l,x.At H)->DF H l:=by
  intro l
  induction l with
  |nil=>intro _;trivial
  |cons x r a=>intro h;simp only[DF];exact⟨h x List.mem_cons_self,a fun y b=>h y (List.mem_cons_of_mem _ b)⟩
 exact gen _ fun x c=>CV h x (List.mem_of_mem_eraseIdx c)
theorem Sh {ks:List Str} {xs:List Dc} (l:ks.length=xs.length) (n:ks.Nodup) {k:Str} (d:k∈ks):EX (kvs ks xs) (Sum.inr k)=kvs (ks.eraseIdx (ix ks k)) (xs.eraseIdx (ix ks k)):=by
 induction ks generalizing xs with
 |nil=>cases d
 |cons y r g=>
  cases xs with
  |nil=>simp at l
  |cons x t=>
   obtain⟨h,i⟩:=List.nodup_cons.mp n
   have e:kvs (y::r) (x::t)=(Sum.inr y,x.val)::kvs r t:=rfl
   rw[e]
   by_cases a:y=k
   ·subst a
    have b:ix (y::r) y=0:=by simp[ix,List.findIdx_cons]
    rw[b,SN rfl]
    simp only[List.eraseIdx_zero,List.tail_cons]
    refine Nl fun f=>?_
    rw[Dq (by simpa using l)]at f
    obtain⟨o,j,m⟩:=List.mem_map.mp f
    exact h (by rw[<-Sum.inr.inj m];exact j)
   ·have c:k∈r:=(List.mem_cons.mp d).resolve_left (fun z=>a z.symm)
    have b:ix (y::r) k=ix r k+1:=by
     have:(y==k)=false:=by simpa using a
     simp[ix,List.findIdx_cons,this]
    rw[b,LH (fun z=>a (Sum.inr.inj z)),g (by simpa using l) i c]
    rfl
end Dc
inductive VX (vs:List V) (H:Hp) (Q:VK) (a:XK):Prop
 |mk (d:Dc) (z:V) (b:vs=[d.val,z]) (c:d.At H) (e:Dc.As z) (f:Q (.bl (d.sub [z]).isSome) H):VX vs H Q a
inductive VY (vs:List V) (H:Hp) (Q:VK) (a:XK):Prop
 |mk (d:Dc) (t:Addr) (xs:List V) (e:Dc) (b:vs=[d.val,.ref t]) (c:d.At H) (f:H t=some (.tup xs)) (g:(∀z∈xs,Dc.As z)) (h:d.sub xs=some e) (i:Q e.val H):VY vs H Q a
inductive Si (vs:List V) (H:Hp) (Q:VK) (a:XK):Prop
 |mk (d:Dc) (t:Addr) (us:List V) (lv:V) (e:Dc) (c:vs=[d.val,.ref t]) (f:d.At H) (g:H t=some (.tup (us++[lv]))) (h:(∀z∈us++[lv],Dc.As z)) (i:d.sub us=some e) (j:∀b,AJ H b->Q e.val b):Si vs H Q a
inductive Ya (vs:List V) (H:Hp) (Q:VK) (a:XK):Prop
 |mk (d:Dc) (t:Addr) (us:List V) (lv:V) (e:Dc) (x:Dc) (c:vs=[d.val,.ref t]) (f:d.At H) (g:H t=some (.tup (us++[lv]))) (h:(∀z∈us++[lv],Dc.As z)) (i:d.sub us=some e) (j:e.sub [lv]=some x) (k:∀b,AJ H b->Q e.val b):Ya vs H Q a
inductive Yb (vs:List V) (H:Hp) (Q:VK) (a:XK):Prop
 |mk (d:Dc) (z:V) (b:vs=[d.val,z]) (c:d.At H) (e:Dc.As z) (f:Q (.bl (d.room z)) H):Yb vs H Q a
inductive bj (vs:List V) (H:Hp) (Q:VK) (a:XK):Prop
 |mk (d:Dc) (v:Dc) (t:Addr) (us:List V) (lv:V) (e:Dc) (g:vs=[d.val,.ref t,v.val]) (h:d.At H) (i:d.slim) (j:d.size<=800) (k:v.At H) (l:v.slim) (m:v.size<=900) (n:H t=some (.tup (us++[lv]))) (o:(∀z∈us++[lv],Dc.As z)) (p:d.sub us=some e) (c:e.room lv=true) (f:∀(d':Dc) (b:Hp),Bf H b d'->Dc.Eqv (d.Au us (e.DS lv v)) d'->Q d'.val b):bj vs H Q a
inductive VZ (vs:List V) (H:Hp) (Q:VK) (a:XK):Prop
 |mk (d:Dc) (t:Addr) (us:List V) (lv:V) (e:Dc) (x:Dc) (f:vs=[d.val,.ref t]) (g:d.At H) (h:d.slim) (i:d.size<=900) (j:H t=some (.tup (us++[lv]))) (k:(∀z∈us++[lv],Dc.As z)) (l:d.sub us=some e) (m:e.sub [lv]=some x) (n:∀(q:Addr) (d' b:Dc) (c:Hp),Al H c [d',b]->c q=some (.tup [d'.val,b.val])->Dc.Eqv (d.Au us (e.Bh lv)) d'->Dc.Eqv x b->Q (.ref q) c):VZ vs H Q a
inductive Va (vs:List V) (H:Hp) (Q:VK) (a:XK):Prop
 |mk (c:Int) (k:Nat) (d:vs=[.int c,.int (k:Int)]) (e:k<=1000) (f:∀v b,Nv v->AJ H b->Q v b):Va vs H Q a
inductive Sj (vs:List V) (H:Hp) (Q:VK) (a:XK):Prop
 |mk (c:Int) (d:vs=[.int c]) (e:∀(p:Addr) (ys:List Str) (b:Hp),AJ H b->H p=none->b p=some (.lst (ys.map V.str))->ys.length=6->ys.Nodup->(∀y∈ys,Be y=true)->Q (.ref p) b):Sj vs H Q a
section
variable{X:Cx} {CX:NZ} {k:Nat} {f:Addr} {fd:FuncData} {ps:List Str} {ds:List Value} {Zb:List V} {sp:Sp} {E:XK} {x:Str} {p pos:Pos} {e:Expr} {es:List Expr} {t:TA} {tf:TE}
end
inductive OF (c:Addr) (vs:List V) (H:Hp) (Q:VK) (a:XK):Prop
 |mk (d:Dc) (e:vs=[d.val,.ref c]) (f:d.At H) (g:d.slim) (h:d.size<=900) (i:∀(p:Addr) (ws:List Dc) (b:Hp),AJ H b->H p=none->b p=some (.lst (ws.map Dc.val))->ws.length=d.size->Q (.ref p) b):OF c vs H Q a
namespace Dc
theorem bo {us:List V}:∀{d e:Dc},d.Wf->d.sub us=some e->e.Wf:=by
 induction us with
 |nil=>
  intro d e w h
  rw[Ba]at h
  cases h
  exact w
 |cons z r f=>
  intro d e w h
  rcases Br h with⟨a,xs,i,x,rfl,rfl,b,c⟩|⟨a,g,xs,k,x,rfl,rfl,b,c⟩
  ·cases w with
   |row w=>exact f (w x (ACG b)) c
  ·cases w with
   |tab _ _ w=>exact f (w x (Ae b).2) c
theorem Ko {d:Dc} {z:V} {r:List V} (h:d.sub [z]=none):d.sub (z::r)=none:=by
 cases q:d.sub (z::r)with
 |none=>rfl
 |some e=>
  rcases Br q with⟨a,xs,i,x,rfl,rfl,b,_⟩|⟨a,c,xs,k,x,rfl,rfl,b,_⟩
  ·rw[GG b,Ba]at h
   cases h
  ·rw[EB b,Ba]at h
   cases h
theorem Pn {lv:V} {us:List V}:∀{d x:Dc},d.sub (us++[lv])=some x->∃e,d.sub us=some e/\e.sub [lv]=some x:=by
 induction us with
 |nil=>intro d x h;exact⟨d,Ba d,h⟩
 |cons z r j=>
  intro d x h
  rw[List.cons_append]at h
  rcases Br h with⟨a,xs,i,y,rfl,rfl,b,c⟩|⟨a,l,xs,k,y,rfl,rfl,b,c⟩
  ·obtain⟨e,f,g⟩:=j c
   exact⟨e,by rw[GG b];exact f,g⟩
  ·obtain⟨e,f,g⟩:=j c
   exact⟨e,by rw[EB b];exact f,g⟩
theorem Sk {vs us:List V}:∀{d x:Dc},d.sub (us++vs)=some x->∃e,d.sub us=some e/\e.sub vs=some x:=by
 induction us with
 |nil=>intro d x h;exact⟨d,Ba d,h⟩
 |cons z r j=>
  intro d x h
  rw[List.cons_append]at h
  rcases Br h with⟨a,xs,i,y,rfl,rfl,b,c⟩|⟨a,l,xs,k,y,rfl,rfl,b,c⟩
  ·obtain⟨e,f,g⟩:=j c
   exact⟨e,by rw[GG b];exact f,g⟩
  ·obtain⟨e,f,g⟩:=j c
   exact⟨e,by rw[EB b];exact f,g⟩
end Dc
section
variable{X:Cx}
inductive LV (K:ACH) (x:V) (y:V) (H:Hp) (Q:VK):Prop
 |mk (a:Addr) (b:Addr) (xs:List V) (ys:List V) (c:x=.ref a) (d:y=.ref b) (e:Ah K H a xs) (f:Ah K H b ys) (g:(∀z∈xs,Bg z=true)) (h:(∀z∈ys,Bg z=true)) (i:Q (.bl (!BB xs ys)) H):LV K x y H Q
def Vb (K:ACH):V->V->Hp->VK->Prop:=fun x y H Q=>LV K x y H Q
theorem Vc (k:X.A.units<cLine):Dy X (compareOp .NotEq) (Vb X.K):=by
 intro pins s σ H x y v u Q I l m h
 obtain⟨a,b,xs,d,rfl,rfl,n,o,p,r,q⟩:=h
 cases l
 cases m
 obtain⟨f,g,t,_⟩:=I.tuple n
 obtain⟨c,i,w,_⟩:=I.tuple o
 have z:f.toArray.size=xs.length:=by rw[List.size_toArray];exact g.length.symm
 have B:c.toArray.size=d.length:=by rw[List.size_toArray];exact i.length.symm
 refine SeqAt.RcNeAt.tuples (e:=fun j=>F' (xs.getD j .Ao) (d.getD j .Ao)) t w k (fun j C D=>LN (pins:=pins) (σ:=σ) (H:=H) g i p r j C D) _ _ _ _ ?_
 rw[z,B]
 exact⟨.bl (!BB xs d),H,I,rfl,q⟩
end
inductive Sl (n:Nat) (vs:List V) (H:Hp) (Q:VK) (a:XK):Prop
 |mk (d:Dc) (e:Dc) (c:vs=[d.val,e.val]) (f:d.At H) (g:e.At H) (h:Dc.Eqv d e) (i:d.size<=63) (j:d.deep<=n) (k:∀b,AJ H b->Q (.bl true) b):Sl n vs H Q a
inductive Po (vs:List V) (H:Hp) (Q:VK) (a:XK):Prop
 |mk (d:Dc) (t:Addr) (us:List V) (lv:V) (e:Dc) (x:Dc) (c:vs=[d.val,.ref t]) (f:d.At H) (g:d.size<=40) (h:H t=some (.tup (us++[lv]))) (i:(∀z∈us++[lv],Dc.As z)) (j:d.sub us=some e) (k:e.sub [lv]=some x) (l:∀b,AJ H b->Q (.bl true) b):Po vs H Q a
inductive MW (vs:List V) (H:Hp) (Q:VK) (a:XK):Prop
 |mk (d:Dc) (v:Dc) (t:Addr) (us:List V) (lv:V) (e:Dc) (c:vs=[d.val,.ref t,v.val]) (f:d.At H) (g:d.size<=40) (h:v.At H) (i:v.size<=10) (j:H t=some (.tup (us++[lv]))) (k:(∀z∈us++[lv],Dc.As z)) (l:d.sub us=some e) (m:e.room lv=true) (n:∀b,AJ H b->Q (.bl true) b):MW vs H Q a
inductive Sn (vs:List V) (H:Hp) (Q:VK) (b:XK):Prop
 |mk (d:Dc) (t:Addr) (n:Addr) (us:List V) (ys:List Str) (e:Dc) (f:vs=[d.val,.ref t,.ref n]) (g:d.At H) (h:d.size<=40) (i:H t=some (.tup us)) (j:(∀z∈us,Dc.As z)) (k:us.length<=40) (l:d.sub us=some e) (m:H n=some (.lst (ys.map V.str))) (o:ys.length=6) (r:(∀y∈ys,Be y=true)) (c:∀(p:Addr) (ps:List Addr) (a:Hp),AJ H a->a p=some (.lst (ps.map V.ref))->(∀q∈ps,∃z,a q=some (.tup (us++[z]))/\Dc.As z/\e.room z=true)->Q (.ref p) a):Sn vs H Q b
inductive Vd (vs:List V) (H:Hp) (Q:VK) (a:XK):Prop
 |mk (c:Int) (n:Addr) (ys:List Str) (d:vs=[.int c,.ref n]) (e:H n=some (.lst (ys.map V.str))) (f:ys.length=6) (g:ys.Nodup) (h:∀(v:Dc) (b:Hp),AJ H b->v.At b->v.size<=10->Q v.val b):Vd vs H Q a
structure Stp (S fr:List Addr) (h h':Heap):Prop where
 keep:∀b o,h.get? b=some o->b∉S->b∉fr->h'.get? b=some o
 slot:∀b o,h.get? b=some o->b∈fr->∃sl,h'.get? b=some {o with slots:=sl}
section
variable{M:Model} {A:Around} {E:Value->Shared->Prop} {s:Shared} {base:Heap} {env:Env} {outer:List Env} {L e:Addr} {oe:Obj} {vs:Array Value} {Q:Unit->Shared->Prop}
structure Entry (h:Heap) (T:Addr) (v:Value):Prop where
 ex:∃oT ts,h.get? T=some oT/\oT.data=.fields ts/\ts[3]?=some v
end
section
variable{P:Program} {w:World} {H H':Hp} {h h' h0:Heap} {a e T C:Addr} {o:HO}
structure yX (H:Hp) (h0 h:Heap) (e C:Addr) (oe:Obj) (vs:Array Value) (T:Addr):Prop where
 at_:h.get? e=some oe
 cls:oe.cls=.ref C
 dict:oe.dict=none
 data:oe.data=.fields vs
 sz:1<vs.size
 one:vs[1]?=some (.ref T)
 ne:T≠e
 ent:Entry h T .none
 He:H e=none
 HT:H T=none
 ne0:h0.get? e=none
 nT0:h0.get? T=none
def yY (P:Program) (w:World):NZ:=fun outer H s E e b=>∃(c C:Addr) (H':Hp),e=.ref c/\b.os=s.os/\AllBare b.gens/\Un (Tn outer) [] H H' s.heap b.heap/\GQ P w H' b.heap/\(∃d f T,yX H' s.heap b.heap c C d f T)/\E (.ref C) none H'
end
section
variable{X:Cx} {pins:List (Addr×Obj)} {σ:St} {H:Hp} {s s':Shared} {E:XK} {e:Value}
end
section
variable{P:Program} {w:World} {K:ACH} {mg:Str->Option Value} {base:Heap}
end
def Yc (K:ACH) (C:Addr) (b:List Value) (newId:String) (o:Obj):Bool:=match o.data with
 | .cls a=>o.cls==.type "type"&&(a.mro.head?==some (.ref C)&&(PySem.W.tailIn K b a.mro.tail&&(o.slots.size==6&&(o.slots[4]?==some (some (.builtin newId))&&(!a.hasDel&&(PySem.W.nsOkIn K a.ns&&PySem.W.nsIn K a.ns "__init__"==some none))))))
 |_=>false
def Pp (K:ACH) (C:Addr) (a:List Value) (newId:String):Bool:=(K.lookup C).any (Yc K C a newId)
section
variable{X:Cx}
end
def subIn (K:ACH) (C D:Addr):Bool:=match K.lookup C with
 |some ⟨_,_,.cls a,_⟩=>a.mro.contains (.ref D)
 |_=>false
section
variable{M:Model} {A:Around} {E:Value->Shared->Prop}
end
abbrev Cx.held (X:Cx) (e:Value):Cx:={X with A:=X.A.mark (some e),calm:=false,xe:=fun _ _=>False}
section
variable{X:Cx} {pins:List (Addr×Obj)} {σ:St} {H:Hp} {s s':Shared} {E:XK} {e:Value}
end
section
variable{X:Cx} {CX:NZ} {k:Nat} {f C Dd:Addr} {fd:FuncData} {ps:List Str} {sp:Sp} {x y n:Str} {p pos hp yp tp cp:Pos} {e0:Expr} {es:List Expr} {ta:TA} {gb eZ:List Value} {nC nD:String} {b0:Stmt} {Ve:List Stmt} {ts:TS}
structure yZ (X:Cx) (y:Str) (C Dd:Addr) (gb eZ:List Value) (nC nD:String):Prop where
 gl:Gl X y
 mg:X.mg y=some (.ref Dd)
 qC:Pp X.K C gb nC=true
 qD:Pp X.K Dd eZ nD=true
 bs:eZ.contains (.type "BaseException")=true
 sub:subIn X.K C Dd=true
 db:(y==("__debug__":Str))=false
end
abbrev Cx.wV (X:Cx) (a:Addr) (b:Obj):Cx:={X with A:=X.A.mark (some (.ref a)),calm:=false,xe:=fun _ _=>False,pn:=(a,b)::X.pn}
section
variable{X:Cx} {pins:List (Addr×Obj)} {σ:St} {H:Hp} {s s':Shared} {E:XK} {e:Value} {ea:Addr} {oe:Obj}
end
section
variable{X:Cx} {k i:Nat} {f C Dd:Addr} {fd:FuncData} {ps:List Str} {sp:Sp} {x y n:Str} {p pos hp yp tp cp:Pos} {e0:Expr} {es:List Expr} {ta:TA} {gb eZ:List Value} {nC nD:String} {b0:Stmt} {Ve:List Stmt} {ts:Addr->TS}
def Ends.only (D:Ends):Ends:={nx:=fun _ _=>False,rt:=D.rt}
end
section
variable{X:Cx} {k i j:Nat} {f C Dd:Addr} {fd:FuncData} {ps:List Str} {sp:Sp} {x y n z:Str} {p pos hp yp tp cp zp:Pos} {e0:Expr} {es:List Expr} {ta:TA} {gb eZ:List Value} {nC nD:String} {b0:Stmt} {Ve:List Stmt} {ts:TS} {tx:Addr->TS}
end
section
variable{K:ACH} {x D:Addr} {ox:Obj}
abbrev ya:List Value:=[.type "ValueError",.type "Exception",.type "BaseException",.type "object"]
structure yb (K:ACH) (D:Addr):Prop where
 q:Pp K D ya "ValueError.__new__"=true
 ga:PySem.W.findIn K (.ref D) "__getattribute__"=some (some (.builtin "BaseException.__getattribute__"))
 gn:PySem.W.findIn K (.ref D) "__getattr__"=some none
 yc:PySem.W.hasDictIn K D=true
 ha:PySem.W.findIn K (.ref D) "__class__"=some (some (.builtin "object.__class__"))
 hn:PySem.W.specialIn K (.builtin "object.__class__") "__get__"=some (some (.builtin "getset_descriptor.__get__"))
 htk:PySem.W.takesIn K (.builtin "object.__class__")=some true
 hm:PySem.W.mroIn K D (.type "object")=some true
variable{X:Cx} {ea C:Addr} {oe:Obj}
inductive bp (K:ACH) (ea C:Addr) (xs:List V) (H:Hp) (Q:VK):Prop
 |mk (c:V) (u:Value) (b:Bool) (d:xs=[.ref ea,c]) (e:(∀a,RelV c a->a=u)) (f:PySem.W.kitOne K (.ref C) u=some b) (g:Q (.bl b) H):bp K ea C xs H Q
end
section
variable{P:Program} {w:World} {K:ACH} {mg:Str->Option Value} {base:Heap}
end
inductive gc (P:Program) (w:World) (K:ACH) (mg:Str->Option Value) (base:Heap) (x:Str) (ps:List Str) (n:Nat) (sp:Sp):Prop
 |mk (f:Addr) (a:FuncData) (k:PySem.W.keepIn K (.ref f)=true) (b:Binds K a ps []) (m:mg x=some (.ref f)) (G:BG P w K mg base (yY P w) n f a ps sp):gc P w K mg base x ps n sp
structure Df1 (P:Program) (w:World) (K:ACH) (mg:Str->Option Value) (base:Heap) (x:Str) (ps:List Str) (n:Nat) (sp:Sp):Prop where
 ex:gc P w K mg base x ps n sp
inductive So (C:Addr) (vs:List V) (H:Hp) (Q:VK) (E:XK):Prop
 |mk (d:Dc) (t:Addr) (xs:List V) (b:vs=[d.val,.ref t]) (c:d.At H) (f:H t=some (.tup xs)) (g:(∀z∈xs,Dc.As z)) (h:(∀e,d.sub xs=some e->Q e.val H)) (i:(d.sub xs=none->∀a,AJ H a->E (.ref C) none a)):So C vs H Q E
inductive Sq (C:Addr) (vs:List V) (H:Hp) (Q:VK) (E:XK):Prop
 |mk (d:Dc) (t:Addr) (xs:List V) (b:vs=[d.val,.ref t]) (c:d.At H) (f:d.slim) (g:d.size<=900) (h:H t=some (.tup xs)) (i:(∀z∈xs,Dc.As z)) (j:(∀e,d.sub xs=some e->∀(d':Dc) (a:Hp),Bf H a d'->Dc.BA e d'->Q d'.val a)) (k:(d.sub xs=none->∀a,AJ H a->E (.ref C) none a)):Sq C vs H Q E
inductive Pq (vs:List V) (H:Hp) (Q:VK) (a:XK):Prop
 |mk (d:Dc) (t:Addr) (xs:List V) (c:vs=[d.val,.ref t]) (e:d.At H) (f:H t=some (.tup xs)) (g:(∀z∈xs,Dc.As z)) (h:∀b,AJ H b->Q (.bl (d.sub xs).isSome) b):Pq vs H Q a
end L2
namespace L2
open PySem
end L2
namespace L2
open PySem PySem.Spec PyProof.Rows
structure gg (k:Nat) (A:Around):Prop where
 dp:A.depth+3*k+5<recursionLimit
 un:A.units+16*k+200<cLine
 gd:A.guards=some []
abbrev mE (A:Around):Around:={A with handled:=none}
structure gh (P:Program) (w:World) (K:ACH) (mg:Str->Option Value) (base:Heap) (CX:NZ) (k:Nat) (f:Addr) (fd:FuncData) (ps:List Str) (sp:Sp):Prop where
 len:∀vs H Q E,sp vs H Q E->vs.length=ps.length
 run:∀(A:Around) (outer:List Env) (s:Shared) (H:Hp) (args:Args) (us:List Value) (vs:List V) (Q:VK) (E:XK),gg k A->UO P w K mg base A outer s H->BindsTo s fd args (ps.zip us)->Vals vs us->sp vs H Q E->
  codeAny (model P w) A (.call (.ref f) args) (CR CX outer P w H s Q E) s
section
variable{P:Program} {w:World} {K:ACH} {mg:Str->Option Value} {base:Heap}
inductive gj (P:Program) (w:World) (K:ACH) (mg:Str->Option Value) (base:Heap) (x:Str) (ps:List Str) (n:Nat) (sp:Sp):Prop
 |mk (f:Addr) (a:FuncData) (k:PySem.W.keepIn K (.ref f)=true) (b:Binds K a ps []) (m:mg x=some (.ref f)) (G:gh P w K mg base DC n f a ps sp):gj P w K mg base x ps n sp
structure DfN (P:Program) (w:World) (K:ACH) (mg:Str->Option Value) (base:Heap) (x:Str) (ps:List Str) (n:Nat) (sp:Sp):Prop where
 ex:gj P w K mg base x ps n sp
end
section
variable{X:Cx} {CX:NZ} {k:Nat} {f:Addr} {fd:FuncData} {ps:List Str} {ds:List Value} {Zb:List V} {sp:Sp} {E:XK} {x:Str} {p pos:Pos} {e:Expr} {es:List Expr} {t:TA}
end
def mF (b C:Addr) (h:Heap):Prop:=∃a:Obj,h.get? b=some a/\a.cls=.ref C/\a.dict=none/\PySem.W.notCls a=true
def gm (a C:Addr):HO:=.ext (mF a C)
section
variable{X:Cx} {pins:List (Addr×Obj)} {σ:St} {H:Hp} {s:Shared} {ea C:Addr} {oe:Obj}
inductive bq (K:ACH) (C:Addr) (xs:List V) (H:Hp) (Q:VK):Prop
 |mk (ea:Addr) (c:V) (u:Value) (b:Bool) (d:xs=[.ref ea,c]) (e:H ea=some (gm ea C)) (f:(∀a,RelV c a->a=u)) (g:PySem.W.kitOne K (.ref C) u=some b) (h:Q (.bl b) H):bq K C xs H Q
end
section
variable{X:Cx} {k i j:Nat} {f C Dd:Addr} {fd:FuncData} {ps:List Str} {sp:Sp} {x y n z:Str} {p pos hp yp tp cp zp:Pos} {e0:Expr} {es:List Expr} {ta:TA} {gb eZ:List Value} {nC nD:String} {b0:Stmt} {Ve:List Stmt} {tx:TS}
end
inductive Pr (C:Addr) (vs:List V) (H:Hp) (Q:VK) (E:XK):Prop
 |mk (d:Dc) (t:Addr) (xs:List V) (b:vs=[d.val,.ref t]) (c:d.At H) (f:H t=some (.tup xs)) (g:(∀z∈xs,Dc.As z)) (h:(∀us lv e,xs=us++[lv]->d.sub us=some e->∀a,AJ H a->Q e.val a)) (i:((xs=[]∨∃us lv,xs=us++[lv]/\d.sub us=none)->∀a,AJ H a->E (.ref C) none a)):Pr C vs H Q E
inductive Vf (C:Addr) (vs:List V) (H:Hp) (Q:VK) (E:XK):Prop
 |mk (d:Dc) (t:Addr) (xs:List V) (b:vs=[d.val,.ref t]) (c:d.At H) (f:H t=some (.tup xs)) (g:(∀z∈xs,Dc.As z)) (h:(∀us lv e x,xs=us++[lv]->d.sub us=some e->e.sub [lv]=some x->∀a,AJ H a->Q e.val a)) (i:((xs=[]∨d.sub xs=none)->∀a,AJ H a->E (.ref C) none a)):Vf C vs H Q E
def Dc.DT (d:Dc) (xs:List V):Prop:=∀a b e,xs=a++[b]->d.sub a=some e->e.room b=false
inductive Yd (C:Addr) (vs:List V) (H:Hp) (Q:VK) (E:XK):Prop
 |mk (d:Dc) (v:Dc) (t:Addr) (xs:List V) (c:vs=[d.val,.ref t,v.val]) (f:d.At H) (g:d.slim) (h:d.size<=800) (i:v.At H) (j:v.slim) (k:v.size<=900) (l:H t=some (.tup xs)) (m:(∀z∈xs,Dc.As z)) (n:(∀us lv e,xs=us++[lv]->d.sub us=some e->e.room lv=true->∀(d':Dc) (a:Hp),Bf H a d'->Dc.Eqv (d.Au us (e.DS lv v)) d'->Q d'.val a)) (b:(d.DT xs->∀a,AJ H a->E (.ref C) none a)):Yd C vs H Q E
inductive Sr (C:Addr) (vs:List V) (H:Hp) (Q:VK) (E:XK):Prop
 |mk (d:Dc) (t:Addr) (xs:List V) (c:vs=[d.val,.ref t]) (f:d.At H) (g:d.slim) (h:d.size<=900) (i:H t=some (.tup xs)) (j:(∀z∈xs,Dc.As z)) (k:(∀us lv e x,xs=us++[lv]->d.sub us=some e->e.sub [lv]=some x->∀(q:Addr) (d' b:Dc) (a:Hp),Al H a [d',b]->a q=some (.tup [d'.val,b.val])->Dc.Eqv (d.Au us (e.Bh lv)) d'->Dc.Eqv x b->Q (.ref q) a)) (l:((xs=[]∨d.sub xs=none)->∀a,AJ H a->E (.ref C) none a)):Sr C vs H Q E
inductive Ss (vs:List V) (H:Hp) (Q:VK) (a:XK):Prop
 |mk (d:Dc) (t:Addr) (xs:List V) (b:vs=[d.val,.ref t]) (c:d.At H) (e:H t=some (.tup xs)) (f:(∀z∈xs,Dc.As z)) (g:Q (.bl (d.sub xs).isSome) H):Ss vs H Q a
def bu (b:List Addr) (H c:Hp):Prop:=∀a o,a∉b->H a=some o->c a=some o
inductive Vg (n:Nat) (vs:List V) (H:Hp) (Q:VK) (b:XK):Prop
 |mk (d:Dc) (e:vs=[d.val]) (f:d.At H) (g:d.addrs.Nodup) (h:(∀a∈d.addrs,∀o u,H a≠some (.Cz o u))) (i:d.deep<=n) (j:d.size<=900) (k:∀c,bu d.addrs H c->Q .Ao c):Vg n vs H Q b
inductive Su (C:Addr) (vs:List V) (H:Hp) (Q:VK) (a:XK):Prop
 |mk (b:Addr) (d:vs=[.ref b]) (e:H b=some (gm b C)) (f:∀c,AJ H c->Q (.bl true) c):Su C vs H Q a
theorem Dc.LW {d a:Dc} {xs:List V} (b:d.Wf) (wt:a.Wf) (q:Dc.Eqv d a) (h:a.DT xs):d.DT xs:=fun c f e g i=>by
 obtain⟨j,k,l⟩:=Dc.Eqv.sub b wt q i
 rw[l.room]
 exact h c f j g k
theorem Eg {us us':List V} {lv lv':V} (h:us++[lv]=us'++[lv']):us=us'/\lv=lv':=by
 have:=List.append_inj' h rfl
 exact⟨this.1,by simpa using this.2⟩
inductive Ye (vs:List V) (H:Hp) (Q:VK) (b:XK):Prop
 |mk (d:Dc) (v:Dc) (t:Addr) (xs:List V) (c:vs=[d.val,.ref t,v.val]) (f:d.At H) (h:d.size<=24) (i:v.At H) (j:v.size<=24) (k:H t=some (.tup xs)) (l:(∀z∈xs,Dc.As z)) (m:(∀us lv e,xs=us++[lv]->d.sub us=some e->e.room lv=true->∀(g:Addr) (d':Dc) (a:Hp),Bf H a d'->a g=some (.tup [d'.val])->Dc.Eqv (d.Au us (e.DS lv v)) d'->Q (.ref g) a)) (n:(d.DT xs->∀a,AJ H a->Q .Ao a)):Ye vs H Q b
inductive Yf (vs:List V) (H:Hp) (Q:VK) (a:XK):Prop
 |mk (d:Dc) (t:Addr) (n:Addr) (xs:List V) (ys:List Str) (c:Int) (e:Dc) (g:vs=[d.val,.ref t,.ref n,.int c]) (h:d.At H) (i:d.size<=24) (j:H t=some (.tup xs)) (k:(∀z∈xs,Dc.As z)) (l:xs.length<=40) (m:d.sub xs=some e) (o:H n=some (.lst (ys.map V.str))) (p:ys.length=6) (q:(∀y∈ys,Be y=true)) (f:∀(w:Addr) (z:V) (b:Hp),AJ H b->b w=some (.tup (xs++[z]))->Dc.As z->Q (.ref w) b):Yf vs H Q a
inductive Sv (vs:List V) (H:Hp) (Q:VK) (a:XK):Prop
 |mk (d:Dc) (v:Dc) (t:Addr) (xs:List V) (c:vs=[d.val,.ref t,v.val]) (e:d.At H) (f:d.size<=24) (g:v.At H) (h:v.size<=24) (i:H t=some (.tup xs)) (j:(∀z∈xs,Dc.As z)) (k:∀b,AJ H b->Q (.bl true) b):Sv vs H Q a
inductive Sw (vs:List V) (H:Hp) (Q:VK) (b:XK):Prop
 |mk (d:Dc) (t:Addr) (xs:List V) (f:vs=[d.val,.ref t]) (h:d.At H) (i:d.size<=24) (j:H t=some (.tup xs)) (k:(∀z∈xs,Dc.As z)) (l:(∀us lv e x,xs=us++[lv]->d.sub us=some e->e.sub [lv]=some x->∀(g:Addr) (d' c:Dc) (a:Hp),Al H a [d',c]->a g=some (.tup [d'.val,c.val])->Dc.Eqv (d.Au us (e.Bh lv)) d'->Dc.Eqv x c->Q (.ref g) a)) (m:((xs=[]∨d.sub xs=none)->∀a,AJ H a->Q .Ao a)):Sw vs H Q b
inductive Sx (vs:List V) (H:Hp) (Q:VK) (b:XK):Prop
 |mk (d:Dc) (t:Addr) (xs:List V) (h:vs=[d.val,.ref t]) (i:d.At H) (j:d.size<=24) (k:H t=some (.tup xs)) (l:(∀z∈xs,Dc.As z)) (m:(∀us lv e x,xs=us++[lv]->d.sub us=some e->e.sub [lv]=some x->∀(g f:Addr) (d' c:Dc) (a:Hp),Al H a [d',c]->a f=some (.tup [d'.val,c.val])->a g=some (.tup [.ref f])->Dc.Eqv (d.Au us (e.Bh lv)) d'->Dc.Eqv x c->Q (.ref g) a)) (n:((xs=[]∨d.sub xs=none)->∀a,AJ H a->Q .Ao a)):Sx vs H Q b
inductive Sy (vs:List V) (H:Hp) (Q:VK) (a:XK):Prop
 |mk (d:Dc) (t:Addr) (xs:List V) (c:vs=[d.val,.ref t]) (e:d.At H) (f:d.size<=24) (g:H t=some (.tup xs)) (h:(∀z∈xs,Dc.As z)) (i:∀b,AJ H b->Q (.bl true) b):Sy vs H Q a
theorem Dc.Jx (d n:Dc):d.Au [] n=n:=by cases d<;>rfl
inductive OG (C:Addr) (vs:List V) (H:Hp) (Q:VK) (E:XK):Prop
 |mk (d:Dc) (v:Dc) (t:Addr) (xs:List V) (c:vs=[d.val,.ref t,v.val]) (e:d.At H) (f:d.slim) (g:d.size<=800) (h:v.At H) (i:v.slim) (j:v.size<=900) (k:H t=some (.tup xs)) (l:(∀z∈xs,Dc.As z)) (m:(∀x,d.sub xs=some x->∀(d':Dc) (a:Hp),Bf H a d'->Dc.Eqv (d.Au xs v) d'->Q d'.val a)) (b:(d.sub xs=none->∀a,AJ H a->E (.ref C) none a)):OG C vs H Q E
inductive OH (vs:List V) (H:Hp) (Q:VK) (b:XK):Prop
 |mk (d:Dc) (v:Dc) (t:Addr) (xs:List V) (c:vs=[d.val,.ref t,v.val]) (e:d.At H) (f:d.size<=24) (h:v.At H) (i:v.size<=24) (j:H t=some (.tup xs)) (k:(∀z∈xs,Dc.As z)) (l:(∀x,d.sub xs=some x->∀(g:Addr) (d':Dc) (a:Hp),Bf H a d'->a g=some (.tup [d'.val])->Dc.Eqv (d.Au xs v) d'->Q (.ref g) a)) (m:(d.sub xs=none->∀a,AJ H a->Q .Ao a)):OH vs H Q b
inductive bw (K:ACH) (H:Hp):Nat->V->V->Prop
 |flat {n:Nat} {x y:V} (f:Bg x=true) (g:Bg y=true) (e:F' x y=true):bw K H n x y
 |same {n:Nat} {a:Addr}:bw K H n (.ref a) (.ref a)
 |lst {n:Nat} {a b:Addr} {xs ys:List V} (c:Bd K H a xs) (d:Bd K H b ys) (l:xs.length=ys.length) (h:∀(i:Nat) u v,xs[i]?=some u->ys[i]?=some v->bw K H n u v):bw K H (n+1) (.ref a) (.ref b)
 |tup {n:Nat} {a b:Addr} {xs ys:List V} (c:Ah K H a xs) (d:Ah K H b ys) (l:xs.length=ys.length) (h:∀(i:Nat) u v,xs[i]?=some u->ys[i]?=some v->bw K H n u v):bw K H (n+1) (.ref a) (.ref b)
inductive Yg (K:ACH) (H:Hp) (n:Nat):List V->List V->Prop
 |nil:Yg K H n [] []
 |cons {x y:V} {xs ys:List V} (h:bw K H n x y) (t:Yg K H n xs ys):Yg K H n (x::xs) (y::ys)
section
variable{X:Cx} {pins:List (Addr×Obj)} {σ:St} {H:Hp} {s:Shared}
theorem Jy {its:List Value} {j:Nat} {u:Value} (g:its[j]?=some u) (h:j<its.toArray.size):its.toArray[j]=u:=by
 have:=(ACE g).2
 simpa using this
theorem HK {xs:List V} {its:List Value} (r:Vals xs its) {j:Nat} (h:j<its.toArray.size):∃x,xs[j]?=some x/\RelV x its.toArray[j]:=by
 have e:its.toArray.size=xs.length:=by rw[List.size_toArray];exact r.length.symm
 have a:j<xs.length:=by rw[<-e];exact h
 obtain⟨u,g,b⟩:=r.get (ACD a)
 exact⟨_,ACD a,by rw[Jy g h];exact b⟩
inductive mG (K:ACH) (c:Bool) (x y:V) (H:Hp) (Q:VK):Prop
 |mk (a b:Addr) (xs ys:List V) (d:x=.ref a) (e:y=.ref b) (f:Bd K H a xs) (g:Bd K H b ys) (h:Yg K H 20 xs ys) (q:Q (.bl c) H):mG K c x y H Q
end
def mH:Key->PyData
 | .inl i=>.int i
 | .inr x=>.str x
mutual
inductive Iv (H:Hp):V->PyData->Prop
 |Ao:Iv H .Ao .none
 |bl (b:Bool):Iv H (.bl b) (.bool b)
 |int (i:Int):Iv H (.int i) (.int i)
 |str (x:Str):Iv H (.str x) (.str x)
 |lst {a:Addr} {xs:List V} {c:List PyData} (h:Rd H a (.lst xs)) (r:FD H xs c):Iv H (.ref a) (.list c)
 |tup {a:Addr} {xs:List V} {c:List PyData} (h:H a=some (.tup xs)) (r:FD H xs c):Iv H (.ref a) (.tuple c)
 |Dr {a:Addr} {kvs:List (Key×V)} {c:List PyData} (h:Rd H a (.dK kvs)) (r:FD H (kvs.map (·.2)) c):Iv H (.ref a) (.dict ((kvs.map fun p=>mH p.1).zip c))
 |oth {v:V} {d:PyData} (r:∀e,AJ H e->∀(P:Program) (w:World) (h:Heap),GQ P w e h->∀u,RelV v u->∃f,Reads h u d f/\∀b∈f,∃o,e b=some o):Iv H v d
inductive FD (H:Hp):List V->List PyData->Prop
 |nil:FD H [] []
 |cons {x:V} {d:PyData} {xs:List V} {a:List PyData} (h:Iv H x d) (t:FD H xs a):FD H (x::xs) (d::a)
end
theorem JC {a:Type} {kvs:List (a×V)} {vs:List (a×Value)} (r:KV kvs vs):Vals (kvs.map (·.2)) (vs.map (·.2)):=by
 unfold KV at r
 induction r with
 |nil=>exact .nil
 |cons h _ b=>exact .cons h.2 b
inductive bx (xs:List V) (H:Hp) (Q:VK):Prop
 |mk (a:Addr) (d:PyData) (e:xs=[.ref a]) (h:Iv H (.ref a) d) (s:d.showable=true) (z:d.shown.length<=sizeLine) (dp:d.depth<=150) (q:Q (.str d.shown) H):bx xs H Q
theorem FU {x:V} {r:List V}:NL (x::r) 0=some x:=CM (j:=0) rfl
theorem EM {x y:V} {r:List V}:NL (x::y::r) 1=some y:=CM (j:=1) rfl
theorem at2 {x y z:V} {r:List V}:NL (x::y::z::r) 2=some z:=CM (j:=2) rfl
theorem Jz {b c:Bool} {A B:Prop} (a:b=true->A) (d:b=false->B):if(if false=true then c else b)=true then A else B:=by
 rw[if_neg Bool.false_ne_true]
 cases b with
 |true=>exact BF (a rfl)
 |false=>exact BO (d rfl)
theorem gp {b c:Bool} {A B:Prop} (a:c=true->A) (d:c=false->B):if(if true=true then c else b)=true then A else B:=by
 rw[if_pos rfl]
 cases c with
 |true=>exact BF (a rfl)
 |false=>exact BO (d rfl)
theorem gq {c:Bool} {A B:Prop} (a:c=true->A) (b:c=false->B):if c=true then A else B:=by
 cases c with
 |true=>exact BF (a rfl)
 |false=>exact BO (b rfl)
theorem J_ {t u:TS} {D:Ends} {σ:St} {H:Hp} (R:St->Hp->Prop) (k:∀a b,R a b->u D a b) (h:(∀a b,R a b->u D a b)->t {D with nx:=u D} σ H):Rt t u D σ H:=h k
def Ot:V->Bool
 | .str _=>false
 |_=>true
def J' (ys xs:List V):V:=if BB (ys.take xs.length) xs&&decide (xs.length<ys.length)&&Ot (ys.getD xs.length .Ao)then ys.getD xs.length .Ao else .Ao
def CQ (zs xs:List V):List V:=
 match zs[xs.length-1]?,xs.getLast? with
 |some (.int i),some (.int j)=>if BB (zs.take (xs.length-1)) xs.dropLast=true/\(j<i∨(i=j/\xs.length<zs.length))then zs.set (xs.length-1) (.int (i+1))else zs
 |_,_=>zs
def Cr (w:Str) (xs zs:List V):List V:=if w="copy"then zs else if w="move"then CQ zs xs else xs
def steps (xs:List V):Prop:=∀z∈xs,Dc.As z
theorem step_eq {x y:V} (a:Dc.As x) (b:Dc.As y) (h:F' x y=true):x=y:=by
 rcases a with⟨i,rfl⟩|⟨k,rfl,_⟩<;>rcases b with⟨j,rfl⟩|⟨l,rfl,_⟩<;>simp_all [F']
theorem Eh {xs ys:List V} (c:steps xs) (d:steps ys) (h:BB xs ys=true):xs=ys:=by
 unfold BB at h
 simp only[Bool.and_eq_true,beq_iff_eq]at h
 obtain⟨e,f⟩:=h
 refine List.ext_getElem f fun i a b=>?_
 have:=(List.all_eq_true.mp e) i (List.mem_range.mpr (by lia))
 rw[List.getD_eq_getElem?_getD,List.getD_eq_getElem?_getD,ACD a,ACD b]at this
 exact step_eq (c _ (List.getElem_mem a)) (d _ (List.getElem_mem b)) this
theorem Yh {v:V} (h:Dc.As v) (p:Ot v=true):∃i:Nat,v=.int (i:Int):=by
 rcases h with h|⟨k,rfl,_⟩
 ·exact h
 ·cases p
theorem LX {zs us:List V} (sz:steps zs) (h:(BB (zs.take us.length) us&&decide (us.length<zs.length)&&Ot (zs.getD us.length .Ao))=true):
  ∃i:Nat,zs[us.length]?=some (.int (i:Int))/\J' zs us=.int (i:Int)/\BB (zs.take us.length) us=true/\us.length<zs.length:=by
 have b:=h
 simp only[Bool.and_eq_true,decide_eq_true_eq]at b
 obtain⟨⟨f,a⟩,c⟩:=b
 have g:zs[us.length]?=some zs[us.length]:=ACD a
 have d:zs.getD us.length .Ao=zs[us.length]:=by rw[List.getD_eq_getElem?_getD,g];rfl
 rw[d]at c
 obtain⟨i,e⟩:=Yh (sz _ (List.getElem_mem a)) c
 refine⟨i,by rw[g,e],?_,f,a⟩
 unfold J'
 rw[h,if_pos rfl,d,e]
theorem LY {zs us:List V} (h:(BB (zs.take us.length) us&&decide (us.length<zs.length)&&Ot (zs.getD us.length .Ao))=false):J' zs us=.Ao:=by
 unfold J'
 rw[h,if_neg Bool.false_ne_true]
theorem KA (zs us:List V) (lv:V):CQ zs (us++[lv])=match zs[us.length]?,lv with
  |some (.int i),.int j=>if BB (zs.take us.length) us=true/\(j<i∨(i=j/\us.length+1<zs.length))then zs.set us.length (.int (i+1))else zs
  |_,_=>zs:=by
 unfold CQ
 have a:(us++[lv]).length-1=us.length:=by simp
 have b:(us++[lv]).getLast?=some lv:=by simp
 have c:(us++[lv]).dropLast=us:=by simp
 have d:(us++[lv]).length=us.length+1:=by simp
 rw[a,b,c,d]
 cases zs[us.length]? with
 |none=>rfl
 |some z=>cases z<;>cases lv<;>rfl
theorem KC {zs us:List V} {lv:V} (h:(BB (zs.take us.length) us&&decide (us.length<zs.length)&&Ot (zs.getD us.length .Ao))=false):CQ zs (us++[lv])=zs:=by
 rw[KA]
 by_cases a:us.length<zs.length
 ·have g:zs[us.length]?=some zs[us.length]:=ACD a
  have b:zs.getD us.length .Ao=zs[us.length]:=by rw[List.getD_eq_getElem?_getD,g];rfl
  rw[b,decide_eq_true a,Bool.and_true]at h
  rw[g]
  cases d:zs[us.length]with
  |int i=>
   rw[d]at h
   have e:BB (zs.take us.length) us=false:=by simpa[Ot]using h
   cases lv with
   |int j=>exact if_neg fun c=>by rw[e]at c;exact Bool.false_ne_true c.1
   |_=>rfl
  |_=>rfl
 ·rw[List.getElem?_eq_none_iff.mpr (by lia)]
theorem Sz {zs us:List V} {k:Str}:CQ zs (us++[.str k])=zs:=by
 rw[KA]
 cases zs[us.length]? with
 |none=>rfl
 |some z=>cases z<;>rfl
theorem LZ {zs us:List V} {i j:Int} (g:zs[us.length]?=some (.int i)) (b:BB (zs.take us.length) us=true):CQ zs (us++[.int j])=if j<i∨(i=j/\us.length+1<zs.length)then zs.set us.length (.int (i+1))else zs:=by
 rw[KA,g]
 by_cases c:j<i∨(i=j/\us.length+1<zs.length)
 ·rw[if_pos c];exact if_pos ⟨b,c⟩
 ·rw[if_neg c];exact if_neg fun z=>c z.2
theorem CW {zs us:List V} {v:V} (h:zs.take us.length=us) (a:us.length<zs.length):us++[v]++zs.drop (us.length+1)=zs.set us.length v:=by
 rw[List.set_eq_take_append_cons_drop,if_pos a,h,List.append_assoc]
 rfl
theorem Cv (zs xs:List V):(CQ zs xs).length=zs.length:=by
 unfold CQ
 split
 ·split<;>simp
 ·rfl
theorem IT {zs xs:List V} (h:steps zs):steps (CQ zs xs):=by
 unfold CQ
 split
 ·rename_i i j b c
  split
  ·intro z a
   rcases List.mem_or_eq_of_mem_set a with a|rfl
   ·exact h z a
   ·have:=h _ (ACG b)
    rcases this with⟨k,e⟩|⟨k,e,_⟩
    ·cases e;exact .inl ⟨k+1,by simp⟩
    ·cases e
  ·exact h
 ·exact h
def Dg:Sp:=fun a H Q _=>∃z,a=[z]/\Dc.As z/\Q (.bl (Ot z)) H
def MX:Sp:=fun c H Q _=>∃(p h:Addr) (a xs:List V),c=[.ref p,.ref h]/\H p=some (.tup a)/\H h=some (.tup xs)/\steps a/\steps xs/\∀b,AJ H b->Q (J' a xs) b
def MY:Sp:=fun c H Q _=>∃(p h:Addr) (a xs:List V) (i:Int),c=[.ref p,.ref h,.int i]/\H p=some (.tup a)/\H h=some (.tup xs)/\a.length<=400/\xs.length<=400/\∀q b,AJ H b->b q=some (.tup (xs++[.int i]++a.drop (xs.length+1)))->Q (.ref q) b
def KD:Sp:=fun b H Q _=>∃(t p:Addr) (zs xs:List V),b=[.ref t,.ref p]/\H t=some (.tup zs)/\H p=some (.tup xs)/\xs≠[]/\steps zs/\steps xs/\zs.length<=400/\xs.length<=400/\∀q a,AJ H a->a q=some (.tup (CQ zs xs))->Q (.ref q) a
def Pu:List Str:=["put","take","move","copy","change","ask","has","lacks","is"]
structure Rw (H:Hp) (r:V) (w:Str) (xs zs:List V) (p:Addr):Prop where
 ex:∃(a:Addr) (rest:List V),r=.ref a/\H a=some (.tup (.str w::.ref p::rest))/\(w="copy"∨w="move"->∃p2,rest=[.ref p2]/\H p2=some (.tup zs))
 hp:H p=some (.tup xs)
 sx:steps xs
 sz:steps zs
 lx:xs.length<=100
 lz:zs.length<=100
 wd:w∈Pu
 nx:w="put"∨w="lacks"∨w="take"∨w="move"->xs≠[]
 nz:w="copy"∨w="move"->zs≠[]
theorem Rw.up {H b:Hp} {r:V} {w:Str} {xs zs:List V} {p:Addr} (h:Rw H r w xs zs p) (s:AJ H b):Rw b r w xs zs p:=by
 obtain⟨⟨a,rest,e,c,d⟩,f,g,sz,i,j,k,l,m⟩:=h
 exact⟨⟨a,rest,e,s _ _ c,fun hw=>by obtain⟨n,o,q⟩:=d hw;exact⟨n,o,s _ _ q⟩⟩,s _ _ f,g,sz,i,j,k,l,m⟩
def Fm (ws:List V):Sp:=fun b H Q _=>∃(r:V) (w:Str) (xs zs:List V) (p:Addr),b=[r]/\Rw H r w xs zs p/\∀a,AJ H a->Q (if Cs (.str w) ws then .ref p else .Ao) a
def GH:Sp:=fun a H Q _=>∃(r:V) (w:Str) (xs zs:List V) (p:Addr),a=[r]/\Rw H r w xs zs p/\Q (if decide (V.str w=.str "move")then .ref p else .Ao) H
def Fn (H:Hp) (v:V) (ys:List V):Prop:=∃(t h:Addr) (l:V),v=.ref t/\H t=some (.tup [.ref h,l])/\H h=some (.tup ys.dropLast)/\ys.getLast?=some l
def HL:List Str:=["put","copy","move"]
def MZ:List Str:=["take","change","move","copy","ask","has","is"]
abbrev Bv:List V:=HL.map V.str
abbrev Vh:List V:=MZ.map V.str
theorem KG (w:Str):∀ws:List Str,Cs (.str w) (ws.map V.str)=decide (w∈ws)
 |[]=>by simp[Cs]
 |x::ws=>by
  have a:=KG w ws
  simp only[Cs,List.map_cons,List.any_cons]at a⊢
  rw[a]
  by_cases e:w=x
  ·subst e;simp[F']
  ·have b:¬x=w:=fun z=>e z.symm
   simp[F',e,b]
theorem yd {w:Str} (h:Cs (.str w) Bv=true):w="put"∨w="copy"∨w="move":=by
 rw[KG]at h
 have:=of_decide_eq_true h
 simpa[HL]using this
def KH:List Value->List Str->Bool
 |[],[]=>true
 | .str x _::us,y::ys=>x==y&&KH us ys
 |_,_=>false
def Pw (K:ACH) (a:Addr) (ws:List Str):Bool:=match K.lookup a with
 |some o=>o.cls==.type "tuple"&&(match o.data with
  | .seq b _=>decide (b.size<=1000)&&KH b.toList ws
  |_=>false)
 |none=>false
theorem La:∀{us:List Value} {ws:List Str},KH us ws=true->Vals (ws.map V.str) us
 |[],[],_=>.nil
 |[],_::_,h=>by simp[KH]at h
 |u::us,[],h=>by cases u<;>simp[KH]at h
 |u::us,y::ys,h=>by
  cases u with
  |str x t=>
   simp only[KH,Bool.and_eq_true,beq_iff_eq]at h
   obtain⟨rfl,h⟩:=h
   exact .cons ⟨t,rfl⟩ (La h)
  |_=>simp[KH]at h
theorem Ah.mI {K:ACH} {a:Addr} {ws:List Str} (h:Pw K a ws=true) (H:Hp):Ah K H a (ws.map V.str):=by
 unfold Pw at h
 split at h
 ·rename_i o lk
  simp only[Bool.and_eq_true,beq_iff_eq]at h
  obtain⟨c,h⟩:=h
  split at h
  ·rename_i b n d
   simp only[Bool.and_eq_true,decide_eq_true_eq]at h
   exact .inr ⟨o,b,n,lk,c,d,Az h.1,La h.2⟩
  ·cases h
 ·cases h
def OI (H:Hp) (v:V) (w:Str) (xs zs:List V):Prop:=if Cs (.str w) Bv then Fn H v (Cr w xs zs)else v=.Ao
def FE:Sp:=fun b H Q _=>∃(r:V) (w:Str) (xs zs:List V) (p:Addr),b=[r]/\Rw H r w xs zs p/\∀v a,AJ H a->OI a v w xs zs->Q v a
inductive CS (H:Hp):List Addr->List (List V)->Prop
 |nil:CS H [] []
 |cons {a:Addr} {xs:List V} {c:List Addr} {b:List (List V)} (h:H a=some (.tup xs)) (t:CS H c b):CS H (a::c) (xs::b)
def nA (w:Str) (xs:List V):List (List V):=if Cs (.str w) Vh then[xs]else[]
def nB (w:Str) (xs:List V):List (List V):=if w="lacks"then[xs.dropLast]else[]
def nC (w:Str) (xs zs:List V):List (List V):=if Cs (.str w) Bv then[(Cr w xs zs).dropLast]else[]
def CK (w:Str) (xs zs:List V):List (List V):=(nA w xs++nB w xs)++nC w xs zs
theorem CS.length {H:Hp} {ps:List Addr} {a:List (List V)} (h:CS H ps a):ps.length=a.length:=by
 induction h with
 |nil=>rfl
 |cons _ _ b=>rw[List.length_cons,List.length_cons,b]
theorem CS.up {H c:Hp} {ps:List Addr} {a:List (List V)} (h:CS H ps a) (s:∀b ys,H b=some (.tup ys)->c b=some (.tup ys)):CS c ps a:=by
 induction h with
 |nil=>exact .nil
 |cons h _ d=>exact .cons (s _ _ h) d
theorem CS.push {H:Hp} {ps:List Addr} {a:List (List V)} {p:Addr} {ys:List V} (h:CS H ps a) (b:H p=some (.tup ys)):CS H (ps++[p]) (a++[ys]):=by
 induction h with
 |nil=>exact .cons b .nil
 |cons h _ c=>exact .cons h c
structure Nd (H H':Hp) (l:Addr) (ps:List Addr) (ye:List (List V)):Prop where
 same:AJ H H'
 nl:H l=none
 hl:H' l=some (.lst (ps.map V.ref))
 tu:CS H' ps ye
theorem Nd.up {H c H2:Hp} {l:Addr} {ps:List Addr} {a:List (List V)} (h:Nd H c l ps a) (s:AJ c H2):Nd H H2 l ps a:=⟨h.same.trans s,h.nl,s _ _ h.hl,h.tu.up fun b d e=>s _ _ e⟩
theorem Nd.push {H a:Hp} {l p:Addr} {ps:List Addr} {c:List (List V)} {ys:List V} (h:Nd H a l ps c) (d:a p=some (.tup ys)):Nd H (upd a l (.lst (ps.map V.ref++[.ref p]))) l (ps++[p]) (c++[ys]):=by
 have k:∀b zs,a b=some (.tup zs)->upd a l (.lst (ps.map V.ref++[.ref p])) b=some (.tup zs):=fun b zs e=>by
  rw[AR (Tu e h.hl (by intro z;cases z))];exact e
 exact⟨h.same.put h.nl,h.nl,by rw[AF,List.map_append];rfl,(h.tu.up k).push (k _ _ d)⟩
def JD:Sp:=fun c H Q _=>∃(r:V) (w:Str) (xs zs:List V) (p:Addr),c=[r]/\Rw H r w xs zs p/\∀(l:Addr) (b:List Addr) (a:Hp),AJ H a->H l=none->a l=some (.lst (b.map V.ref))->CS a b (CK w xs zs)->Q (.ref l) a
def S_ (H:Hp) (v:V) (w:Str) (xs zs:List V):Prop:=if w="lacks"then Fn H v xs else if Cs (.str w) Bv=true/\Ot ((Cr w xs zs).getLastD .Ao)=false then Fn H v (Cr w xs zs)else v=.Ao
def Ma:Sp:=fun b H Q _=>∃(r:V) (w:Str) (xs zs:List V) (p:Addr),b=[r]/\Rw H r w xs zs p/\∀v a,AJ H a->S_ a v w xs zs->Q v a
theorem DH {w:Str} {xs zs:List V} (b:steps xs) (a:steps zs):steps (Cr w xs zs):=by
 unfold Cr
 split
 ·exact a
 ·split
  ·exact IT a
  ·exact b
theorem IU {w:Str} {xs zs:List V} (b:steps xs) (c:steps zs):∀ys∈CK w xs zs,steps ys:=by
 intro ys a
 unfold CK nA nB nC at a
 have d:∀l:List V,steps l->steps l.dropLast:=fun l h z c=>h z (List.dropLast_subset _ c)
 rcases List.mem_append.mp a with a|a
 ·rcases List.mem_append.mp a with a|a
  ·split at a
   ·rw[List.mem_singleton.mp a];exact b
   ·cases a
  ·split at a
   ·rw[List.mem_singleton.mp a];exact d _ b
   ·cases a
 ·split at a
  ·rw[List.mem_singleton.mp a];exact d _ (DH b c)
  ·cases a
theorem Lb {w:Str} {xs zs:List V}:(CK w xs zs).length<=3:=by
 unfold CK nA nB nC
 rw[List.length_append,List.length_append]
 split<;>split<;>split<;>simp
def NoT (H:Hp) (v:V):Prop:=v=.Ao∨∃(a:Addr) (b:List V),v=.ref a/\H a=some (.tup b)
theorem Fn.up {H b:Hp} {v:V} {ys:List V} (h:Fn H v ys) (s:AJ H b):Fn b v ys:=by
 obtain⟨t,a,l,e,c,d,f⟩:=h
 exact⟨t,a,l,e,s _ _ c,s _ _ d,f⟩
theorem Dc.JE {us:List V}:∀{d e n:Dc},d.Wf->d.sub us=some e->d.ok->n.ok->(d.Au us n).ok:=by
 induction us with
 |nil=>
  intro d e n _ h _ f
  have:Dc.Au d [] n=n:=by cases d<;>rfl
  rw[this];exact f
 |cons z r o=>
  intro d e n p h b f
  rcases Dc.Br h with⟨a,xs,i,x,rfl,rfl,g,j⟩|⟨a,v,xs,k,x,rfl,rfl,g,j⟩
  ·cases p with
   |row l=>
    simp only[Dc.ok]at b
    have c:=ACG g
    have m:=o (l x c) j (Dc.Bi.mp b x c) f
    rw[Dc.DR g]
    simp only[Dc.ok]
    refine Dc.Bi.mpr fun y q=>?_
    rcases List.mem_or_eq_of_mem_set q with q|q
    ·exact Dc.Bi.mp b y q
    ·rw[q];exact m
  ·cases p with
   |tab t u l=>
    have s:=Dc.B_ t u g
    simp only[Dc.ok]at b
    have c:=ACG s
    have m:=o (l x c) j (Dc.Bi.mp b.2 x c) f
    rw[Dc.Ca s]
    simp only[Dc.ok]
    refine⟨b.1,Dc.Bi.mpr fun y q=>?_⟩
    rcases List.mem_or_eq_of_mem_set q with q|q
    ·exact Dc.Bi.mp b.2 y q
    ·rw[q];exact m
theorem Dc.Yi {e:Dc} {z:V} (h:e.ok):(Dc.Bh e z).ok:=by
 cases e with
 |leaf v=>cases z<;>exact h
 |row a xs=>
  cases z with
  |int i=>
   simp only[Dc.Bh,Dc.ok]at h⊢
   exact Dc.Bi.mpr fun y q=>Dc.Bi.mp h y (List.mem_of_mem_eraseIdx q)
  |_=>exact h
 |tab a b xs=>
  cases z with
  |str k=>
   simp only[Dc.Bh,Dc.ok]at h⊢
   exact⟨fun y q=>h.1 y (List.mem_of_mem_eraseIdx q),Dc.Bi.mpr fun y q=>Dc.Bi.mp h.2 y (List.mem_of_mem_eraseIdx q)⟩
  |_=>exact h
theorem Dc.Yj {H:Hp} {d:Dc} (h:d.At H):decide (d.val=.Ao)=false:=by
 cases d with
 |leaf v=>
  rcases(show Dc.Lf v from h)with⟨i,rfl⟩|⟨x,rfl,_⟩<;>rfl
 |row a xs=>rfl
 |tab a b xs=>rfl
def Mb:Sp:=fun _ _ _ _=>False
def low (xs:List V):Prop:=∀z∈xs,∀i:Int,z=.int i->i.natAbs<1000
def jv (H:Hp) (vs:List V):Prop:=∀v∈vs,∃(p:Addr) (xs:List V),v=.ref p/\H p=some (.tup xs)/\steps xs/\xs≠[]/\xs.length<=20/\low xs
def wW (H:Hp) (v:V):Prop:=∃d:PyData,Iv H v d/\d.showable=true/\d.shown.length<=sizeLine/\d.depth<=100
def yf (H:Hp) (v:V) (b n:Nat):Prop:=∃D:PyData,Iv H v D/\D.showable=true/\D.leavesShort 2000=true/\D.bulk<=b/\D.depth<=n
def yg (H:Hp) (xs:List V) (b n:Nat):Prop:=∃a:List PyData,FD H xs a/\PyData.showableAll a=true/\PyData.leavesShortAll 2000 a=true/\PyData.bulkAll a<=b/\PyData.depthAll a<=n
section
variable{prog:Program} {w:World} {A:Around} {E:Value->Shared->Prop} {s:Shared}
abbrev mJ (h:Heap) (z TI TO T:Addr) (f:Bool):Prop:=
 h.get? z=some {cls:=.type "zip",dict:=none,data:=.fields #[rawInt T,.bool f,.bool false,.ref TI,.ref TO],slots:= #[]}
structure ZSt (h:Heap) (z TI TO i1 i2 l1 l2 S:Addr) (i:Nat) (xs ys:Array Value):Prop where
 st:(i=0/\IsZip h z TI TO .none/\∃a b,IsPair h TO a b)∨∃T f oT,mJ h z TI TO T f/\h.get? T=some oT/\T≠z/\T≠i1/\T≠i2/\T≠S
 ti:IsPair h TI (.ref i1) (.ref i2)
 h1:h.IsListIter i1 l1 i
 h2:h.IsListIter i2 l2 i
 L1:h.IsList l1 xs
 L2:h.IsList l2 ys
structure ZG (xs ys:Array Value) (lo:Addr) (h:Heap) (as:List Addr):Prop where
 rise:as.Pairwise (·<·)
 above:∀a∈as,lo<a
 there:∀a∈as,a<h.objs.size
 pairs:∀(j:Nat) (a:Addr),as[j]?=some a->∃x y,xs[j]?=some x/\ys[j]?=some y/\IsPair h a x y
end
section
variable{prog:Program} {w:World} {A:Around} {s:Shared} {R:Result->Shared->Prop} {xs ys:Array Value}
end
section
variable{prog:Program} {w:World} {A:Around} {E:Value->Shared->Prop} {s:Shared} {xs ys:Array Value}
end
section
variable{X:Cx} {pins:List (Addr×Obj)} {σ:St} {H:Hp} {s:Shared}
inductive yh (x y:V) (H:Hp) (Q:VK):Prop
 |mk (a b:Addr) (xs ys:List V) (e:x=.ref a) (f:y=.ref b) (g:H a=some (.lst xs)) (h:H b=some (.lst ys)) (l:xs.length=ys.length)
   (q:∀(p:Addr) (d:List Addr) (c:Hp),AJ H c->H p=none->c p=some (.lst (d.map V.ref))->d.length=xs.length->(∀(j:Nat) t x y,d[j]?=some t->xs[j]?=some x->ys[j]?=some y->c t=some (.tup [x,y]))->Q (.ref p) c):yh x y H Q
end
section
variable{prog:Program} {w:World} {A:Around} {E:Value->Shared->Prop} {s:Shared}
structure wX (h:Heap) (b:Addr) (dd:Option Addr) (es:Array DictEntry) (n:Nat) (sl:Array (Option Value)):Prop where
 ho:h.get? b=some {cls:=.type "dict",dict:=dd,data:=.dict es n,slots:=sl}
end
open PySem.AutoSeq1 (wpAny_loadPart')
open PySem.MeetsSeq3
section
variable{prog:Program} {w:World} {A:Around} {s:Shared}
def Ou (prog:Program) (w:World) (A:Around) (s:Shared) (u v:Value):Prop:=∀(E:Value->Shared->Prop) (Q:Bool->Shared->Prop),Q true s->wpAny (model prog w) A (eqBool u v) Q E s
def gr (prog:Program) (w:World) (A:Around) (s:Shared) (u v:Value):Prop:=∀(E:Value->Shared->Prop) (Q:Value->Shared->Prop),Q (.bool true) s->wpAny (model prog w) A (richCompare .Eq u v) Q E s
theorem Ou.of {u v:Value} (h:SeqAt.EqAt A s u v true):Ou prog w A s u v:=fun E Q a=>h prog w E Q a
theorem Ou.refs {l b:Addr} (h:l≠b->gr prog w A s (.ref l) (.ref b)):Ou prog w A s (.ref l) (.ref b):=fun E Q c=>by
 by_cases e:l=b
 ·subst e
  exact SeqAt.EqAt.same _ prog w E Q c
 ·unfold eqBool
  refine wpAny_holding ?_
  refine wpAny_ite_split (fun a=>absurd (by have:=eq_of_beq a;injection this) e) (fun _=>?_)
  exact wpAny_bind (h e E _ (wpAny_truthy_bool c))
theorem call_one {E:Value->Shared->Prop} {T:String} {name:Str} {id:String} {B:Builtin} {self:Value} {rest:List Value} {Q:Value->Shared->Prop} (slot:Slot T name id) (c:s.TypeIs self T) (entry:entryFor table id=some B) (args:argsOk id ⟨self::rest,[]⟩)
  (g:wpAny (model prog w) A.in1 (B ⟨self::rest,[]⟩) (fun fin a=>match fin with| .done f=>wants Q E (.ok f) a| .again b=>b.quiet=true/\codeAny (model prog w) A b (wants Q E) a) (fun e a=>wants Q E (.error e) a) s):
  wpAny (model prog w) A (call (.builtin id) (self::rest)) Q E s:=wpAny_call (codeAny_call_builtin slot.plain entry (slot.check _ _ _ _ _ _ _ _ c args g))
theorem Vi {l b:Addr} {items a:Array Value} {n n2:Nat} {r m:Option Addr} {t o:Array (Option Value)} (hsz:items.size=a.size) (p:s.heap.get? l=some {cls:=.type "list",dict:=r,data:=.seq items n,slots:=t})
  (q:s.heap.get? b=some {cls:=.type "list",dict:=m,data:=.seq a n2,slots:=o}) (u:∀j (D:j<items.size) (E:j<a.size),Ou prog w A.in1 s items[j] a[j]) {R:Result->Shared->Prop} (v:R (.ok (.ret (.bool true))) s):
  ∀k i:Nat,items.size-i=k->i<=items.size->codeAny (model prog w) A (.builtin "list.__eq__.loop" ⟨[.ref l,.ref b,rawInt i,rawInt 2],[]⟩) R s:=by
 obtain⟨F,g,d,G,os⟩:=s
 intro k
 induction k with
 |zero=>
  intro i x y
  have z:i=items.size:=by lia
  refine codeAny_builtin entry_eq_loop ?_
  rw[Around.under_plainId plain_eq_loop _]
  wp_walk using wpAny_loadPart' p,wpAny_loadPart' q
  have e:items[((i:Nat):Int).toNat]?=none:=by simp;lia
  have f:a[((i:Nat):Int).toNat]?=none:=by simp;lia
  rw[e,f]
  wp_walk using wpAny_loadPart' p,wpAny_loadPart' q
  show R (.ok (.ret (.bool (items.size==a.size)))) _
  rw[hsz]
  simpa using v
 |succ k B=>
  intro i x y
  refine codeAny_builtin entry_eq_loop ?_
  rw[Around.under_plainId plain_eq_loop _]
  wp_walk using wpAny_loadPart' p,wpAny_loadPart' q
  have h:i<items.size:=by lia
  have c:i<a.size:=by lia
  have e:items[((i:Nat):Int).toNat]?=some items[i]:=by simp[h]
  have f:a[((i:Nat):Int).toNat]?=some a[i]:=by simp[c]
  have C:((i:Int)+1)=((i+1:Nat):Int):=by push_cast;rfl
  rw[e,f]
  refine wpAny_bind (u i h c _ _ ?_)
  wp_walk
  rw[C]
  exact⟨plainId_quiet plain_eq_loop _,B (i+1) (by lia) h⟩
theorem Vj {l b:Addr} {items a:Array Value} (p:s.heap.IsList l items) (q:s.heap.IsList b a) (hsz:items.size=a.size) (r:A.units<cLine)
  (t:∀j (B:j<items.size) (C:j<a.size),Ou prog w A.in1 s items[j] a[j]):gr prog w A s (.ref l) (.ref b):=fun E Q h=>by
 obtain⟨⟨u,D,data,G⟩,i,k,n,m⟩:=id p
 obtain⟨⟨o,v,data2,y⟩,c,e,H,f⟩:=id q
 simp only at k m e f
 subst k m e f
 refine wpAny_richCompare_same_room (op:=.Eq) ⟨_,i,rfl⟩ ⟨_,c,rfl⟩ F.slot_list_eq (call_one F.slot_list_eq ⟨_,i,rfl⟩ F.entry_list_eq (F.args_list_eq_2 _ _) ?_) r
 obtain⟨I,g,d,J,os⟩:=s
 have K:=AutoSeq1.sub_list_list
 have z:¬(items.size !=a.size)=true:=by simp[hsz]
 wp_walk using wpAny_loadPart' i,wpAny_loadPart' c
 exact⟨plainId_quiet plain_eq_loop _,Vi hsz i c t (show(Value.bool true≠Value.notImplemented)/\Q (.bool true) _ from⟨(fun x=>nomatch x),h⟩) _ 0 rfl (Nat.zero_le _)⟩
theorem S' {l b:Addr} {items a:Array Value} (G:s.heap.IsTuple l items) (H:s.heap.IsTuple b a) (hsz:items.size=a.size) (I:A.units<cLine)
  (J:∀j (v:j<items.size) (z:j<a.size),Ou prog w A.in1 s items[j] a[j]):gr prog w A s (.ref l) (.ref b):=fun E Q h=>by
 obtain⟨⟨K,S,data,T⟩,r,B,n,C⟩:=id G
 obtain⟨⟨D,L,data2,M⟩,f,k,U,m⟩:=id H
 simp only at B C k m
 subst B C k m
 refine wpAny_richCompare_same_room (op:=.Eq) ⟨_,r,rfl⟩ ⟨_,f,rfl⟩ F.slot_tuple_eq (wpAny_call_entry F.slot_tuple_eq ⟨_,r,rfl⟩ F.entry_tuple_eq ?_ (F.args_tuple_eq_2 _ _)) I
 obtain⟨N,g,d,O,os⟩:=s
 have V:=AutoSeq1.sub_tuple_tuple
 wp_walk using wpAny_loadPart' r,wpAny_loadPart' f,wpAny_forIn_list _ (fun rest b t=>b.1=none/\t=⟨N,g,d,O,os⟩/\∃i,rest=(items.toList.zip a.toList).drop i) _
 case turn=>
  rintro⟨y,x⟩ rest b t ⟨c,rfl,i,o⟩
  have p:i<(items.toList.zip a.toList).length:=by
   rcases Nat.lt_or_ge i (items.toList.zip a.toList).length with u|u
   ·exact u
   ·rw[List.drop_of_length_le u]at o;cases o
  have v:i<items.size:=by simp at p;lia
  have z:i<a.size:=by lia
  rw[List.drop_eq_getElem_cons p]at o
  injection o with q e
  have P:y=items[i]:=by have:=congrArg Prod.fst q;simpa using this
  have R:x=a[i]:=by have:=congrArg Prod.snd q;simpa using this
  subst P R
  refine wpAny_bind (J i v z _ _ ?_)
  wp_walk
  exact⟨rfl,rfl,i+1,e⟩
 case fin=>
  rintro⟨W,X⟩ t ⟨c,rfl,i,o⟩
  simp only at c
  subst c
  wp_walk
  exact⟨_,rfl,(fun x=>nomatch x),by simpa[Builtin.Tuple.tupleCompareSizes,hsz]using h⟩
 case h=>
  exact⟨rfl,rfl,0,rfl⟩
theorem Fo {a:Type} [DecidableEq a]:∀{b:List (a×Value)} {j:Nat} {k:a} {v:Value},(b.map (·.1)).Nodup->b[j]?=some (k,v)->valueAt b k=some v
 |[],j,k,v,_,h=>by simp at h
 |p::r,0,k,v,_,h=>by
  simp at h
  subst h
  simp[valueAt]
 |p::r,j+1,k,v,c,h=>by
  rw[List.map_cons]at c
  obtain⟨n1,n2⟩:=List.nodup_cons.mp c
  have d:r[j]?=some (k,v):=by simpa using h
  have g:¬p.1=k:=fun e=>n1 (by rw[e];exact List.mem_map.mpr ⟨_,ACG d,rfl⟩)
  have f:=Fo n2 d
  unfold valueAt at f⊢
  rw[List.find?_cons_of_neg (by simpa using g)]
  exact f
theorem Vk {P:Type} [DecidableEq P] {knd:PySem.KeyKind prog w P} {a b:Addr} {y m:List (P×Value)} (ha:(a==sysModules)=false) (hb:(b==sysModules)=false) (O:s.heap.DictOf knd a y) (R:s.heap.DictOf knd b m)
  (hk:y.map (·.1)=m.map (·.1)) (hu:A.units<cLine) (he:∀(j:Nat) k u v,y[j]?=some (k,u)->m[j]?=some (k,v)->Ou prog w A.in1 s u v):gr prog w A s (.ref a) (.ref b):=fun E Q h=>by
 have ll:y.length=m.length:=by have:=congrArg List.length hk;simpa using this
 refine wpAny_richCompare_same_room (op:=.Eq) O.typeIs R.typeIs PySem.F.slot_dict_eq (wpAny_call_entry PySem.F.slot_dict_eq O.typeIs PySem.F.entry_dict_eq ?_ (PySem.F.args_dict_eq_2 _ _)) hu
 show wpAny _ _ (Builtin.Dict.dictSlotArgs "__eq__" ⟨[.ref a,.ref b],[]⟩>>=_) _ _ s
 refine wpAny_bind ?_
 unfold Builtin.Dict.dictSlotArgs
 refine wpAny_bind (wpAny_notOrdered_dict O.typeIs ?_)
 show wpAny _ _ (pure (Value.ref a,Value.ref b)) _ _ s
 refine wpAny_pure ?_
 refine wpAny_bind (wpAny_isInstance (T:="dict") R.typeIs PySem.F.sub_dict_dict ?_)
 simp only[Bool.not_true,Bool.false_eq_true,if_false]
 refine wpAny_bind (wpAny_pure (wpAny_bind (wpAny_pure ?_)))
 obtain⟨oa,d,ep,n,_,o,S,G,yi⟩:=O
 obtain⟨ob,f,yj,p,_,r,H,C,U⟩:=R
 have I:y.length=d.size:=by rw[<-G.length];exact Array.length_toList
 have J:m.length=f.size:=by rw[<-C.length];exact Array.length_toList
 refine wpAny_bind ?_
 unfold Builtin.Dict.samePairs Builtin.Dict.showsAll
 rw[if_neg (show¬(a==sysModules)=true by rw[ha];exact Bool.false_ne_true),if_neg (show¬(b==sysModules)=true by rw[hb];exact Bool.false_ne_true)]
 refine wpAny_bind (wpAny_pure (wpAny_bind (wpAny_pure ?_)))
 refine wpAny_bind (wpAny_dictEntries n o ?_)
 dsimp only
 refine wpAny_bind (wpAny_dictEntries p r ?_)
 rw[if_neg (by rw[<-I,<-J,ll];simp)]
 refine wpAny_bind (wpAny_dictEpoch n o ?_)
 refine wpAny_bind ?_
 rw[Std.Legacy.Range.forIn_eq_forIn_range']
 simp only[Std.Legacy.Range.size,Nat.sub_zero,Nat.add_sub_cancel,Nat.div_one]
 have fin:∃v,Fin.done (Flow.ret (Value.bool (true==true)))=.done (.ret v)/\v≠.notImplemented/\Q v s:=⟨_,rfl,(fun x=>nomatch x),h⟩
 refine wpAny_forIn_list _ (fun rest q V=>V=s/\q=(none,())/\∃i,rest=List.range' i (d.size-i)/\i<=d.size) _ ?_ ?_ _ _ ⟨rfl,rfl,0,by simp,Nat.zero_le _⟩
 ·rintro x rest q V ⟨rfl,rfl,i,K,hi⟩
  have g:i<d.size:=by
   rcases Nat.lt_or_ge i d.size with h|h
   ·exact h
   ·rw[Nat.sub_eq_zero_of_le h]at K;simp at K
  obtain⟨rfl,D⟩:x=i/\rest=List.range' (i+1) (d.size-(i+1)):=by
   have e:d.size-i=(d.size-(i+1))+1:=by lia
   rw[e,List.range'_succ]at K
   injection K with h1 h2
   exact⟨h1,h2⟩
  have L:x<y.length:=by rw[I];exact g
  have M:x<m.length:=by lia
  obtain⟨k,u,W⟩:∃k u,y[x]=(k,u):=⟨_,_,rfl⟩
  obtain⟨t,v,X⟩:∃k v,m[x]=(k,v):=⟨_,_,rfl⟩
  have Y:y[x]?=some (k,u):=by rw[ACD L,W]
  have Z:m[x]?=some (t,v):=by rw[ACD M,X]
  have ek:t=k:=by
   have:=congrArg (fun l=>l[x]?) hk
   simp only[List.getElem?_map,Y,Z]at this
   simpa using this.symm
  subst ek
  have hv:=Fo U Z
  refine wpAny_bind (wpAny_dictEntries n o ?_)
  rw[Array.getElem?_eq_getElem g]
  obtain⟨z,N⟩:=G.get? (i:=x) (e:=d[x]) (k:=t) (v:=u) (by rw[Array.getElem?_toList];exact Array.getElem?_eq_getElem g) Y
  obtain⟨k2,mK,hh⟩:=S d[x] (Array.getElem_mem g)
  have mL:k2=t:=knd.inj _ _ _ mK z
  rw[mL]at hh
  show wpAny _ _ (holding [d[x].key,d[x].val] _>>=_) _ _ _
  rw[hh]
  refine wpAny_bind (wpAny_holding (wpAny_bind (wpAny_dictFind_of z p r H ?_)))
  have c:findBy knd.is f t=valueAt m t:=by
   rw[<-C.find t]
   clear J C H r p
   obtain⟨l⟩:=f
   simp[findBy]
  cases hj:f.findIdx? fun e=>knd.is t e.key with
  |none=>
   rw[findBy_of_findIdx?,hj,hv]at c
   exact nomatch c
  |some j=>
   obtain⟨B,_,_⟩:=Array.findIdx?_eq_some_iff_getElem.mp hj
   have mM:f[j].val=v:=by
    rw[findBy_of_findIdx?,hj,hv]at c
    simpa[Array.getElem?_eq_getElem B]using c
   refine wpAny_bind (wpAny_dictEntries p r ?_)
   rw[Array.getElem?_eq_getElem B]
   refine wpAny_holding ?_
   rw[mM,N]
   refine he x t u v Y Z _ _ ?_
   show wpAny _ _ (if(!true)=true then _ else _) _ _ _
   rw[if_neg (by decide)]
   refine wpAny_bind (wpAny_dictEpoch n o ?_)
   rw[if_neg (by simp)]
   exact wpAny_pure ⟨rfl,rfl,x+1,D,g⟩
 ·rintro q V ⟨rfl,rfl,i,K,hi⟩
  exact wpAny_pure (wpAny_pure fin)
end
class An (K:outParam ACH):Prop where
 x:True
structure Kps (H H':Hp):Prop where
 rd:FN H H'
 tp:∀a vs,H a=some (.tup vs)->H' a=some (.tup vs)
inductive jw (K:ACH) (H:Hp):V->String->Prop where
 |n {v:V} {T:String} (h:PX H v T):jw K H v T
 |t {a:Addr} {xs:List V} (h:Ah K H a xs):jw K H (.ref a) "tuple"
section
variable{X:Cx}
inductive gs (K:ACH) (xs:List V) (H:Hp) (Q:VK):Prop
 |mk (x:_) (c:_) (T:_) (a:xs=[x,.ty c]) (b:YF c=true) (d:jw K H x T) (e:Q (.bl (bU T c)) H):gs K xs H Q
def gu (T:String):Bool:=T=="list"||T=="tuple"
inductive bz (K:ACH) (xs:List V) (H:Hp) (Q:VK):Prop
 |mk (x:V) (p:Addr) (T:String) (a:xs=[x,.ref p]) (b:H p=some (.tup [.ty "list",.ty "tuple"])) (c:jw K H x T) (d:Q (.bl (gu T)) H):bz K xs H Q
end
inductive Pt where
 |int (i:Int)
 |str (x:Str)
 |bl (b:Bool)
 |lst (xs:List Pt)
 |tup (xs:List Pt)
 |Dr (ks:List Str) (xs:List Pt)
namespace Pt
mutual
def size:Pt->Nat
 |int _|str _|bl _=>1
 |lst xs|tup xs=>1+Ab xs
 |Dr _ xs=>1+Ab xs
def Ab:List Pt->Nat
 |[]=>0
 |x::r=>size x+Ab r
end
mutual
def deep:Pt->Nat
 |int _|str _|bl _=>1
 |lst xs|tup xs=>1+Cf xs
 |Dr _ xs=>1+Cf xs
def Cf:List Pt->Nat
 |[]=>0
 |x::r=>max (deep x) (Cf r)
end
mutual
def doc:Pt->Prop
 |int _=>True
 |str x=>x.length<=100
 |bl _=>False
 |tup _=>False
 |lst xs=>Yk xs
 |Dr ks xs=>ks.length=xs.length/\ks.Nodup/\(∀k∈ks,Be k=true)/\ks.length<64/\Yk xs
def Yk:List Pt->Prop
 |[]=>True
 |x::r=>doc x/\Yk r
end
def look (ks:List Str) (xs:List Pt) (k:Str):Option Pt:=(ks.zip xs).lookup k
mutual
def eg:Pt->Pt->Bool
 |int i,int j=>i==j
 |str x,str y=>x==y
 |bl a,bl b=>a==b
 |lst xs,lst ys=>b_ xs ys
 |tup xs,tup ys=>b_ xs ys
 |Dr ks xs,Dr c ys=>ks.length==c.length&&gw ks xs c ys
 |_,_=>false
def b_:List Pt->List Pt->Bool
 |[],[]=>true
 |x::xs,y::ys=>eg x y&&b_ xs ys
 |_,_=>false
def gw:List Str->List Pt->List Str->List Pt->Bool
 |k::ks,x::xs,a,ys=>(match look a ys k with|some y=>eg x y|none=>false)&&gw ks xs a ys
 |_,_,_,_=>true
end
theorem Jr (t:Pt):1<=t.deep:=by cases t<;>simp only[deep]<;>lia
theorem Bz:∀{xs:List Pt} {x:Pt},x∈xs->x.deep<=Cf xs
 |y::r,x,h=>by
  simp only[Cf]
  rcases List.mem_cons.mp h with rfl|h
  ·lia
  ·have:=Bz h;lia
end Pt
mutual
inductive Val {K:ACH} [An K] (H:Hp):V->Pt->Prop
 |int (i:Int):Val H (.int i) (.int i)
 |str (x:Str):Val H (.str x) (.str x)
 |bl (b:Bool):Val H (.bl b) (.bl b)
 |lst {a:Addr} {vs:List V} {c:List Pt} (h:Rd H a (.lst vs)) (r:Ei H vs c):Val H (.ref a) (.lst c)
 |tup {a:Addr} {vs:List V} {c:List Pt} (h:Ah K H a vs) (r:Ei H vs c):Val H (.ref a) (.tup c)
 |Dr {a:Addr} {kvs:List (Key×V)} {ks:List Str} {c:List Pt} (h:Rd H a (.dK kvs)) (d:kvs.map (·.1)=ks.map Sum.inr) (r:Ei H (kvs.map (·.2)) c):Val H (.ref a) (.Dr ks c)
inductive Ei {K:ACH} [An K] (H:Hp):List V->List Pt->Prop
 |nil:Ei H [] []
 |cons {v:V} {t:Pt} {vs:List V} {a:List Pt} (h:Val H v t) (r:Ei H vs a):Ei H (v::vs) (t::a)
end
section
variable{K:ACH} [An K]
theorem Ei.length {H:Hp}:∀{vs:List V} {a:List Pt},Ei H vs a->vs.length=a.length
 |_,_,.nil=>rfl
 |_,_,.cons _ r=>by rw[List.length_cons,List.length_cons,r.length]
theorem Ei.get {H:Hp}:∀{vs:List V} {a:List Pt},Ei H vs a->∀{i:Nat} {v:V},vs[i]?=some v->∃t,a[i]?=some t/\Val H v t
 |_,_,.nil,i,v,h=>by simp at h
 |_,_,.cons h r,0,v,e=>by
  simp at e
  subst e
  exact⟨_,by simp,h⟩
 |_,_,.cons h r,i+1,v,e=>by
  obtain⟨t,b,c⟩:=r.get (i:=i) (v:=v) (by simpa using e)
  exact⟨t,by simpa using b,c⟩
end
section
variable{K:ACH} [An K]
end
section
variable{X:Cx} [An X.K] {pins:List (Addr×Obj)} {σ:St} {H:Hp} {s:Shared}
theorem Ei.at {vs:List V} {b:List Pt} {its:List Value} (r:Ei H vs b) (d:Vals vs its) {j:Nat} (h:j<its.toArray.size):∃v t,vs[j]?=some v/\b[j]?=some t/\Val H v t/\RelV v its.toArray[j]:=by
 obtain⟨v,c,a⟩:=HK d h
 obtain⟨t,e,f⟩:=r.get c
 exact⟨v,t,c,e,f,a⟩
theorem Pt.Py (I:Inv X pins σ H s):∀(t:Pt),(∀t':Pt,t'.deep<t.deep->∀{x y:V},Val H x t'->Val H y t'->∀{A:Around} {u v:Value},A.units+t'.deep<cLine->RelV x u->RelV y v->Ou X.prog X.w A s u v)->∀{a b:Addr},Val H (.ref a) t->Val H (.ref b) t->∀{A:Around},A.units+t.deep<cLine->gr X.prog X.w A s (.ref a) (.ref b)
 | .int _,_,_,_,h,_,_,_=>nomatch h
 | .str _,_,_,_,h,_,_,_=>nomatch h
 | .bl _,_,_,_,h,_,_,_=>nomatch h
 | .lst r,E,a,b,.lst (vs:=vs) F n,.lst (vs:=ws) G o,A,J=>by
  simp only[Pt.deep]at J
  obtain⟨p,L,R,_⟩:=I.list (.inl F)
  obtain⟨f,M,S,_⟩:=I.list (.inl G)
  have T:p.toArray.size=r.length:=by rw[List.size_toArray,<-L.length,n.length]
  have U:f.toArray.size=r.length:=by rw[List.size_toArray,<-M.length,o.length]
  refine Vj R.isList S.isList (by rw[T,U]) (by lia) fun j B C=>?_
  obtain⟨v,t,g1,l,N,D⟩:=n.at L B
  obtain⟨v',t',O,c,i,d⟩:=o.at M C
  have e:t'=t:=by rw[l]at c;exact(ACF c).symm
  subst e
  have dl:=Pt.Bz (ACG l)
  exact E t' (by simp only[Pt.deep];lia) N i (by show A.units+1+_<cLine;lia) D d
 | .tup r,E,a,b,.tup (vs:=vs) F n,.tup (vs:=ws) G o,A,J=>by
  simp only[Pt.deep]at J
  obtain⟨p,L,R,_⟩:=I.tuple F
  obtain⟨f,M,S,_⟩:=I.tuple G
  have T:p.toArray.size=r.length:=by rw[List.size_toArray,<-L.length,n.length]
  have U:f.toArray.size=r.length:=by rw[List.size_toArray,<-M.length,o.length]
  refine S' R S (by rw[T,U]) (by lia) fun j B C=>?_
  obtain⟨v,t,g1,l,N,D⟩:=n.at L B
  obtain⟨v',t',O,c,i,d⟩:=o.at M C
  have e:t'=t:=by rw[l]at c;exact(ACF c).symm
  subst e
  have dl:=Pt.Bz (ACG l)
  exact E t' (by simp only[Pt.deep];lia) N i (by show A.units+1+_<cLine;lia) D d
 | .Dr ks r,E,a,b,.Dr (kvs:=kvs) F W n,.Dr (kvs:=Y) G Z o,A,J=>by
  simp only[Pt.deep]at J
  obtain⟨z,hm,vs,P,dd⟩:=FJ I.Bl F
  obtain⟨z',yk,q,m,ym⟩:=FJ I.Bl G
  have k1:vs.map (·.1)=kvs.map (·.1):=(KV.keys P).symm
  have k2:q.map (·.1)=Y.map (·.1):=(KV.keys m).symm
  refine Vk hm yk dd ym (by rw[k1,k2,W,Z]) (by lia) fun j k u u' g g'=>?_
  have gv:(vs.map (·.2))[j]?=some u:=by rw[List.getElem?_map,g];rfl
  have Q:(q.map (·.2))[j]?=some u':=by rw[List.getElem?_map,g'];rfl
  have B:j<(vs.map (·.2)).toArray.size:=by rw[List.size_toArray];exact(ACE gv).1
  have C:j<(q.map (·.2)).toArray.size:=by rw[List.size_toArray];exact(ACE Q).1
  obtain⟨v,t,g1,l,N,D⟩:=n.at (JC P) B
  obtain⟨v',t',O,c,i,d⟩:=o.at (JC m) C
  rw[Jy gv B]at D
  rw[Jy Q C]at d
  have e:t'=t:=by rw[l]at c;exact(ACF c).symm
  subst e
  have dl:=Pt.Bz (ACG l)
  exact E t' (by simp only[Pt.deep];lia) N i (by show A.units+1+_<cLine;lia) D d
theorem Pt.cA (I:Inv X pins σ H s):∀(t:Pt),(∀t':Pt,t'.deep<t.deep->∀{x y:V},Val H x t'->Val H y t'->∀{A:Around} {u v:Value},A.units+t'.deep<cLine->RelV x u->RelV y v->Ou X.prog X.w A s u v)->∀{x y:V},Val H x t->Val H y t->∀{A:Around} {u v:Value},A.units+t.deep<cLine->RelV x u->RelV y v->Ou X.prog X.w A s u v
 | .int i,e,_,_,.int _,.int _,A,u,v,_,c,d=>by
  obtain⟨m,rfl⟩:∃t,u=Value.int i t:=c
  obtain⟨n,rfl⟩:∃t,v=Value.int i t:=d
  have:=SeqAt.EqAt.int_int (A:=A) (s:=s) i m i n
  rw[beq_self_eq_true]at this
  exact .of this
 | .str x,e,_,_,.str _,.str _,A,u,v,_,c,d=>by
  obtain⟨m,rfl⟩:∃t,u=Value.str x t:=c
  obtain⟨n,rfl⟩:∃t,v=Value.str x t:=d
  have:=SeqAt.EqAt.str_str (A:=A) (s:=s) x m x n
  rw[beq_self_eq_true]at this
  exact .of this
 | .bl b,e,_,_,.bl _,.bl _,A,u,v,_,c,d=>by
  cases(show u=Value.bool b from c)
  cases(show v=Value.bool b from d)
  exact .of (SeqAt.EqAt.same _)
 | .lst f,e,_,_,.lst (a:=a) g h,.lst (a:=b) j k,A,u,v,l,c,d=>by
  cases(show u=Value.ref a from c)
  cases(show v=Value.ref b from d)
  exact Ou.refs fun _=>Pt.Py I (.lst f) e (.lst g h) (.lst j k) l
 | .tup f,e,_,_,.tup (a:=a) g h,.tup (a:=b) j k,A,u,v,l,c,d=>by
  cases(show u=Value.ref a from c)
  cases(show v=Value.ref b from d)
  exact Ou.refs fun _=>Pt.Py I (.tup f) e (.tup g h) (.tup j k) l
 | .Dr o f,e,_,_,.Dr (a:=a) g p h,.Dr (a:=b) j q k,A,u,v,l,c,d=>by
  cases(show u=Value.ref a from c)
  cases(show v=Value.ref b from d)
  exact Ou.refs fun _=>Pt.Py I (.Dr o f) e (.Dr g p h) (.Dr j q k) l
theorem Pt.Zo (I:Inv X pins σ H s):∀(n:Nat) (t:Pt),t.deep<=n->∀{x y:V},Val H x t->Val H y t->∀{A:Around} {u v:Value},A.units+t.deep<cLine->RelV x u->RelV y v->Ou X.prog X.w A s u v
 |0,t,h=>by have:=Pt.Jr t;lia
 |n+1,t,h=>fun a b=>Pt.cA I t (fun c d=>Pt.Zo I n c (by lia)) a b
end
section
inductive mN {K:ACH} [An K] (x y:V) (H:Hp) (Q:VK):Prop
 |mk (a b:Addr) (t:Pt) (c:x=.ref a) (e:y=.ref b) (f:Val H (.ref a) t) (g:Val H (.ref b) t) (d:t.deep<=60) (q:Q (.bl true) H):mN x y H Q
end
section
variable{X:Cx}
end
inductive cB:Pt->Prop
 |int (i:Int):cB (.int i)
 |str (x:Str):cB (.str x)
 |nil:cB (.lst [])
 |emp:cB (.Dr [] [])
inductive Sm:Pt->Prop
 |one {t:Pt} (h:cB t):Sm t
 |row {xs:List Pt} (h:∀x∈xs,cB x):Sm (.lst xs)
 |tab {ks:List Str} {xs:List Pt} (h:∀x∈xs,cB x):Sm (.Dr ks xs)
section
variable{A:Around} {s:Shared}
end
section
variable{X:Cx} [An X.K] {pins:List (Addr×Obj)} {σ:St} {H:Hp} {s:Shared}
end
section
inductive mO {K:ACH} [An K] (x y:V) (H:Hp) (Q:VK):Prop
 |mk (p t:Pt) (a:Val H x p) (b:Val H y t) (c:Sm p) (d:t.doc) (q:Q (.bl (Pt.eg p t)) H):mO x y H Q
end
section
variable{X:Cx}
end
def lk {a:Type} (ks:List Str) (xs:List a) (k:Str):Option a:=(ks.zip xs).lookup k
def pk {a:Type} (f:a->Pt->Bool):Option a->Option Pt->Bool
 |some x,some y=>f x y
 |_,_=>false
def wY:Pt->List V->Prop
 | .lst xs,l=>l=(List.range xs.length).map fun(i:Nat)=>V.int (i:Int)
 | .Dr ks _,l=>∃ss:List Str,l=ss.map V.str/\ss.Perm ks/\sortedS ss=true
 |_,l=>l=[]
def gx:Pt->Prop
 | .int _=>True
 | .str _=>True
 | .lst xs=>xs.length<=900
 | .Dr ks xs=>ks.length=xs.length/\ks.length<64
 |_=>False
def gy:Pt->List Pt->Prop
 | .lst xs,a=>a=xs
 | .Dr ks xs,a=>∃ss:List Str,ss.Perm ks/\sortedS ss=true/\ss.map (lk ks xs)=a.map some
 |_,a=>a=[]
section
variable{K:ACH} [An K]
def gz (H:Hp) (v s e:V):Prop:=(∃a xs j,v=.ref a/\Rd H a (.lst xs)/\s=.int ((j:Nat):Int)/\xs[j]?=some e)∨∃a kvs k,v=.ref a/\Rd H a (.dK kvs)/\s=.str k/\Ct kvs (Sum.inr k)=some e
def Pt.Xa:Pt->String
 | .int _=>"int"
 | .str _=>"str"
 | .bl _=>"bool"
 | .lst _=>"list"
 | .tup _=>"tuple"
 | .Dr _ _=>"dict"
inductive Mc {K:ACH} [An K] (G H:Hp):List Addr->List (Pt×Pt)->Prop
 |nil:Mc G H [] []
 |cons {t:Addr} {u v:V} {p:Pt×Pt} {a:List Addr} {ps:List (Pt×Pt)} (h:H t=some (.tup [u,v])) (b:Val G u p.1) (c:Val G v p.2) (r:Mc G H a ps):Mc G H (t::a) (p::ps)
end
section
variable{X:Cx}
inductive g_ (K:ACH) (xs:List V) (H:Hp) (Q:VK):Prop
 |mk (p:Addr) (bs:List Bool) (a:xs=[.ref p]) (b:Bd K H p (bs.map V.bl)) (c:Q (.bl (bs.any id)) H):g_ K xs H Q
theorem Vl (w:X.calm=true):Dz X (.builtin "any") (g_ X.K):=by
 intro pins s J H xs L Q I r h
 obtain⟨p,bs,rfl,x,q⟩:=h
 obtain⟨u,rfl,k⟩:=vals1 r
 cases k
 obtain⟨c,l,pl,M⟩:=I.list x
 obtain⟨y,d,f⟩:=id pl.isList
 have m:p<s.heap.objs.size:=Heap.lt_size d
 have n:X.A.in1.handled=none:=I.ok.hd w
 have hlen:c.toArray.size=bs.length:=by rw[List.size_toArray,<-l.length,List.length_map]
 refine call_any_walk (wpAny_pyIter_list pl.isList ⟨s.heap.objs.size,_,_,_,_,_,fun i=>bs.getD i true,rfl,Walks.list n s.heap.objs.size p (Nat.ne_of_lt m) c.toArray,⟨⟨_,Heap.get?_push_size _ rfl,rfl,rfl⟩,⟨y,Heap.get?_push_of_some _ d,f⟩⟩,?_,fun N B kept=>?_⟩)
 ·intro i v C D O g j
  have g:c[i]?=some v:=by simpa using g
  have a:i<bs.length:=by
   have:=(ACE g).1
   rw[<-l.length,List.length_map]at this
   exact this
  have e:(bs.map V.bl)[i]?=some (V.bl bs[i]):=by rw[List.getElem?_map,ACD a];rfl
  obtain⟨u,t,k⟩:=l.get e
  rw[g]at t
  cases t
  cases k
  have E:bs.getD i true=bs[i]:=by rw[List.getD_eq_getElem?_getD,ACD a];rfl
  have j:D (bs.getD i true) C:=j
  rw[E]at j
  exact wpAny_truthy_bool j
 ·refine⟨.bl (bs.any id),H,I.kept (t':=B) fun b o e=>kept b o (fun z=>?_) (Heap.get?_push_of_some _ e),?_,q⟩
  ·have F:b=s.heap.objs.size:=by simpa using z
   exact Nat.ne_of_lt (Heap.lt_size e) F
  ·show Value.bool _=Value.bool _
   congr 1
   rw[hlen,Bool.eq_iff_iff,List.any_eq_true,List.any_eq_true]
   constructor
   ·intro⟨i,a,h⟩
    have a:=List.mem_range.mp a
    rw[List.getD_eq_getElem?_getD,ACD a]at h
    exact⟨_,List.getElem_mem a,h⟩
   ·intro⟨b,G,h⟩
    obtain⟨i,a,rfl⟩:=List.mem_iff_getElem.mp G
    exact⟨i,List.mem_range.mpr a,by rw[List.getD_eq_getElem?_getD,ACD a];exact h⟩
end
inductive Ak where
 |any
 |Gk (d:Pt)
 |row (xs:List Ak) (m:Bool)
 |tab (ks:List Str) (xs:List Ak) (a:List Str) (m:Bool)
namespace Ak
mutual
def pt:Ak->Pt
 |any=>.tup [.str "any"]
 |Gk d=>.tup [.str "just",d]
 |row xs m=>.tup [.str "row",.lst (e_ xs),.bl m]
 |tab ks xs a m=>.tup [.str "table",.Dr ks (e_ xs),.lst (a.map Pt.str),.bl m]
def e_:List Ak->List Pt
 |[]=>[]
 |x::r=>pt x::e_ r
end
mutual
def size:Ak->Nat
 |any=>1
 |Gk _=>1
 |row xs _=>1+Ab xs
 |tab _ xs _ _=>1+Ab xs
def Ab:List Ak->Nat
 |[]=>0
 |x::r=>size x+Ab r
end
mutual
def deep:Ak->Nat
 |any=>1
 |Gk _=>1
 |row xs _=>1+Cf xs
 |tab _ xs _ _=>1+Cf xs
def Cf:List Ak->Nat
 |[]=>0
 |x::r=>max (deep x) (Cf r)
end
mutual
def ok:Ak->Prop
 |any=>True
 |Gk d=>Sm d/\d.doc/\d.size<=10
 |row xs _=>ML xs
 |tab ks xs a _=>ks.length=xs.length/\ks.Nodup/\(∀k∈ks,Be k=true)/\ks.length<60/\(a.length<=60/\a.Nodup/\sortedS a=true)/\(∀l∈a,l∉ks)/\ML xs
def ML:List Ak->Prop
 |[]=>True
 |x::r=>ok x/\ML r
end
def cnt (c l:Nat) (m:Bool):Bool:=c==l||(m&&decide (l<c))
mutual
def lets:Ak->Pt->Bool
 |any,_=>true
 |Gk d,t=>Pt.eg d t
 |row xs m,.lst ys=>cnt ys.length xs.length m&&Zp xs ys
 |tab ks xs b m,.Dr a ys=>(ks.all (fun k=>decide (k∈a))&& !(b.any fun k=>decide (k∈a))&&cnt a.length ks.length m)&&Zq ks xs a ys
 |_,_=>false
def Zp:List Ak->List Pt->Bool
 |a::b,y::ys=>lets a y&&Zp b ys
 |_,_=>true
def Zq:List Str->List Ak->List Str->List Pt->Bool
 |k::ks,x::xs,a,ys=>(match lk a ys k with|some y=>lets x y|none=>false)&&Zq ks xs a ys
 |_,_,_,_=>true
end
def Kp:Ak->Pt->List (Ak×Pt)->Prop
 |row xs _,.lst ys,ps=>ps=xs.zip ys
 |tab ks xs _ _,.Dr b ys,ps=>∃(ss:List Str) (a:List Ak) (bs:List Pt),ss.Perm ks/\ss.map (lk ks xs)=a.map some/\ss.map (lk b ys)=bs.map some/\ps=a.zip bs
 |_,_,ps=>ps=[]
def hold:Ak->Pt
 |row xs _=>.lst (e_ xs)
 |tab ks xs _ _=>.Dr ks (e_ xs)
 |_=>.lst []
end Ak
section
variable{K:ACH} [An K]
end
section
variable{K:ACH} [An K]
def hB:List (Ak×Pt)->Nat
 |[]=>0
 |p::r=>p.1.size+hB r
structure Prs (G:Hp) (u v:V) (a:Ak) (t:Pt) (l es fs:List V) (ps:List (Ak×Pt)):Prop where
 le:es.length=l.length
 lf:fs.length=l.length
 lp:ps.length=l.length
 ge:∀(i:Nat) e,es[i]?=some e->∃s,l[i]?=some s/\gz G u s e
 gf:∀(i:Nat) e,fs[i]?=some e->∃s,l[i]?=some s/\gz G v s e
 va:∀(i:Nat) e p,es[i]?=some e->ps[i]?=some p->Val G e p.1.pt
 vb:∀(i:Nat) e p,fs[i]?=some e->ps[i]?=some p->Val G e p.2
 kp:Ak.Kp a t ps
 ok:∀p∈ps,p.1.ok/\p.2.doc/\p.1.size<a.size/\p.2.size<t.size
 sm:hB ps<a.size
end
section
variable{K:ACH} [An K]
def nw (H a:Hp):Hp:=fun b=>match H b with
 |none=>a b
 |some _=>none
structure Bt (o:Option Addr) (H H':Hp):Prop where
 keep:∀b e,o≠some b->H b=some e->H' b=some e
 dom:∀b,H' b=none->H b=none
def yn (l:Addr) (H:Hp):Hp:=fun b=>if b=l then none else H b
section
variable{J:It} {te:TE} {fs:List Nat} {σ:St} {H:Hp} {Q:VK}
end
mutual
def Pt.nice:Pt->Prop
 | .int _| .str _| .bl _=>True
 | .lst xs| .tup xs=>xs.length<=900/\Pt.Vm xs
 | .Dr ks xs=>ks.length=xs.length/\ks.Nodup/\ks.length<=900/\Pt.Vm xs
def Pt.Vm:List Pt->Prop
 |[]=>True
 |x::r=>Pt.nice x/\Pt.Vm r
end
def hE (ks:List Str) (ws:List V):List (Key×V):=(ks.zip ws).map fun p=>(Sum.inr p.1,p.2)
theorem Vn {ks:List Str} {ws:List V} (l:ks.length=ws.length):(hE ks ws).map (·.2)=ws:=by
 unfold hE
 rw[List.map_map]
 have:(ks.zip ws).map Prod.snd=ws:=List.map_snd_zip (by lia)
 conv=>rhs;rw[<-this]
 rfl
mutual
def Pt.wide:Pt->Nat
 | .int _| .str _| .bl _=>0
 | .lst xs| .tup xs=>Pt.Vo xs
 | .Dr ks xs=>max ks.length (Pt.Vo xs)
def Pt.Vo:List Pt->Nat
 |[]=>0
 |x::r=>max (Pt.wide x) (Pt.Vo r)
end
structure Nms (H:Hp) (n:Addr) (ys:List Str):Prop where
 at_:H n=some (.lst (ys.map V.str))
 len:ys.length=4
 nd:ys.Nodup
 nb:∀y∈ys,Be y=true
structure Small (H H':Hp) (v:V) (t:Pt):Prop where
 val:Val (nw H H') v t
 sm:Sm t
 doc:t.doc
 size:t.size<=4
 deep:t.deep<=2
def ov (G H a:Hp):Hp:=fun b=>match G b with
 |some o=>some o
 |none=>nw H a b
end
section
variable{K:ACH} [An K]
end
section
variable{X:Cx}
inductive cC (K:ACH) (xs:List V) (H:Hp) (Q:VK):Prop
 |mk (d:Addr) (ss:List Str) (c:xs=[.ref d]) (e:Bd K H d (ss.map V.str)) (f:ss.length<64) (g:∀(p:Addr) (a:List Str) (b:Hp),H p=none->AJ H b->b p=some (.lst (a.map V.str))->a.Perm ss->sortedS a=true->Q (.ref p) b):cC K xs H Q
inductive cD (xs:List V) (H:Hp) (Q:VK):Prop
 |mk (d:Addr) (a:List (Key×V)) (ss:List Str) (b:xs=[.ref d]) (c:Rd H d (.dK a)) (e:a.map (·.1)=ss.map Sum.inr) (f:∀(p:Addr),H p=none->Q (.ref p) (upd H p (.lst (ss.map V.str)))):cD xs H Q
end
section
variable{K:ACH} [An K]
namespace Ak
end Ak
structure yo (H H4:Hp) (l p6 p7:Addr) (ys:List Str) (d N:Nat) (i:Nat) (Hi:Hp) (ks:List Str) (as:List Ak) (ls:List Str) (jx:List Int) (ws:List V):Prop where
 n6:H p6=none
 n7:H p7=none
 o6:H4 p6≠none
 o7:H4 p7≠none
 ne:p6≠p7
 hl:H l≠none
 h4:∀b,H4 b=none->H b=none
 bt:Bt (some l) H Hi
 dm:∀b,Hi b=none->H4 b=none
 e6:Hi p6=some (.dK (hE ks ws))
 e7:Hi p7=some (.lst (ls.map V.str))
 el:Hi l=some (.lst (jx.map V.int))
 le:jx.length<=N
 lw:ks.length=ws.length
 la:ks.length=as.length
 vl:Ei (nw H4 Hi) ws (Ak.e_ as)
 ok:Ak.ML as
 sz:Ak.Ab as<=i+4*(N-jx.length)
 dp:Ak.Cf as<=d
 ik:∀k∈ks,∃j,j<i/\ys[j]?=some k
 il:∀k∈ls,∃j,j<i/\ys[j]?=some k
 nk:ks.Nodup
 dj:∀x∈ls,x∉ks
 l4:ks.length<=i
 m4:ls.length<=i
 nl:ls.Nodup
section
variable{H H4:Hp} {l p6 p7:Addr} {ys:List Str} {d N:Nat} {i:Nat} {Hi:Hp} {ks:List Str} {as:List Ak} {ls:List Str} {jx:List Int} {ws:List V}
end
def mQ (us:List Pt):Prop:=∀u∈us,u.doc/\u.size<=4/\u.deep<=2
end
section
variable{K:ACH} [An K]
section
variable{X:Cx}
inductive hG (x:V) (y:V) (H:Hp) (Q:VK):Prop
 |mk (l b:Addr) (xs zs:List V) (a:x=.ref l) (c:y=.ref b) (d:Rd H l (.lst xs)) (e:Rd H b (.lst zs)) (f:xs.length+zs.length<=sizeLine) (g:∀p,H p=none->Q (.ref p) (upd H p (.lst (xs++zs)))):hG x y H Q
end
end
section
variable{K:ACH} [An K]
structure wZ (H5 Hi:Hp) (p5:Addr) (ws:List V) (us:List Pt):Prop where
 s:AJ H5 Hi
 n5:H5 p5=none
 f:Hi p5=some (.lst ws)
 v:Ei (yn p5 Hi) ws us
end
end L2
namespace PySem
open PyProof.Rows PySem.F PySem.Spec
end PySem
namespace L2
open PySem PySem.Spec PyProof.Rows
section
variable{prog:Program} {w:World} {K:Type} [DecidableEq K] {knd:KeyKind prog w K} {A:Around} {R:Result->Shared->Prop}
end
section
variable{X:Cx} {pins:List (Addr×Obj)} {σ:St} {H:Hp} {s:Shared}
def yq (ks:List Str) (ys:List V):List (Key×V):=(ks.zip ys).map fun p=>(Sum.inr p.1,p.2)
inductive yr (K:ACH) (x y:V) (H:Hp) (Q:VK):Prop
 |mk (a b:Addr) (ks:List Str) (ys:List V) (c:x=.ref a) (d:y=.ref b) (e:Bd K H a (ks.map V.str)) (f:Bd K H b ys) (g:ks.length=ys.length) (h:ks.length<=1000) (q:∀p,H p=none->Q (.ref p) (upd H p (.dK (DB [] (yq ks ys))))):yr K x y H Q
end
section
variable{X:Cx} {tg:Expr}
end
section
variable{K:ACH} [An K]
namespace Dc
mutual
def tr:Dc->Pt
 |leaf (.int i)=>.int i
 |leaf (.str x)=>.str x
 |leaf _=>.int 0
 |row _ xs=>.lst (Yl xs)
 |tab _ ks xs=>.Dr ks (Yl xs)
def Yl:List Dc->List Pt
 |[]=>[]
 |x::r=>tr x::Yl r
end
theorem RF:∀xs:List Dc,Yl xs=xs.map tr
 |[]=>rfl
 |x::r=>by simp only[Yl,List.map_cons,RF r]
mutual
theorem Vp {H:Hp}:∀d:Dc,d.At H->Val H d.val d.tr
 |leaf v,h=>by
  simp only[At]at h
  rcases h with⟨i,rfl⟩|⟨x,rfl,_⟩
  ·exact .int i
  ·exact .str x
 |row a xs,h=>by
  simp only[At]at h
  exact .lst h.1 (Pz xs h.2)
 |tab a ks xs,h=>by
  simp only[At]at h
  refine .Dr h.1 (Dq h.2.1) ?_
  have e:(kvs ks xs).map (·.2)=xs.map val:=by
   rw[OB]
   exact Vn (by rw[List.length_map];exact h.2.1)
  rw[e]
  exact Pz xs h.2.2.2
theorem Pz {H:Hp}:∀xs:List Dc,DF H xs->Ei H (xs.map val) (Yl xs)
 |[],_=>.nil
 |x::r,h=>by
  simp only[DF]at h
  exact .cons (Vp x h.1) (Pz r h.2)
end
end Dc
end
namespace Ak
mutual
def hH:Ak->Prop
 |any=>True
 |Gk d=>d.doc
 |row xs _=>cE xs
 |tab ks xs a _=>ks.length=xs.length/\ks.Nodup/\(∀k∈ks,Be k=true)/\ks.length<60/\a.length<=100/\(∀l∈a,l∉ks)/\cE xs
def cE:List Ak->Prop
 |[]=>True
 |x::r=>hH x/\cE r
end
mutual
def wt:Ak->Nat
 |any=>1
 |Gk d=>d.size
 |row xs _=>1+mR xs
 |tab _ xs _ _=>1+mR xs
def mR:List Ak->Nat
 |[]=>0
 |x::r=>wt x+mR r
end
mutual
def dp:Ak->Nat
 |any=>1
 |Gk d=>d.deep
 |row xs _=>1+mS xs
 |tab _ xs _ _=>1+mS xs
def mS:List Ak->Nat
 |[]=>0
 |x::r=>max (dp x) (mS r)
end
end Ak
namespace Ak
def Kd:Ak->List Ak->Prop
 |row xs _,a=>a=xs
 |tab ks xs _ _,a=>∃ss:List Str,ss.Perm ks/\sortedS ss=true/\ss.map (lk ks xs)=a.map some
 |_,a=>a=[]
end Ak
namespace Ak
def Vq:List Ak->Option (List Pt)
 |[]=>some []
 |Gk d::r=>(Vq r).map (d::·)
 |_::_=>none
def RG (a:List Ak) (m:Bool):Ak:=if m then row a true else match Vq a with
 |some b=>Gk (.lst b)
 |none=>row a false
def RH (ss:List Str) (a:List Ak) (b:List Str) (m:Bool):Ak:=if m then tab ss a b true else match Vq a with
 |some c=>Gk (.Dr ss c)
 |none=>tab ss a [] false
mutual
inductive Good:Ak->Ak->Prop
 |any:Good .any .any
 |Gk (d:Pt):Good (.Gk d) (.Gk d)
 |row {xs a:List Ak} {m:Bool} (h:Lc xs a):Good (.row xs m) (RG a m)
 |tab {ks ss:List Str} {xs b a:List Ak} {c:List Str} {m:Bool} (f:ss.Perm ks) (g:sortedS ss=true) (e:ss.map (lk ks xs)=b.map some) (h:Lc b a):Good (.tab ks xs c m) (RH ss a c m)
inductive Lc:List Ak->List Ak->Prop
 |nil:Lc [] []
 |cons {x y:Ak} {xs ys:List Ak} (h:Good x y) (r:Lc xs ys):Lc (x::xs) (y::ys)
end
end Ak
structure Bfs (root:Ak) (n:Nat) (l:List Ak) (jy:List (List Ak)):Prop where
 len:jy.length=n
 eq:l=root::jy.flatten
 kids:∀(j:Nat) a ks,l[j]?=some a->jy[j]?=some ks->Ak.Kd a ks
 ok:∀a∈l,a.hH/\a.wt<=root.wt
 sum:n+Ak.Ab (l.drop n)=root.size
 pos:∀j,j<n->j<=(jy.take j).flatten.length
def Pt.hold:Pt->Pt
 | .tup (.str w::h::_)=>if w="row"∨w="table"then h else .lst []
 |_=>.lst []
mutual
inductive cF:Nat->Pt->Prop
 |leaf {w:Str} {r:List Pt} (a:w≠"row") (b:w≠"table"):cF 1 (.tup (.str w::r))
 |row {n:Nat} {xs r:List Pt} (h:Vr n xs):cF (n+1) (.tup (.str "row"::.lst xs::r))
 |tab {n:Nat} {ks:List Str} {xs r:List Pt} (l:ks.length=xs.length) (c:ks.Nodup) (z:ks.length<64) (h:Vr n xs):cF (n+1) (.tup (.str "table"::.Dr ks xs::r))
inductive Vr:Nat->List Pt->Prop
 |nil:Vr 0 []
 |cons {n m:Nat} {x:Pt} {r:List Pt} (h:cF n x) (t:Vr m r):Vr (n+m) (x::r)
end
inductive Ym (root:Pt):Nat->List Pt->List (List Pt)->Prop
 |start:Ym root 0 [root] []
 |next{n:Nat} {l:List Pt} {a:List (List Pt)} {t:Pt} {us:List Pt} (b:Ym root n l a) (c:l[n]?=some t) (k:gy t.hold us):Ym root (n+1) (l++us) (a++[us])
namespace Ak
end Ak
section
variable{K:ACH} [An K]
structure Fd (H0 Hi:Hp) (as:List Ak) (ts:List V) (at_:Nat):Prop where
 len:ts.length=as.length
 val:∀(j:Nat) x,at_<=j->as[j]?=some x->∃w b,ts[j]?=some w/\Ak.Good x b/\Val (nw H0 Hi) w b.pt
inductive Vs {K:ACH} [An K] (vs:List V) (H:Hp) (Q:VK) (a:XK):Prop
 |mk (G:Hp) (v:V) (t:Pt) (n:Nat) (c:vs=[v]) (d:AJ G H) (e:Val G v t) (f:cF n t) (g:∀(w:V) (b:Hp),AJ H b->(Val G w t.hold∨(t.hold=.lst []/\∃p,w=.ref p/\b p=some (.lst [])))->Q w b):Vs vs H Q a
inductive TB {K:ACH} [An K] (vs:List V) (H:Hp) (Q:VK) (a:XK):Prop
 |mk (G:Hp) (v:V) (t:Pt) (n:Nat) (d:vs=[v]) (e:AJ G H) (f:Val G v t) (g:cF n t) (h:n<=900) (i:∀(p:Addr) (c:List V) (us:List Pt) (b:Hp),AJ H b->H p=none->b p=some (.lst c)->Ei G c us->gy t.hold us->Q (.ref p) b):TB vs H Q a
inductive Vt {K:ACH} [An K] (d:Addr) (vs:List V) (H:Hp) (Q:VK) (a:XK):Prop
 |mk (G:Hp) (v:V) (t:Pt) (n:Nat) (f:vs=[v,.ref d]) (g:AJ G H) (h:Val G v t) (i:cF n t) (j:n<=900) (k:∀(p:Addr) (e:List V) (l:List Pt) (b:List (List Pt)) (c:Hp),AJ H c->H p=none->c p=some (.lst e)->Ei G e l->Ym t l.length l b->l.length<=900->Q (.ref p) c):Vt d vs H Q a
inductive Ld {K:ACH} [An K] (vs:List V) (H:Hp) (Q:VK) (b:XK):Prop
 |row (v:V) (c:List Pt) (L:Addr) (ws:List V) (d:vs=[v,.ref L]) (e:Val H v (.lst c)) (f:H L=some (.lst ws)) (g:ws.length<=900) (h:∀(p:Addr) (a:Hp),AJ H a->H p=none->a p=some (.lst ws)->Q (.ref p) a):Ld vs H Q b
 |tab (v:V) (ks:List Str) (c:List Pt) (L:Addr) (ws:List V) (d:vs=[v,.ref L]) (e:Val H v (.Dr ks c)) (f:H L=some (.lst ws)) (g:gx (.Dr ks c)) (h:ws.length=ks.length) (i:ks.Nodup) (j:∀(p:Addr) (ss:List Str) (a:Hp),AJ H a->H p=none->ss.Perm ks->sortedS ss=true->a p=some (.dK (hE ss ws))->Q (.ref p) a):Ld vs H Q b
inductive Vu:Pt->List Ak->(List Pt->Pt)->Prop
 |row (a:List Ak) (z:a.length<=900):Vu (.lst (a.map Ak.pt)) a .lst
 |tab (ss:List Str) (a:List Ak) (l:ss.length=a.length) (b:ss.Nodup) (z:ss.length<64) (c:sortedS ss=true):Vu (.Dr ss (a.map Ak.pt)) a (.Dr ss)
inductive TC {K:ACH} [An K] (vs:List V) (H:Hp) (Q:VK) (a:XK):Prop
 |mk (c:Hp) (v:V) (t:Pt) (d:List Ak) (mk:List Pt->Pt) (g:vs=[v]) (h:Val (nw c H) v t) (i:Vu t d mk) (j:∀b,H b=none->c b=none) (k:∀(w:V) (e:Hp),AJ H e->(Ak.Vq d=none/\w=.Ao∨∃f,Ak.Vq d=some f/\Val (nw c e) w (Ak.Gk (mk f)).pt)->Q w e):TC vs H Q a
inductive P_ {K:ACH} [An K] (vs:List V) (H:Hp) (Q:VK) (c:XK):Prop
 |mk (a:Hp) (L:Addr) (ws:List V) (e:List Ak) (m:Bool) (f:vs=[.ref L,.bl m]) (g:H L=some (.lst ws)) (h:Ei (nw a H) ws (e.map Ak.pt)) (i:ws.length<=900) (j:∀b,H b=none->a b=none) (k:a L=none) (l:∀(w:V) (d:Hp),AJ H d->Val (nw a d) w (Ak.RG e m).pt->Q w d):P_ vs H Q c
inductive P' {K:ACH} [An K] (vs:List V) (H:Hp) (Q:VK) (c:XK):Prop
 |mk (G a:Hp) (L:Addr) (ss:List Str) (ws:List V) (f:List Ak) (z:V) (d:List Str) (m:Bool) (i:vs=[.ref L,z,.bl m]) (j:H L=some (.dK (hE ss ws))) (k:Ei (nw a H) ws (f.map Ak.pt)) (l:ss.length=ws.length) (n:ss.Nodup) (o:ss.length<64) (p:sortedS ss=true) (q:∀b,H b=none->a b=none) (r:a L=none) (s:Val H z (.lst (d.map Pt.str))) (g:d.length<=100) (h:∀(w:V) (e:Hp),AJ H e->Val (nw a e) w (Ak.RH ss f d m).pt->Q w e):P' vs H Q c
inductive OJ {K:ACH} [An K] (vs:List V) (H:Hp) (Q:VK) (d:XK):Prop
 |mk (G c:Hp) (v:V) (a:Ak) (L:Addr) (ws:List V) (f g:List Ak) (j:vs=[v,.ref L]) (k:AJ G H) (l:Val G v a.pt) (m:a.hH) (n:a.wt<=900) (o:H L=some (.lst ws)) (p:c L=none) (q:∀b,H b=none->c b=none) (r:Ak.Kd a f) (s:Ak.Lc f g) (h:Ei (nw c H) ws (g.map Ak.pt)) (i:∀(w:V) (b:Ak) (e:Hp),AJ H e->Val (nw c e) w b.pt->Ak.Good a b->Q w e):OJ vs H Q d
inductive Vv {K:ACH} [An K] (e f:Addr) (vs:List V) (H:Hp) (Q:VK) (c:XK):Prop
 |mk (G:Hp) (v:V) (a:Ak) (g:vs=[v,.ref e,.ref f]) (h:AJ G H) (i:Val G v a.pt) (j:a.hH) (k:a.wt<=900) (l:∀(w:V) (b:Ak) (d:Hp),AJ H d->Val (nw H d) w b.pt->Ak.Good a b->Q w d):Vv e f vs H Q c
inductive Vw {K:ACH} [An K] (vs:List V) (H:Hp) (Q:VK) (c:XK):Prop
 |mk (G:Hp) (v:V) (a:Ak) (e:vs=[v]) (f:AJ G H) (g:Val G v a.pt) (h:a.hH) (i:a.wt<=900) (j:∀(w:V) (b:Ak) (d:Hp),AJ H d->Val (nw H d) w b.pt->Ak.Good a b->Q w d):Vw vs H Q c
end
def fA (w:World):Bool:=w.params.followText "set-order"
structure yt (prog:Program) (w:World) (h:Heap) (a:Addr) (ss:List Str) (o:Obj) (es:Array (Int×Value)) (ep:Nat) (t:SetTable) (us:List Str):Prop where
 at_:h.get? a=some o
 ex:o.ExactSet
 da:o.data=.set es ep t
 el:ElemsOf (PySem.strKind prog w) es.toList
 st:StrsAre (es.toList.map (·.2)) us
 pm:us.Perm ss
 fi:t.fits es.size=true
 le:t.led= !fA w
 pl:ss≠[]->t.plain=false
def SS (prog:Program) (w:World) (h:Heap) (a:Addr) (ss:List Str):Prop:=∃o b c t d,yt prog w h a ss o b c t d
section
variable{prog:Program} {w:World} {A:Around} {E:Value->Shared->Prop} {s:Shared}
end
section
variable{prog:Program} {w:World} {A:Around} {R:Result->Shared->Prop}
end
section
variable{prog:Program} {w:World} {A:Around} {E:Value->Shared->Prop} {s:Shared}
end
abbrev yu (w:World):Obj:={cls:=.type "set",dict:=none,data:=.set #[] 0 (.fresh 0 0 (!fA w))}
section
variable{prog:Program} {w:World} {A:Around} {E:Value->Shared->Prop} {s:Shared}
end
abbrev mT (h:Heap) (it a:Addr) (f:Value) (i n ep:Nat):Prop:=h.get? it=some {cls:=.type "set_iterator",dict:=none,data:=.fields #[f,rawInt (i:Int),.ref a,rawInt (n:Int),rawInt (ep:Int)],slots:= #[]}
section
variable{prog:Program} {w:World} {A:Around} {E:Value->Shared->Prop} {s:Shared}
end
inductive Yn (w:World) (h:Heap) (a:Addr) (d:Array (Int×Value)) (ep:Nat) (t:SetTable) (c:List Addr) (i:Nat):Value->List Value->Prop
 |text (b:fA w=true):Yn w h a d ep t c i (rawInt 0) ((pickOrder (w.params.setOrder a ep) d).toList.map (·.2))
 |drawn {e:Addr} {ps:List Nat} (b:fA w=false) (f:e∈c) (g:h.get? e=some {cls:=.type "tuple",data:=.seq (ps.map fun(i:Nat)=>rawInt (i:Int)).toArray}) (k:ps.Perm (List.range d.size)):Yn w h a d ep t c i (.ref e) (ps.map fun j=>(d.getD j (0,.none)).2)
 |lH (b:fA w=false) (z:d.size<=1):Yn w h a d ep t c i (rawInt (if i=0 then 0 else((t.place.getD 0 0+1:Nat):Int))) (d.toList.map (·.2))
section
variable{prog:Program} {w:World} {A:Around} {E:Value->Shared->Prop} {s:Shared}
structure SAt (prog:Program) (w:World) (h:Heap) (it a:Addr) (o:Obj) (es:Array (Int×Value)) (ep:Nat) (t:SetTable) (yw:List Addr) (os:List Value) (i:Nat):Prop where
 at_:h.get? a=some o
 da:o.data=.set es ep t
 fi:t.fits es.size=true
 le:t.led= !fA w
 f:∃f,mT h it a f i es.size ep/\Yn w h a es ep t yw i f os
end
section
variable{prog:Program} {w:World} {A:Around} {E:Value->Shared->Prop} {s:Shared}
end
section
variable{prog:Program} {w:World} {A:Around} {E:Value->Shared->Prop} {s:Shared}
end
section
variable{prog:Program} {w:World} {A:Around} {E:Value->Shared->Prop} {s:Shared}
end
section
variable{X:Cx}
def hI (P:Program) (w:World) (p:Addr) (ss:List Str):HO:=.ext fun h=>SS P w h p ss
inductive hJ (K:ACH) (P:Program) (w:World) (xs:List V) (H:Hp) (Q:VK):Prop
 |mk (l:Addr) (ss:List Str) (a:xs=[.ref l]) (b:Bd K H l (ss.map V.str)) (c:ss.Nodup) (d:ss.length<1000) (e:∀p,H p=none->Q (.ref p) (upd H p (hI P w p ss))):hJ K P w xs H Q
inductive cG (P:Program) (w:World) (xs:List V) (H:Hp) (Q:VK):Prop
 |mk (d:Addr) (ss:List Str) (c:xs=[.ref d]) (e:H d=some (hI P w d ss)) (f:ss.length<64) (g:∀(p:Addr) (a:List Str) (b:Hp),H p=none->AJ H b->b p=some (.lst (a.map V.str))->a.Perm ss->sortedS a=true->Q (.ref p) b):cG P w xs H Q
end
open PySem.AutoSeq1 (wpAny_loadPart')
open PySem.MeetsSeq3
section
variable{prog:Program} {w:World} {A:Around} {s:Shared}
def EqB (prog:Program) (w:World) (A:Around) (s:Shared) (u v:Value) (b:Bool):Prop:=∀(E:Value->Shared->Prop) (Q:Bool->Shared->Prop),Q b s->wpAny (model prog w) A (eqBool u v) Q E s
def RcB (prog:Program) (w:World) (A:Around) (s:Shared) (u v:Value) (b:Bool):Prop:=∀(E:Value->Shared->Prop) (Q:Value->Shared->Prop),Q (.bool b) s->wpAny (model prog w) A (richCompare .Eq u v) Q E s
end
namespace Pt
mutual
def yx:Pt->Prop
 |int _|str _|bl _=>True
 |lst xs|tup xs=>cH xs
 |Dr ks xs=>ks.Nodup/\cH xs
def cH:List Pt->Prop
 |[]=>True
 |x::r=>yx x/\cH r
end
end Pt
section
variable{K:ACH} [An K]
def yy (s t:Pt):Prop:=(s.doc/\t.doc)∨Pt.eg s t=true
end
section
variable{X:Cx} [An X.K] {pins:List (Addr×Obj)} {σ:St} {H:Hp} {s:Shared}
end
inductive mU {K:ACH} [An K] (x y:V) (H:Hp) (Q:VK):Prop
 |mk (p t:Pt) (a:Val H x p) (e:Val H y t) (f:∀b,p≠.bl b) (c:yy p t) (d:p.deep<=60) (q:Q (.bl (Pt.eg p t)) H):mU x y H Q
section
variable{X:Cx}
end
structure Dh (X:Cx) (scope:Scope) (x z:Str) (fv:List Str) (fs:List Nat):Prop where
 kind:scope.kind=.function
 Jf:∀p∈scope.names,p.2≠.cell
 names:∀p∈scope.names,p.2=.local->scope.names.lookup p.1=some .local
 tg:scope.names.lookup x=some .local
 tz:scope.names.lookup z=some .local
 free:∀p∈scope.names,p.2=.free->X.env.scope.names.lookup p.1=some .cell
 nd:(x::z::fv).Nodup
 lI:∀(j:Nat) y,fv[j]?=some y->∃i,fs[j]?=some i/\X.N[i]?=some y/\scope.names.lookup y=some .free
 len:fv.length=fs.length
def OK (a:Scope) (N:List Str) (scope:Scope) (x z:Str) (fv:List Str) (fs:List Nat):Bool:=
 scope.kind==.function&&(scope.names.all fun p=>p.2 !=.cell)&&(scope.names.all fun p=>p.2 !=.local||scope.names.lookup p.1==some .local)&&scope.names.lookup x==some .local&&scope.names.lookup z==some .local&&
 (scope.names.all fun p=>p.2 !=.free||a.names.lookup p.1==some .cell)&&decide (x::z::fv).Nodup&&fs.map (N[·]?)==fv.map some&&(fv.all fun y=>scope.names.lookup y==some .free)
theorem Dh.of {X:Cx} {scope:Scope} {x z:Str} {fv:List Str} {fs:List Nat} (h:OK X.env.scope X.N scope x z fv fs=true):Dh X scope x z fv fs:=by
 unfold OK at h
 simp only[Bool.and_eq_true,List.all_eq_true,Bool.or_eq_true,bne_iff_ne,beq_iff_eq,decide_eq_true_eq]at h
 obtain⟨⟨⟨⟨⟨⟨⟨⟨g,i⟩,k⟩,m⟩,n⟩,o⟩,q⟩,f⟩,r⟩:=h
 have hlen:fs.length=fv.length:=by
  have:=congrArg List.length f
  simpa using this
 refine⟨g,i,fun p b c=>(k p b).resolve_left fun z=>z c,m,n,fun p b c=>(o p b).resolve_left fun z=>z c,q,fun j y e=>?_,hlen.symm⟩
 have s:j<fv.length:=(ACE e).1
 have d:=congrArg (fun l=>l[j]?) f
 simp only[List.getElem?_map,e]at d
 have a:j<fs.length:=by lia
 rw[ACD a]at d
 refine⟨fs[j],ACD a,?_,r y (ACG e)⟩
 simpa using d
section
variable{X:Cx} {pins:List (Addr×Obj)} {σ:St} {H H':Hp} {s s':Shared} {scope:Scope} {x z:Str} {fv:List Str} {fs:List Nat} {fp:List Addr}
theorem Dh.cells (ok:Dh X scope x z fv fs) (I:Inv X pins σ H s):∀p∈scope.names,p.2=.free->∃c,X.env.cells.lookup p.1=some c:=fun p a b=>I.ok.has p.1 (.inl (ok.free p a b))
theorem Dh.look (ok:Dh X scope x z fv fs) (I:Inv X pins σ H s) {y:Str} {c:Addr} (h:(DX X.env.cells scope.names []).lookup y=some c):X.env.cells.lookup y=some c:=
 De scope.names [] (ok.cells I) (fun _ _ z=>by cases z) h
theorem OL (ok:Dh X scope x z fv fs) (I:Inv X pins σ H s) (t:∀b∈fp,EH X pins H b) (w:∀b∈fp,∃o,s.heap.get? b=some o) {h:Heap} {m:Str->Option Value} {tk:Nat} (N:h.Ns s.heap.objs.size m)
  (kept:∀b o,s.heap.get? b=some o->h.get? b=some o):Inv (CH X (x::z::fv) scope s.heap.objs.size s H fp) [] (none::none::CN σ fs) H {s with heap:=h,toks:=tk}:=by
 have g:=fun{y c}=>ok.look I (y:=y) (c:=c)
 have A:X.env.scope.kind=.function:=I.ok.kind
 refine⟨⟨I.ok.mod,ok.kind,I.ok.glob,I.ok.blt,Nat.le_refl _,fun y z c h O=>I.ok.inj y z c (g h) (g O),fun y d=>?_,fun y c B _=>(by cases B),I.ok.hd,I.ok.frames,.inl rfl,fun b f=>⟨?_,fun y c e z=>(t b f).2.2.2.2.1 y c (g e) z⟩,I.bs,
  Nat.le_trans I.ok.XY I.sz,fun b o e f=>?_,fun b f C=>?_,I.stack,I.L_⟩,rfl,I.bare,Un.kept kept,⟨m,N,fun i y v D a T=>?_⟩,fun y c e=>?_,I.fresh,fun y c e=>I.ER y c (g e),fun p P=>absurd (show p∈([]:List (Addr×Obj))from P) (by simp),I.Bl.kept kept,?_⟩
 ·have d:(relabel scope X.env).names.lookup y=some .cell∨(relabel scope X.env).names.lookup y=some .free:=d
  rw[Cu]at d
  have E:scope.names.lookup y=some .free:=by
   cases e:scope.names.lookup y with
   |none=>rw[e]at d;rcases d with z|z<;>cases z
   |some k=>
    rw[e]at d
    have d:HB X.env y k=.cell∨HB X.env y k=.free:=d.elim (fun z=>.inl (ACF z)) fun z=>.inr (ACF z)
    by_cases F:k=.free
    ·rw[F]
    ·have a:HB X.env y k=k:=by
      unfold HB
      have:(k==NameKind.free)=false:=by simpa using F
      rw[this]
      rfl
     rw[a]at d
     rcases d with z|z
     ·subst z
      exact absurd rfl (ok.Jf _ (PySem.mem_of_lookup e))
     ·exact absurd z F
  exact Option.isSome_iff_exists.mp (Dk scope.names [] (.inr (PySem.mem_of_lookup E)))
 ·obtain⟨o,n⟩:=w b f
  exact Nat.ne_of_lt (Heap.lt_size n)
 ·rcases(t b f).2.2.2.1 with z|z
  ·exact I.ok.Ro b o e z
  ·exact absurd (Nat.lt_of_lt_of_le (Heap.lt_size e) (Nat.le_trans I.ok.XY z)) (Nat.lt_irrefl _)
 ·rcases List.mem_cons.mp (I.Lz b C)with z|z
  ·exact(t b f).2.1 z
  ·exact(t b f).2.2.1 z
 ·cases i with
  |zero=>
   have a:(some none:Option (Option V))=some (some v):=a
   cases a
  |succ j=>
   cases j with
   |zero=>
    have a:(some none:Option (Option V))=some (some v):=a
    cases a
   |succ j=>
   have D:fv[j]?=some y:=D
   have a:(CN σ fs)[j]?=some (some v):=a
   obtain⟨i,Q,R⟩:=LI a
   obtain⟨U,M,S,G⟩:=ok.lI j y D
   rw[Q]at M
   cases M
   have J:X.env.scope.names.lookup y=some .cell:=ok.free (y,.free) (PySem.mem_of_lookup G) rfl
   obtain⟨W,_,K⟩:=I.loc
   obtain⟨u,r,l⟩:=K i y v S R (.inr (.inl J))
   refine⟨u,r,?_⟩
   rcases l with⟨k,_⟩|⟨_,c,e,o,n,hd⟩
   ·have k:X.env.scope.names.lookup y=some .local:=k
    rw[J]at k
    cases k
   ·obtain⟨Y,q⟩:=Option.isSome_iff_exists.mp (Dk (cells:=X.env.cells) scope.names [] (.inr (PySem.mem_of_lookup G)))
    have:=g q
    rw[e]at this
    cases this
    refine .inr ⟨.inl ?_,c,q,o,kept _ _ n,hd⟩
    show(relabel scope X.env).names.lookup y=some .cell
    rw[Cu,G]
    show some (HB X.env y .free)=_
    have L:X.env.kindOf y=some .cell:=J
    unfold HB
    rw[A,L]
    rfl
 ·obtain⟨v,o,n,hd⟩:=I.cell y c (g e)
  exact⟨v,o,kept _ _ n,hd⟩
 ·show(none::none::CN σ fs).length=(x::z::fv).length
  simp[CN,ok.len]
end
def Md (K:ACH) (J:It) (j:TT) (k:TE) (fs:List Nat) (σ:St) (H:Hp) (Q:VK):Prop:=∀D,H D=none->∃W:Nat->Nat->Hp->Prop,(∃m,W 0 m (upd H D (.lst [])))/\∀i m c,W i m c->
 (J.stop i c/\Q (.ref D) c)∨(J.go i c/\∀v e,J.XZ i c v e->∃(t:Addr) (a b:V),v=.ref t/\Ah K e t [a,b]/\j (some a::some b::CN σ fs) e fun ok g=>
  if ok=true then k (some a::some b::CN σ fs) g fun y h=>∃f,h D=some (.lst f)/\f.length<sizeLine/\∃d,d<m/\W (i+1) d (upd h D (.lst (f++[y])))else∃d,d<m/\W (i+1) d g)
def cI (K:ACH) (b:TI) (c:TT) (d:TE) (fs:List Nat):TE:=fun a H Q=>b a H fun J e=>Md K J c d fs a e Q
section
variable{X:Cx} {elt iter:Expr} {x z:Str} {px pz pt pos:Pos} {kt:Nat} {ifs:List Expr} {scope:Scope} {fv:List Str} {fs:List Nat} {wi:TI} {te:TE} {tc:TT}
theorem TF (hc:X.calm=true) (ok:Dh X scope x z fv fs) (lJ:∀C s0 H0 d,bT (CH X (x::z::fv) scope C s0 H0 d) ifs tc) (he:∀C s0 H0 d,PE (CH X (x::z::fv) scope C s0 H0 d) elt te)
  {pins:List (Addr×Obj)} {σ:St} {H:Hp} {s:Shared} {E:Value->Shared->Prop} {it:Addr} {d:List Addr} {L:Nat->Heap->Prop} {J:It} {Q:VK} (I:Inv X pins σ H s) (T:Turn X.prog X.w X.K (.Tuple [.Name x px,.Name z pz] kt pt) J d it L) (st:L 0 s.heap)
  (hf:∀b∈d,EH X pins H b)
  (rd:Md X.K J tc te fs σ H Q)
  {RR:Value->Addr->Result->Shared->Prop}
  (lK:∀D C B f,Inv X pins σ f B->EH X pins f C->(∃m,B.heap.Ns C m)->Q (.ref D) f->RR (.ref D) C (.ok .next) B):
  wpAny (model X.prog X.w) X.A (newList []) (fun M a=>wpAny (model X.prog X.w) X.A (newFunctionEnv scope X.env.globals (DX X.env.cells scope.names []) [] X.env.qual none .none (some X.env)) (fun h s4=>
   codeAny (model X.prog X.w) X.A (.compStart (.ListComp elt [⟨.Tuple [.Name x px,.Name z pz] kt pt,iter,ifs,0⟩] scope pos) 0 (.ref it) M {h with scope:=relabel scope X.env}) (RR M h.locals) s4) E a) E s:=by
 obtain⟨W,⟨m0,w0⟩,turn⟩:=rd s.heap.objs.size I.fresh
 have Z:Inv X pins σ (upd H s.heap.objs.size (.lst [])) {s with heap:=s.heap.push {cls:=.type "list",dict:=none,data:=.seq ([]:List Value).toArray}}:=I.gF (its:=[]) (ys:=[]) (t':=s.toks) .nil (Nat.zero_le _)
 refine wpAny_newObj_type ?_
 show wpAny _ _ _ _ _ ({s with heap:=s.heap.push {cls:=.type "list",dict:=none,data:=.seq ([]:List Value).toArray}}:Shared)
 generalize lM:({s with heap:=s.heap.push {cls:=.type "list",dict:=none,data:=.seq ([]:List Value).toArray}}:Shared)=a at Z⊢
 refine wpAny_newFunctionEnv ok.Jf (fun y hy=>absurd hy (by simp)) (fun h1 lN lO=>?_) ok.kind
 have eh:a.heap=s.heap.push {cls:=.type "list",dict:=none,data:=.seq ([]:List Value).toArray}:=by rw[<-lM]
 have N:∀b o,s.heap.get? b=some o->a.heap.get? b=some o:=fun b o e=>by rw[eh];exact Heap.get?_push_of_some _ e
 have lQ:∀b∈d,∃o,a.heap.get? b=some o:=fun b c=>let⟨o,ho,_⟩:=T.obj 0 _ st b c;⟨o,N b o ho⟩
 have eX:∀b∈d,b≠s.heap.objs.size:=fun b c=>let⟨o,ho,_⟩:=T.obj 0 _ st b c;Nat.ne_of_lt (Heap.lt_size ho)
 have j:∀b∈d,EH X pins (upd H s.heap.objs.size (.lst [])) b:=fun b c=>⟨by rw[AR (eX b c)];exact(hf b c).1,(hf b c).2⟩
 have kept:∀b o,a.heap.get? b=some o->h1.get? b=some o:=fun b o e=>lO.extBut b o (Nat.ne_of_lt (Heap.lt_size e)) (Heap.get?_push_of_some _ e)
 have I4:=OL (tk:=a.toks+([]:List (Str×Value)).length) ok Z j lQ lN kept
 have O:L 0 h1:=T.keep 0 _ _ st fun b c o e=>kept b o (N b o e)
 have g:∀{f:Hp},(∀b∈d,f b=none)->∀b∈d,EH (CH X (x::z::fv) scope a.heap.objs.size a (upd H s.heap.objs.size (.lst [])) d) [] f b:=fun hn b c=>
  ⟨hn b c,(I4.ok.eT b c).1,I4.ok.Rp b c,.inl c,(I4.ok.eT b c).2,fun p hp=>absurd hp (by simp)⟩
 have hg:PG (CH X (x::z::fv) scope a.heap.objs.size a (upd H s.heap.objs.size (.lst [])) d) (.Tuple [.Name x px,.Name z pz] kt pt) (fY X.K 2 (T' (Dm 0) (T' (Dm 1) fX))):=a_ hc (NR (Dx (i:=0) ok.nd rfl (.inl (lookup_relabel_local ok.tg)) (.inr (lookup_relabel_local ok.tg))) (NR (Dx (i:=1) ok.nd rfl (.inl (lookup_relabel_local ok.tz)) (.inr (lookup_relabel_local ok.tz))) Xk))
 have loop:codeAny (model X.prog X.w) X.A (.compLoop (.ListComp elt [⟨.Tuple [.Name x px,.Name z pz] kt pt,iter,ifs,0⟩] scope pos) 0 (.ref it) (.ref s.heap.objs.size) (compEnvC scope (DX X.env.cells scope.names []) a.heap.objs.size X.env)) (RR (.ref s.heap.objs.size) a.heap.objs.size)
   {a with heap:=h1,toks:=a.toks+([]:List (Str×Value)).length}:=by
  refine Je (fun n B=>∃i o o2 f,Inv (CH X (x::z::fv) scope a.heap.objs.size a (upd H s.heap.objs.size (.lst [])) d) [] (o::o2::CN σ fs) f B/\L i B.heap/\(∀b∈d,f b=none)/\W i n f) ?_ m0
   ⟨0,none,none,_,I4,O,fun b c=>(j b c).1,w0⟩
  rintro n s5 ⟨i,o,o2,H5,I5,P,R,w5⟩
  rcases turn i n H5 w5 with⟨stop,q⟩|⟨go,step⟩
  ·refine BX (T.done (CH X (x::z::fv) scope a.heap.objs.size a (upd H s.heap.objs.size (.lst [])) d) rfl rfl rfl hc i [] s5 _ H5 _ I5 (g R) P stop) fun r s6 ⟨hr,I6⟩=>?_
   subst hr
   obtain⟨m,hm,_⟩:=I6.loc
   exact lK _ _ s6 H5 (Jg Z j I6) (Z.Oy (Nat.le_refl _) I6.free) ⟨m,hm⟩ q
  ·refine BX (T.item (CH X (x::z::fv) scope a.heap.objs.size a (upd H s.heap.objs.size (.lst [])) d) rfl rfl rfl hc i [] s5 _ H5 _ I5 (g R) P go) fun r s6 ⟨u,hr,h6⟩=>?_
   subst hr
   refine BX h6 fun _ s7 ⟨v,H7,I7,r7,y7,k,lR⟩=>?_
   have lT:=I7.pinned (g lR) (T.obj _ _ k)
   have back:∀{S:St} {F:Hp} {U:Shared},Inv (CH X (x::z::fv) scope a.heap.objs.size a (upd H s.heap.objs.size (.lst [])) d) ([]++Hj d s7.heap) S F U->L (i+1) U.heap/\∀b∈d,F b=none:=fun{S F U} G=>
    ⟨T.keep _ _ _ k fun b c o e=>(G.pin (b,o) (C_ c e)).1,fun b c=>by
     obtain⟨o,e,_⟩:=T.obj _ _ k b c
     exact(G.pin (b,o) (C_ c e)).2.1⟩
   obtain⟨ta,va,vb,rfl,yz,l⟩:=step v H7 y7
   refine BX (hg _ s7 _ H7 (.ref ta) u (fun σ2 H2=>σ2=some va::some vb::CN σ fs/\H2=H7) lT r7 ⟨ta,_,rfl,yz,rfl,_,_,rfl,_,_,rfl,rfl,rfl,rfl⟩) fun _ s8 ⟨σ8,H8,I8,e8,lU⟩=>?_
   subst e8 lU
   refine BX (lJ _ _ _ _ _ s8 _ H8 _ I8 l) fun ok U ⟨F,G,q9⟩=>?_
   cases ok with
   |false=>
    obtain⟨m',t,w9⟩:=q9
    obtain⟨b1,b2⟩:=back G
    exact⟨m',t,i+1,some va,some vb,F,G.Dn,b1,b2,w9⟩
   |true=>
    refine BX (he _ _ _ _ _ U _ F _ G q9) fun y s10 ⟨yv,V,lV,r10,ys,hD,hz,m',t,w10⟩=>?_
    refine BX (Ce _ s10 _ V (.ref s.heap.objs.size) [yv] (.ref s.heap.objs.size) [y] (fun _ f=>f=upd V s.heap.objs.size (.lst (ys++[yv]))) lV rfl (.cons r10 .nil) ⟨_,ys,yv,rfl,rfl,hD,hz,rfl⟩) fun _ s11 ⟨_,wR,Y,_,e11⟩=>?_
    subst e11
    obtain⟨b1,b2⟩:=back Y
    exact⟨m',t,i+1,some va,some vb,_,Y.Dn,b1,b2,w10⟩
 exact codeAny_compStart_list loop (T.self _ 0 _ _ _ O loop)
theorem Vx (g:X.calm=true) (ok:Dh X scope x z fv fs) (i:PI X (.Tuple [.Name x px,.Name z pz] kt pt) iter wi) (b:∀C c d a,bT (CH X (x::z::fv) scope C c d a) ifs tc) (j:∀C c d a,PE (CH X (x::z::fv) scope C c d a) elt te)
  (hs:∀x,foldedSetIterable iter X.env x=pure x:=by intro _;rfl):PE X (.ListComp elt [⟨.Tuple [.Name x px,.Name z pz] kt pt,iter,ifs,0⟩] scope pos) (cI X.K wi tc te fs):=by
 intro pins s k H Q I h
 rw[eval_ListComp]
 refine wpAny_comprehension_free (use:=none) rfl hs (DD (ok.cells I)) ok.kind ok.names (BX (i pins s k H _ I h) fun A B l=>BX l fun n E o=>?_)
 obtain⟨F,a,G,J,L,rfl,p,T,e,r,t⟩:=o
 exact TF g ok b j p T e r t fun D C M u v w ⟨m,y⟩ q=>⟨m,y,fun N f=>⟨.ref D,u,v.off w f,rfl,q⟩⟩
end
end L2
namespace PySem
section
variable{prog:Program} {w:World} {A:Around} {E:Value->Shared->Prop} {s:Shared}
theorem Vy {jt c:Addr} {n:Nat} {its:Array Value} {y:Value} {Q:Value->Shared->Prop} (d:s.heap.IsTupleIter jt c n) (e:s.heap.IsTuple c its) (j:its[n]?=some y)
  (k:∀f,f.IsTupleIter jt c (n+1)->Heap.SameBut jt s.heap f->Q y {s with heap:=f}):wpAny (model prog w) A (Builtin.SmallTypes.nextOf (.ref jt)) Q E s:=by
 obtain⟨l,b,g,a⟩:=id d;obtain⟨m,h,_,o,i⟩:=e;unfold Builtin.SmallTypes.nextOf;refine wpAny_bind (wpAny_callSpecial?_slot (name:=Str.ofString "__next__") d.typeIs F.slot_tuple_iterator_next (wpAny_call_entry F.slot_tuple_iterator_next d.typeIs F.entry_tuple_iterator_next ?_ (F.args_tuple_iterator_next_1 _)));show wpAny _ _ (field (.ref jt) 0>>=_) _ _ s;refine wpAny_bind (wpAny_field b a (x:=.ref c) rfl ?_);show wpAny _ _ (if(Value.ref c==Value.none)=true then _ else _) _ _ s;rw[if_neg (show¬((Value.ref c==Value.none)=true)from Bool.false_ne_true)];show wpAny _ _ (field (.ref jt) 1>>=_) _ _ s;refine wpAny_bind (wpAny_field b a (x:=.int n 0) rfl ?_);show wpAny _ _ (seqItems? (.ref c)>>=_) _ _ s;refine wpAny_bind (wpAny_seqItems h i ?_);simp only[Int.toNat_natCast,j];refine wpAny_bind (wpAny_setField b a (by simp) (wpAny_pure ⟨y,rfl,wpAny_pure (k _ ?_ (Heap.SameBut.update ..))⟩))
 exact⟨_,Heap.get?_update_self _ b (Obj.isFreed_of_fields (Obj.data_mapFields a _)),(Obj.cls_mapFields ..).trans g,by rw[Obj.data_mapFields a];simp[rawInt]⟩
theorem Vz {jt d:Addr} {n:Nat} {its:Array Value} {Q:Value->Shared->Prop} (j:A.handled=none) (e:s.heap.IsTupleIter jt d n) (f:s.heap.IsTuple d its) (l:its[n]?=none)
  (k:∀g x,Heap.ExtBut jt s.heap g->(∃o,g.get? x=some o/\o.cls=.type "StopIteration")->E (.ref x) {s with heap:=g}):wpAny (model prog w) A (Builtin.SmallTypes.nextOf (.ref jt)) Q E s:=by
 obtain⟨q,b,p,c⟩:=id e;obtain⟨r,h,_,t,i⟩:=f;unfold Builtin.SmallTypes.nextOf;refine wpAny_bind (wpAny_callSpecial?_slot (name:=Str.ofString "__next__") e.typeIs F.slot_tuple_iterator_next (wpAny_call_entry F.slot_tuple_iterator_next e.typeIs F.entry_tuple_iterator_next ?_ (F.args_tuple_iterator_next_1 _)));show wpAny _ _ (field (.ref jt) 0>>=_) _ _ s;refine wpAny_bind (wpAny_field b c (x:=.ref d) rfl ?_);show wpAny _ _ (if(Value.ref d==Value.none)=true then _ else _) _ _ s;rw[if_neg (show¬((Value.ref d==Value.none)=true)from Bool.false_ne_true)];show wpAny _ _ (field (.ref jt) 1>>=_) _ _ s;refine wpAny_bind (wpAny_field b c (x:=.int n 0) rfl ?_);show wpAny _ _ (seqItems? (.ref d)>>=_) _ _ s;refine wpAny_bind (wpAny_seqItems h i ?_);simp only[Int.toNat_natCast,l];refine wpAny_bind (wpAny_rule (wpAny_bind (wpAny_setField b c (by simp) ?_)));show wpAny _ _ (newExc (.type "StopIteration") []>>=_) _ _ _;refine wpAny_bind ?_;simp only[newExc,newTuple];refine wpAny_bind (wpAny_newObj_type ?_ (by size_fits));refine wpAny_bind (m:=firstArgMember _ _) (wpAny_of_eq (a:=Value.none) (by first|rfl|(simp only[firstArgMember];rfl)) ?_);refine wpAny_newObj_type ?_ (by size_fits);simp only[raiseNew];refine wpAny_bind (wpAny_handled ?_);(first|rw[show A.in1.handled=none from j]|rw[j]);refine wpAny_bind (wpAny_pure (wpAny_throw ?_))
 exact k _ _ (((Heap.SameBut.update ..).extBut.push _).push _) ⟨_,Heap.get?_push_size _ rfl,rfl⟩
end
theorem V_ {prog:Program} {w:World} {A:Around} (hh:A.handled=none) (jt tp:Addr) (ne:tp≠jt) (its:Array Value):
  Draws prog w A jt [jt,tp] its.size (fun n v=>its[n]?=some v) (fun n h=>h.IsTupleIter jt tp n/\h.IsTuple tp its)where
 live:=fun _ _ st=>let⟨o,ho,_⟩:=st.1;⟨o,ho⟩
 frame:=fun _ _ _ st kp=>⟨st.1.at fun o e=>kp jt (by simp) o e,let⟨o,ho,r⟩:=st.2;⟨o,kp tp (by simp) o ho,r⟩⟩
 item:=fun n s Q E hn st k=>Vy st.1 st.2 (y:=its[n]) (by simp[hn]) fun h1 a b=>k _ h1 s.toks (by simp[hn]) ⟨a,st.2.extBut b.extBut ne⟩ b
 done:=fun s Q E st k=>Vz hh st.1 st.2 (by simp) k
theorem QA (a:Addr) (its:Array Value) (n:Nat) (i:Option Addr) (ss:Array (Option Value)):
  Meets (Builtin.«enumerate.__new__» ⟨[.type "enumerate",.ref a],[]⟩) (fun _ R s=>s.heap.get? a=some {cls:=.type "tuple",dict:=i,data:=.seq its n,slots:=ss}/\
   R (.ok (.ret (.ref (s.heap.push {cls:=.type "tuple_iterator",data:=.fields #[.ref a,.int 0 0]}).objs.size)))
    {s with heap:=(s.heap.push {cls:=.type "tuple_iterator",data:=.fields #[.ref a,.int 0 0]}).push {cls:=.type "enumerate",data:=.fields #[.none,.bool false,.ref s.heap.objs.size,rawInt 0,.none,.none]}}):=
 .of_wp fun prog w A R s h=>by
  obtain⟨j,g,d,k,os⟩:=s;obtain⟨b,h⟩:=h;have e:=sub_enumerate
  have f:Heap.IsTuple (Shared.heap ⟨j,g,d,k,os⟩) a its:=⟨_,b,rfl,n,rfl⟩
  wp_walk using AutoSeq1.wpAny_loadPart' b
  refine wpAny_stack_any fun st=>wpAny_pure ?_
  split
  ·rename_i c _ _ _ _ _
   cases(c==Value.type "enumerate")<;>(wp_walk using AutoSeq1.wpAny_loadPart' b,wpAny_pyIter_tuple f;exact⟨_,rfl,h⟩)
  ·wp_walk using AutoSeq1.wpAny_loadPart' b,wpAny_pyIter_tuple f
   exact⟨_,rfl,h⟩
theorem TH {prog:Program} {w:World} {A:Around} {E:Value->Shared->Prop} {s:Shared} {d:Addr} {its:Array Value} {Q:Value->Shared->Prop} (l:s.heap.IsTuple d its)
  (h:∀e,IsEnum e (s.heap.objs.size+1) s.heap.objs.size 0 .none->e.IsTupleIter s.heap.objs.size d 0->e.objs.size=s.heap.objs.size+2->
   (∀b o,s.heap.get? b=some o->e.get? b=some o)->Q (.ref (s.heap.objs.size+1)) {s with heap:=e}):wpAny (model prog w) A (call (.type "enumerate") [.ref d]) Q E s:=by
 obtain⟨⟨c,m,p,q⟩,r,g,n,i⟩:=l
 replace g:c=.type "tuple":=g
 replace i:p=.seq its n:=i
 subst g i
 refine callType_new F.called_enumerate (by decide) (F.typeCall_enumerate_1 _) (F.newCall_enumerate_1 _) (fun j=>F.args_object_init_2 j _) F.entry_enumerate_new (QA d its n m q) ⟨r,?_⟩
 obtain⟨a,f⟩:∃a,a=s.heap.push {cls:=.type "tuple_iterator",data:=.fields #[.ref d,.int 0 0]}:=⟨_,rfl⟩
 have z1:a.objs.size=s.heap.objs.size+1:=by rw[f];exact Heap.size_push ..
 have t:a.get? s.heap.objs.size=some {cls:=.type "tuple_iterator",data:=.fields #[.ref d,.int 0 0]}:=by rw[f];exact Heap.get?_push_size _ rfl
 have k1:∀b o,s.heap.get? b=some o->a.get? b=some o:=fun b o x=>by rw[f];exact Heap.get?_push_of_some _ x
 rw[<-f,z1]
 have k:IsEnum (a.push {cls:=.type "enumerate",data:=.fields #[.none,.bool false,.ref s.heap.objs.size,rawInt 0,.none,.none]}) (s.heap.objs.size+1) s.heap.objs.size 0 .none:=by
  have:=Heap.get?_push_size a (o:={cls:=.type "enumerate",data:=.fields #[.none,.bool false,.ref s.heap.objs.size,rawInt 0,.none,.none]}) rfl
  rw[z1]at this
  exact this
 exact⟨⟨_,k,rfl⟩,h _ k ⟨_,Heap.get?_push_of_some _ t,rfl,rfl⟩ (by rw[Heap.size_push,z1]) fun b o x=>Heap.get?_push_of_some _ (k1 b o x)⟩
end PySem
namespace L2
open PySem PySem.Spec PyProof.Rows
theorem Inv.Yo {X:Cx} {pins:List (Addr×Obj)} {σ:St} {H:Hp} {s:Shared} {h':Heap} {t':Nat} {it jt:Addr} (I:Inv X pins σ H s) (k:∀b o,b≠it->b≠jt->s.heap.get? b=some o->h'.get? b=some o) (f:EH X pins H it) (g:EH X pins H jt):Inv X pins σ H {s with heap:=h',toks:=t'}:=by
 obtain⟨p,j,J,t,w,x⟩:=f
 obtain⟨y,l,K,A,B,C⟩:=g
 have d:∀b u,H b=some u->b≠it/\b≠jt:=fun b u e=>⟨(fun z=>by rw[z,p]at e;cases e),(fun z=>by rw[z,y]at e;cases e)⟩
 have h:∀b o,b∉[it,jt]->s.heap.get? b=some o->h'.get? b=some o:=fun b o a e=>k b o (fun z=>a (by simp[z])) (fun z=>a (by simp[z])) e
 refine I.step (g':=s.gens) (d':=s.drawn) (ch:=[it,jt]) (fun b i=>?_) (fun b o _ _ a e _=>h b o a e) (fun b o _ _ a e _=>⟨o.slots,h b o a e⟩) (fun _ _ _ _ n=>n)
  (fun b o a e=>⟨o,h b o a e⟩) (fun _ _ e=>e) (fun _ _ _ e=>e) (fun b L e=>⟨#[],by rw[e];simp⟩) (fun m D=>?_) (fun b u e=>?_) I.bare
 ·rcases List.mem_cons.mp i with rfl|i
  ·exact⟨t,j,w,x⟩
  ·rw[List.mem_singleton.mp i];exact⟨A,l,B,C⟩
 ·obtain⟨o,E,F,G,r⟩:=D
  exact⟨o,E,F,k _ o (Ne.symm j) (Ne.symm l) G,r⟩
 ·refine(I.Bl b u e).Ow (fun c v a q=>?_) (fun _ q=>q) fun _ _ q=>q
  have:c≠it/\c≠jt:=by
   rcases a with z|z
   ·rw[z];exact d b u e
   ·exact d c _ z
  exact k c v this.1 this.2 q
def mV (K:ACH) (a:Addr):It:=
 ⟨fun i H=>∃xs x,Ah K H a xs/\xs[i]?=some x,fun i H v b=>∃T x,(∀xs,Ah K H a xs->xs[i]?=some x)/\v=.ref T/\H T=none/\b=upd H T (.tup [.int (i:Int),x]),fun i H=>∃xs,Ah K H a xs/\xs.length=i⟩
theorem TJ {P:Program} {w:World} {K:ACH} {es:List Expr} {kt:Nat} {pt:Pos} (a e it:Addr) (ne:e≠it):Turn P w K (.Tuple es kt pt) (mV K a) [e,it] e (fun i h=>(∃old,IsEnum h e it (i:Nat) old)/\h.IsTupleIter it a i)where
 mem:=by simp
 obj:=fun i h st b hb=>by
  rcases List.mem_cons.mp hb with rfl|hb
  ·obtain⟨⟨old,x⟩,_⟩:=st
   exact⟨_,x,fun v z=>by cases z⟩
  ·rw[List.mem_singleton.mp hb]
   obtain⟨_,o,x,_,d⟩:=st
   exact⟨o,x,fun v z=>by rw[d]at z;cases z⟩
 keep:=fun i h h' st k=>⟨let⟨old,x⟩:=st.1;⟨old,k e (by simp) _ x⟩,st.2.at fun o x=>k it (by simp) o x⟩
 item:=by
  intro X hP hw hK hc i pins s σ H E I hf st hg
  subst hP hw hK
  obtain⟨xs,x,hq,hx⟩:=hg
  obtain⟨its,rv,p,hz⟩:=I.tuple hq
  obtain⟨u,hu,ru⟩:=rv.get hx
  obtain⟨⟨old,he⟩,hit⟩:=st
  have ht:s.heap.IsTuple a its.toArray:=p
  have mW:a≠it:=fun z=>by
   obtain⟨o,h1,h2,_⟩:=ht
   obtain⟨o',g1,g2,_⟩:=hit
   rw[z,g1]at h1
   cases h1
   rw[g2]at h2
   exact absurd (Value.type.inj h2) (by decide)
  have y_:a≠e:=fun z=>by
   obtain⟨o,h1,h2,_⟩:=ht
   rw[z,he]at h1
   cases h1
   exact absurd (Value.type.inj h2) (by decide)
  have y':i<its.toArray.size:=by
   have:=(ACE hu).1
   simpa using this
  refine wpAny_pyNext_enum_itemD (V_ (A:=X.A.in1) (I.ok.hd hc) it a mW its.toArray) he ⟨hit,ht⟩ y' ne (by simp[ne,Ne.symm y_]) fun y h1 tk hy ho wa hT hsz hk=>?_
  have ey:y=u:=by
   have mY:its.toArray[i]?=some y:=hy
   rw[List.getElem?_toArray]at mY
   rw[hu]at mY
   exact(ACF mY).symm
  subst ey
  refine⟨_,rfl,wpAny_letOwnedTupleGo_enum ho fun h2 zA cJ=>?_⟩
  have le:e<s.heap.objs.size:=Heap.lt_size he
  have li:it<s.heap.objs.size:=by obtain⟨o,g1,_⟩:=hit;exact Heap.lt_size g1
  have nT:∀b∈[e,it],b≠s.heap.objs.size:=fun b hb=>by
   rcases List.mem_cons.mp hb with rfl|hb
   ·exact Nat.ne_of_lt le
   ·rw[List.mem_singleton.mp hb];exact Nat.ne_of_lt li
  have I1:Inv X pins σ (upd H s.heap.objs.size (.tup [.int (i:Int),x])) {s with heap:=s.heap.push {cls:=.type "tuple",data:=.seq #[.int i tk,y]},toks:=tk+1}:=
   I.laid (fun b o q=>Heap.get?_push_of_some _ q) (Nat.le_refl _) ⟨Am,[.int i tk,y],.cons ⟨tk,rfl⟩ (.cons ru .nil),⟨_,Heap.get?_push_size _ rfl,rfl,_,rfl⟩⟩
  have ff:∀b∈[e,it],EH X pins (upd H s.heap.objs.size (.tup [.int (i:Int),x])) b:=fun b hb=>⟨by rw[AR (nT b hb)];exact(hf b hb).1,(hf b hb).2⟩
  have I2:=Inv.Yo (h':=h2) (t':=tk+1) (it:=e) (jt:=it) I1 (fun b o b1 b2 q=>by
   refine(cJ.2 b b1).trans ?_
   by_cases hb:b=s.heap.objs.size
   ·subst hb
    have q:(s.heap.push {cls:=.type "tuple",data:=.seq #[.int i tk,y]}).get? s.heap.objs.size=some o:=q
    rw[Heap.get?_push_size _ rfl]at q
    rw[hT]
    exact q
   ·refine hk b o b1 b2 ?_
    have q:(s.heap.push {cls:=.type "tuple",data:=.seq #[.int i tk,y]}).get? b=some o:=q
    rwa [Heap.get?_push_ne _ _ _ hb]at q) (ff e (by simp)) (ff it (by simp))
  refine⟨.ref s.heap.objs.size,_,I2,rfl,⟨_,x,(fun ys hy=>by rw[I.Kz hy hq];exact hx),rfl,I.fresh,rfl⟩,⟨⟨y,by simpa using zA⟩,wa.1.extBut cJ.extBut (Ne.symm ne)⟩,fun b hb=>(ff b hb).1⟩
 done:=by
  intro X hP hw hK hc i pins s σ H E I hf st hg
  subst hP hw hK
  obtain⟨xs,hq,hx⟩:=hg
  obtain⟨its,rv,p,hz⟩:=I.tuple hq
  obtain⟨⟨old,he⟩,hit⟩:=st
  have ht:s.heap.IsTuple a its.toArray:=p
  have mW:a≠it:=fun z=>by
   obtain⟨o,h1,h2,_⟩:=ht
   obtain⟨o',g1,g2,_⟩:=hit
   rw[z,g1]at h1
   cases h1
   rw[g2]at h2
   exact absurd (Value.type.inj h2) (by decide)
  obtain⟨f0,f1,f2,f3,f4,f5⟩:=hf it (by simp)
  have hl:=rv.length
  have en:i=its.toArray.size:=by simp;lia
  exact wpAny_pyNext_enum_endD (V_ (A:=X.A.in1) (I.ok.hd hc) it a mW its.toArray) he (by rw[<-en];exact⟨hit,ht⟩) fun h' eb=>⟨rfl,I.turned (t':=s.toks) (fun b o hb q=>eb b o hb q) f0 f1 f3 f4 f5⟩
 self:=fun _ _ _ _ _ st h=>let⟨_,x⟩:=st.1;wpAny_pyIter_enum x h
section
variable{X:Cx} {es:List Expr} {kt:Nat} {pt:Pos}
def hR (K:ACH) (c:TA):TI:=fun d H R=>c d H fun e b=>∃a xs,e=[.ref a]/\Ah K b a xs/\R (mV K a) b
theorem OM:bootBuiltins "enumerate"=some (.type "enumerate"):=by decide+kernel
theorem Yp {x:Str} {p pos:Pos} {e:Expr} {k:TA} (m:Gl X x) (n:X.mg x=none) (o:bootBuiltins x=some (.type "enumerate")) (r:PA X [e] k) (t:x≠"__name__":=by decide) (f:(x==("__debug__":Str))=false:=by decide)
  (v:starEach [e] X.env=(false,eval e X.env)::starEach [] X.env:=by rfl) (g:(backTo pos (starEach [] X.env)).any (·.1)=false:=by rfl):PI X (.Tuple es kt pt) (.Call (.Name x p) [e] [] pos) (hR X.K k):=by
 intro pins s w H R I h
 refine wpAny_Call_Name_kw (Hh I m n o ?_ t f)
 refine PyProof.Rows.callWith_type1 (BX (r pos pins s w H _ I h) fun G c y=>y.elim fun J z d A B=>?_) v g
 obtain⟨a,xs,rfl,C,q⟩:=B
 obtain⟨u,rfl,D⟩:=vals1 A
 cases D
 obtain⟨i,L,pl,M⟩:=d.tuple C
 refine TH (show c.heap.IsTuple a i.toArray from pl) fun N l E sz F=>?_
 refine wpAny_pyIter_enum l ?_
 refine⟨c.heap.objs.size+1,[c.heap.objs.size+1,c.heap.objs.size],_,_,z,rfl,d.kept (t':=c.toks) F,TJ a _ _ (Nat.succ_ne_self _),⟨⟨_,l⟩,E⟩,fun b j=>?_,q⟩
 have e:c.heap.objs.size<=b:=by
  rcases List.mem_cons.mp j with rfl|j
  ·exact Nat.le_succ _
  ·rw[List.mem_singleton.mp j];exact Nat.le_refl _
 exact d.Oy e (d.Bl.fresh e)
end
theorem TK {K:ACH} {a:Addr} {xs:List V} {g:TE} {fs:List Nat} {σ:St} {H:Hp} {Q:VK} (Ok:Nat->V->Prop) (u:Ah K H a xs) (I:xs.length<=sizeLine)
  (w:∀(i:Nat) (x:V) (H2:Hp) (R:VK),xs[i]?=some x->AJ H H2->(∀y h,AJ H2 h->Ok i y->R y h)->g (some (.int (i:Int))::some x::CN σ fs) H2 R)
  (A:∀D H2 ys,H D=none->AJ H H2->H2 D=some (.lst ys)->ys.length=xs.length->(∀(i:Nat) y,ys[i]?=some y->Ok i y)->Q (.ref D) H2):
  Md K (mV K a) Uh g fs σ H Q:=by
 intro D k
 refine⟨fun i m H2=>m=xs.length-i/\i<=xs.length/\AJ H H2/\∃ys,H2 D=some (.lst ys)/\ys.length=i/\∀(j:Nat) y,ys[j]?=some y->Ok j y,⟨xs.length,by simp,Nat.zero_le _,AJ.new k,[],AF,rfl,fun j y z=>by simp at z⟩,?_⟩
 rintro i m H2 ⟨rfl,J,f,ys,r,l,s⟩
 have b:=f.tup u
 by_cases c:i<xs.length
 ·have B:xs[i]?=some xs[i]:=ACD c
  refine .inr ⟨⟨xs,_,b,B⟩,fun v h C=>?_⟩
  obtain⟨T,x,n,rfl,E,rfl⟩:=C
  have F:=n xs b
  have p:=AJ.new (o:=.tup [.int (i:Int),x]) E
  refine⟨T,.int (i:Int),x,rfl,Ah.of AF,?_⟩
  show g _ _ _
  refine w i x _ _ F (f.trans p) fun y L t q=>⟨ys,t _ _ (p _ _ r),by lia,xs.length-(i+1),by lia,rfl,c,((f.trans p).trans t).put k,ys++[y],AF,by simp[l],fun j z d=>?_⟩
  by_cases G:j<ys.length
  ·rw[List.getElem?_append_left G]at d
   exact s j z d
  ·have e:j=i:=by
    have:=(ACE d).1
    simp only[List.length_append,List.length_singleton]at this
    lia
   subst e
   rw[List.getElem?_append_right (by lia),l,Nat.sub_self]at d
   cases d
   exact q
 ·have e:i=xs.length:=by lia
  subst e
  exact .inl ⟨⟨xs,b,rfl⟩,A D H2 ys k f r l s⟩
def Ds (xs:List V):Option Int:=match xs.getLast? with
 |some (.int j)=>some j
 |_=>none
def CI (hs:List V) (i:Int) (w:Str) (xs:List V):Int:=match Ds xs with
 |some j=>if Cs (.str w) [.str "take",.str "move"]=true/\BB xs.dropLast hs=true/\j<i then i-1 else i
 |none=>i
def Cg (hs:List V) (i:Int) (w:Str) (xs zs:List V) (ah:Bool):Int:=match Ds (Cr w xs zs)with
 |some j=>if Cs (.str w) Bv=true/\BB (Cr w xs zs).dropLast hs=true/\(j<i∨(ah=true/\j=i))then 1 else 0
 |none=>0
def JF:Sp:=fun d H Q _=>∃(h:Addr) (a:List V) (i:Int) (r:V) (w:Str) (xs zs:List V) (p:Addr) (b:Bool),d=[.ref h,.int i,r,.bl b]/\H h=some (.tup a)/\steps a/\Rw H r w xs zs p/\∀c,AJ H c->Q (.int (CI a i w xs+Cg a i w xs zs b)) c
def Me:Sp:=fun c H Q _=>∃(h:Addr) (a:List V) (z r:V) (w:Str) (xs zs:List V) (p:Addr),c=[.ref h,z,r]/\H h=some (.tup a)/\steps a/\Dc.As z/\Rw H r w xs zs p/\∀b,AJ H b->Q (match z with| .int i=>.int (CI a i w xs+Cg a i w xs zs true)|_=>z) b
theorem Le {l:List V} {j:Int} (h:l.getLast?=some (.int j)):Ds l=some j:=by unfold Ds;rw[h]
theorem Lg {l:List V} {k:Str} (h:l.getLast?=some (.str k)):Ds l=none:=by unfold Ds;rw[h]
theorem cK {hs xs zs:List V} {i:Int} {w:Str} {ah:Bool} (h:¬Cs (.str w) Bv=true):Cg hs i w xs zs ah=0:=by
 unfold Cg
 split
 ·exact if_neg fun z=>h z.1
 ·rfl
theorem Yq {hs xs zs:List V} {i:Int} {w:Str} {ah:Bool} (h:BB (Cr w xs zs).dropLast hs=false):Cg hs i w xs zs ah=0:=by
 unfold Cg
 split
 ·exact if_neg fun z=>by rw[h]at z;exact Bool.false_ne_true z.2.1
 ·rfl
theorem V' {hs xs zs:List V} {i:Int} {w:Str} {ah:Bool} {k:Str} (h:(Cr w xs zs).getLast?=some (.str k)):Cg hs i w xs zs ah=0:=by
 unfold Cg
 rw[Lg h]
theorem ON {hs xs zs:List V} {i j:Int} {w:Str} {ah:Bool} (h:(Cr w xs zs).getLast?=some (.int j)) (a:Cs (.str w) Bv=true) (b:BB (Cr w xs zs).dropLast hs=true):Cg hs i w xs zs ah=if j<i∨(ah=true/\j=i)then 1 else 0:=by
 unfold Cg
 rw[Le h]
 simp only[a,b,true_and]
theorem QB {hs xs:List V} {i:Int} {w:Str} (h:¬Cs (.str w) [.str "take",.str "move"]=true):CI hs i w xs=i:=by
 unfold CI
 split
 ·exact if_neg fun z=>h z.1
 ·rfl
theorem RI {hs xs:List V} {i:Int} {w:Str} (h:BB xs.dropLast hs=false):CI hs i w xs=i:=by
 unfold CI
 split
 ·exact if_neg fun z=>by rw[h]at z;exact Bool.false_ne_true z.2.1
 ·rfl
theorem WA {hs xs:List V} {i:Int} {w k:Str} (h:xs.getLast?=some (.str k)):CI hs i w xs=i:=by
 unfold CI
 rw[Lg h]
theorem less_int {hs xs:List V} {i j:Int} {w:Str} (h:xs.getLast?=some (.int j)) (a:Cs (.str w) [.str "take",.str "move"]=true) (b:BB xs.dropLast hs=true):CI hs i w xs=if j<i then i-1 else i:=by
 unfold CI
 rw[Le h]
 simp only[a,b,true_and]
def Kq:List V->Int->Int
 |[.int a],j=>if a<j then j-1 else j
 |_,j=>j
def Kr:List V->Int->Int
 |[.int b],j=>if b<=j then 1 else 0
 |_,_=>0
def FF:List V->V->List V
 |x::xs,j=>if x=j then xs else[]
 |[],_=>[]
def Mf (xs zs:List V):V->V
 | .int j=>.int (Kq xs j+Kr zs j)
 |j=>j
def WB:List V->List V->List V->List V
 |_,_,[]=>[]
 |xs,zs,j::r=>Mf xs zs j::WB (FF xs j) (FF zs j) r
theorem WC (j:Int):Kq [] j=j:=rfl
theorem WD (j:Int):Kr [] j=0:=rfl
theorem WE (j:V):Mf [] [] j=j:=by cases j<;>simp[Mf,Kq,Kr]
theorem RJ:∀q:List V,WB [] [] q=q
 |[]=>rfl
 |j::r=>by
  show Mf [] [] j::WB [] [] r=_
  rw[WE,RJ r]
namespace Dc
theorem HM {d e:Dc} {z:V} {r:List V}:d.sub (z::r)=some e↔∃x,d.sub [z]=some x/\x.sub r=some e:=by
 constructor
 ·intro h
  have:d.sub ([z]++r)=some e:=h
  obtain⟨x,a,b⟩:=Sk this
  exact⟨x,a,b⟩
 ·rintro⟨x,a,b⟩
  have:=sub_snoc a r
  rw[b]at this
  exact this
theorem ES {ks:List Str} (n:ks.Nodup) {i j:Nat} {k:Str} (e:ks[i]?=some k) (f:ks[j]?=some k):i=j:=by
 obtain⟨l1,a⟩:=ACE e
 obtain⟨l2,b⟩:=ACE f
 have d:=List.pairwise_iff_getElem.mp n
 rcases Nat.lt_trichotomy i j with c|c|c
 ·exact absurd (a.trans b.symm) (d i j l1 l2 c)
 ·exact c
 ·exact absurd (b.trans a.symm) (d j i l2 l1 c)
theorem Mg {b:Type} {l:List b} {i j:Nat} {x:b}:(l.eraseIdx i)[j]?=some x↔∃a,a≠i/\l[a]?=some x/\j=if i<a then a-1 else a:=by
 constructor
 ·intro h
  by_cases c:j<i
  ·rw[List.getElem?_eraseIdx_of_lt c]at h
   exact⟨j,by lia,h,by rw[if_neg (by lia)]⟩
  ·rw[List.getElem?_eraseIdx_of_ge (by lia)]at h
   exact⟨j+1,by lia,h,by rw[if_pos (by lia)];lia⟩
 ·rintro⟨a,d,h,rfl⟩
  by_cases c:i<a
  ·rw[if_pos c,List.getElem?_eraseIdx_of_ge (by lia)]
   have:a-1+1=a:=by lia
   rw[this];exact h
  ·rw[if_neg c,List.getElem?_eraseIdx_of_lt (by lia)];exact h
theorem Iy {b:Type} {l:List b} {i j:Nat} {v x:b} (d:i<=l.length):(l.take i++v::l.drop i)[j]?=some x↔(j=i/\x=v)∨∃a,l[a]?=some x/\j=if i<=a then a+1 else a:=by
 have lt:(l.take i).length=i:=by rw[List.length_take];lia
 constructor
 ·intro h
  by_cases c:j<i
  ·rw[List.getElem?_append_left (by lia),List.getElem?_take_of_lt c]at h
   exact .inr ⟨j,h,by rw[if_neg (by lia)]⟩
  ·rw[List.getElem?_append_right (by lia),lt]at h
   by_cases e:j=i
   ·subst e
    rw[Nat.sub_self,List.getElem?_cons_zero]at h
    exact .inl ⟨rfl,(ACF h).symm⟩
   ·have:j-i=(j-i-1)+1:=by lia
    rw[this,List.getElem?_cons_succ,List.getElem?_drop]at h
    exact .inr ⟨i+(j-i-1),h,by rw[if_pos (by lia)];lia⟩
 ·rintro(⟨rfl,rfl⟩|⟨a,h,rfl⟩)
  ·rw[List.getElem?_append_right (by lia),lt,Nat.sub_self,List.getElem?_cons_zero]
  ·by_cases c:i<=a
   ·rw[if_pos c,List.getElem?_append_right (by lia),lt]
    have:a+1-i=(a-i)+1:=by lia
    rw[this,List.getElem?_cons_succ,List.getElem?_drop]
    have:i+(a-i)=a:=by lia
    rw[this];exact h
   ·rw[if_neg c,List.getElem?_append_left (by lia),List.getElem?_take_of_lt (by lia)];exact h
theorem WG {d x:Dc} {z:V} {v:V} (h:d.sub [z]=some x):d≠leaf v:=by
 rintro rfl
 rcases sub_one h with⟨a,xs,i,e,_⟩|⟨a,b,xs,k,e,_⟩<;>cases e
end Dc
theorem OO {x:V} (h:Dc.As x):F' x x=true:=by
 rcases h with⟨i,rfl⟩|⟨k,rfl,_⟩<;>simp[F']
theorem Cw {xs ys:List V} (b:steps xs) (c:steps ys):BB xs ys=true↔xs=ys:=by
 constructor
 ·exact Eh b c
 ·rintro rfl
  unfold BB
  simp only[Bool.and_eq_true,beq_self_eq_true,and_true,List.all_eq_true,List.mem_range]
  intro j d
  have a:j<xs.length:=by lia
  rw[List.getD_eq_getElem?_getD,ACD a]
  exact OO (b _ (List.getElem_mem a))
def lX (w:Str) (xs:List V):List V:=if Cs (.str w) [.str "take",.str "move"]=true then xs else[]
def mX (w:Str) (xs zs:List V):List V:=if Cs (.str w) Bv=true then Cr w xs zs else[]
def fB (w:Str) (xs zs hs:List V) (z:V):V:=match z with| .int i=>.int (CI hs i w xs+Cg hs i w xs zs true)|_=>z
def fC (w:Str) (xs zs:List V):List V->List V->List V
 |_,[]=>[]
 |hs,s::r=>fB w xs zs hs s::fC w xs zs (hs++[s]) r
theorem go_eq {w:Str} {xs zs:List V}:∀(q hs ys:List V),ys.length=q.length->(∀(i:Nat) (y s:V),ys[i]?=some y->q[i]?=some s->y=fB w xs zs (hs++q.take i) s)->ys=fC w xs zs hs q
 |[],_,ys,l,_=>by cases ys with|nil=>rfl|cons _ _=>simp at l
 |s::r,hs,ys,l,h=>by
  cases ys with
  |nil=>simp at l
  |cons y t=>
   have a:=h 0 y s rfl rfl
   rw[List.take_zero,List.append_nil]at a
   show y::t=fB w xs zs hs s::fC w xs zs (hs++[s]) r
   rw[a]
   congr 1
   refine go_eq r (hs++[s]) t (by simpa using l) fun i b c d e=>?_
   have:=h (i+1) b c (by simpa using d) (by simpa using e)
   rw[this]
   simp
def Fp (l hs:List V):List V:=if hs<+:l then l.drop hs.length else[]
theorem OP (l hs:List V) (s:V):FF (Fp l hs) s=Fp l (hs++[s]):=by
 unfold Fp
 by_cases c:hs<+:l
 ·obtain⟨t,rfl⟩:=c
  rw[if_pos (List.prefix_append hs t),List.drop_left]
  cases t with
  |nil=>
   rw[if_neg fun a=>by have:=a.length_le;simp only[List.length_append,List.length_singleton,List.length_nil]at this;lia]
   rfl
  |cons x t=>
   by_cases e:x=s
   ·subst e
    have a:hs++[x]<+:hs++x::t:=⟨t,by simp⟩
    rw[if_pos a]
    simp[FF]
   ·rw[if_neg fun a=>e (List.cons_prefix_cons.mp ((List.prefix_append_right_inj hs).mp a)).1.symm]
    simp[FF,e]
 ·rw[if_neg c,if_neg fun a=>c ((List.prefix_append hs [s]).trans a)]
  rfl
theorem Ej {l hs:List V} {a:V}:Fp l hs=[a]↔l=hs++[a]:=by
 unfold Fp
 constructor
 ·intro h
  split at h
  ·rename_i c
   obtain⟨t,rfl⟩:=c
   rw[List.drop_left]at h
   rw[h]
  ·cases h
 ·rintro rfl
  rw[if_pos (List.prefix_append _ _),List.drop_left]
theorem Ht {l:List V} {j:Int} (h:Ds l=some j):l=l.dropLast++[.int j]:=by
 unfold Ds at h
 split at h
 ·rename_i i e
  cases h
  have a:l≠[]:=by rintro rfl;cases e
  rw[List.getLast?_eq_some_getLast a]at e
  have:=List.dropLast_concat_getLast a
  rw[ACF e]at this
  exact this.symm
 ·cases h
theorem Lh (hs:List V) (a:V):Ds (hs++[a])=match a with| .int j=>some j|_=>none:=by
 unfold Ds
 rw[List.getLast?_concat]
 cases a<;>rfl
theorem Yr {w:Str} {xs hs:List V} {i:Int} (h:steps xs) (f:steps hs):CI hs i w xs=Kq (Fp (lX w xs) hs) i:=by
 unfold CI lX
 by_cases b:Cs (.str w) [.str "take",.str "move"]=true
 ·rw[if_pos b]
  have g:steps xs.dropLast:=fun z k=>h z (List.dropLast_subset _ k)
  cases d:Ds xs with
  |none=>
   show i=_
   unfold Kq
   split
   ·rename_i a e
    rw[Ej.mp e,Lh]at d
    cases d
   ·rfl
  |some j=>
   show(if _ then _ else _)=_
   have l:=Ht d
   by_cases c:xs.dropLast=hs
   ·have m:Fp xs hs=[.int j]:=Ej.mpr (by rw[<-c];exact l)
    rw[m]
    simp only[Kq,b,(Cw g f).mpr c,true_and]
   ·rw[if_neg fun z=>c (Eh g f z.2.1)]
    unfold Kq
    split
    ·rename_i a e
     have:=Ej.mp e
     exact absurd (by rw[this];simp) c
    ·rfl
 ·rw[if_neg b]
  have:Fp [] hs=[]:=by unfold Fp;split<;>simp
  rw[this,WC]
  cases d:Ds xs with
  |none=>rfl
  |some j=>exact if_neg fun z=>b z.1
theorem Ys {w:Str} {xs zs hs:List V} {i:Int} (h:steps xs) (sz:steps zs) (f:steps hs):Cg hs i w xs zs true=Kr (Fp (mX w xs zs) hs) i:=by
 unfold Cg mX
 by_cases b:Cs (.str w) Bv=true
 ·rw[if_pos b]
  have st:=DH (w:=w) h sz
  have g:steps (Cr w xs zs).dropLast:=fun z k=>st z (List.dropLast_subset _ k)
  cases d:Ds (Cr w xs zs)with
  |none=>
   show(0:Int)=_
   unfold Kr
   split
   ·rename_i a e
    rw[Ej.mp e,Lh]at d
    cases d
   ·rfl
  |some j=>
   show(if _ then _ else _)=_
   have l:=Ht d
   by_cases c:(Cr w xs zs).dropLast=hs
   ·have m:Fp (Cr w xs zs) hs=[.int j]:=Ej.mpr (by rw[<-c];exact l)
    rw[m]
    simp only[Kr,b,(Cw g f).mpr c,true_and]
    by_cases c2:j<=i
    ·rw[if_pos c2,if_pos (by lia)]
    ·rw[if_neg c2,if_neg (by lia)]
   ·rw[if_neg fun z=>c (Eh g f z.2.1)]
    unfold Kr
    split
    ·rename_i a e
     have:=Ej.mp e
     exact absurd (by rw[this];simp) c
    ·rfl
 ·rw[if_neg b]
  have:Fp [] hs=[]:=by unfold Fp;split<;>simp
  rw[this,WD]
  cases d:Ds (Cr w xs zs)with
  |none=>rfl
  |some j=>exact if_neg fun z=>b z.1
theorem WH {w:Str} {xs zs:List V} (b:steps xs) (sz:steps zs):∀(q hs:List V),steps hs->steps q->fC w xs zs hs q=WB (Fp (lX w xs) hs) (Fp (mX w xs zs) hs) q
 |[],_,_,_=>rfl
 |s::r,hs,c,d=>by
  show fB w xs zs hs s::fC w xs zs (hs++[s]) r=Mf _ _ s::WB (FF _ s) (FF _ s) r
  rw[OP,OP,WH b sz r (hs++[s]) (fun z a=>by
   rcases List.mem_append.mp a with a|a
   ·exact c z a
   ·rw[List.mem_singleton.mp a];exact d s List.mem_cons_self) fun z a=>d z (List.mem_cons_of_mem _ a)]
  congr 1
  cases s with
  |int i=>simp only[fB,Mf,Yr b c,Ys b sz c]
  |_=>rfl
theorem HN (l:List V):Fp l []=l:=by unfold Fp;rw[if_pos List.nil_prefix];rfl
def Ay (w:Str) (xs zs q:List V):Option (List V):=
 if Cs (.str w) [.str "take",.str "change"]=true/\xs<+:q then none
 else if w="move"/\xs<+:q then some (zs++q.drop xs.length)
 else some (WB (lX w xs) (mX w xs zs) q)
theorem mZ {w a b:Str}:Cs (.str w) [.str a,.str b]=true↔w=a∨w=b:=by
 rw[show([.str a,.str b]:List V)=[a,b].map V.str from rfl,KG]
 simp
def big (y:V):Prop:=∃i:Int,y=.int i/\10 ^ 20<=i
def Gm (v:Dc):Prop:=∀t y,v.sub t=some (.leaf y)->¬big y
def Uq (d:Dc):Prop:=∀a b y,big y->d.sub a=some (.leaf y)->d.sub b=some (.leaf y)->a=b
def wb (d:Dc) (w:Str) (xs zs:List V) (d':Dc):Prop:=∀a y,big y->d.sub a=some (.leaf y)->∀q,(d'.sub q=some (.leaf y)/\(w="copy"->¬zs<+:q))↔Ay w xs zs a=some q
def hU (d d':Dc):Prop:=∀q y,d.sub q=some (.leaf y)↔d'.sub q=some (.leaf y)
theorem hU.of {d d':Dc} (w:d.Wf) (f:d'.Wf) (h:Dc.Eqv d d'):hU d d':=by
 intro q y
 constructor
 ·intro a
  obtain⟨e,b,c⟩:=Dc.Eqv.sub w f h a
  cases c
  exact b
 ·intro a
  obtain⟨e,b,c⟩:=Dc.Eqv.sub f w h.symm a
  cases c
  exact b
theorem Gm.of {d d':Dc} (h:Gm d) (l:hU d d'):Gm d':=fun t y a=>h t y ((l _ _).mpr a)
def FP (H:Hp) (v:V):Option (List V)->Prop
 |none=>v=.Ao
 |some ys=>∃a:Addr,v=.ref a/\H a=some (.tup ys)
def JG:Sp:=fun c H Q _=>∃(t:Addr) (a:List V) (r:V) (w:Str) (xs zs:List V) (p:Addr),c=[.ref t,r]/\H t=some (.tup a)/\steps a/\a.length<=100/\Rw H r w xs zs p/\∀v b,AJ H b->FP b v (Ay w xs zs a)->Q v b
theorem pre_take {xs q:List V} (a:steps xs) (b:steps q):BB (q.take xs.length) xs=true↔xs<+:q:=by
 rw[Cw (fun z c=>b z (List.mem_of_mem_take c)) a]
 constructor
 ·intro h;rw[<-h];exact List.take_prefix _ _
 ·intro h;exact(List.prefix_iff_eq_take.mp h).symm
def Yt:Option Dc->V
 |some e=>e.val
 |none=>.Ao
def Ek:Sp:=fun a H Q _=>∃(d:Dc) (t:Addr) (xs:List V),a=[d.val,.ref t]/\d.At H/\H t=some (.tup xs)/\steps xs/\Q (Yt (d.sub xs)) H
structure Pth (D:List V) (f:V->Option Dc) (qs:List (List V)):Prop where
 hd:qs.head?=some []
 nd:qs.Nodup
 mem:∀q,q∈qs↔q=[]∨∃z x r,z∈D/\f z=some x/\q=z::r/\(x.sub r).isSome=true
structure zB (d:Dc) (qs:List (List V)):Prop where
 hd:qs.head?=some []
 nd:qs.Nodup
 mem:∀q,q∈qs↔(d.sub q).isSome=true
theorem CS.get {H:Hp} {ps:List Addr} {a:List (List V)} (h:CS H ps a) {j:Nat} {p:Addr} (e:ps[j]?=some p):∃xs,a[j]?=some xs/\H p=some (.tup xs):=by
 induction h generalizing j with
 |nil=>cases e
 |cons h _ b=>
  cases j with
  |zero=>cases e;exact⟨_,rfl,h⟩
  |succ j=>exact b (by simpa using e)
theorem Al.one {H c:Hp} {t v:Dc} (F:Al H c [t,v]):Bf H c t:=by
 have at_:=F.at_
 simp only[Dc.DF]at at_
 have nd:=F.nd
 simp only[Dc.AK]at nd
 have m:∀a∈t.addrs,a∈Dc.AK [t,v]:=fun a b=>by simp only[Dc.AK];exact List.mem_append_left _ b
 exact⟨F.same,at_.1,(List.nodup_append.mp nd).1,fun a b=>F.own a (m a b),fun a b=>F.new a (m a b)⟩
theorem Al.two {H c:Hp} {t v:Dc} (F:Al H c [t,v]):Bf H c v:=by
 have at_:=F.at_
 simp only[Dc.DF]at at_
 have nd:=F.nd
 simp only[Dc.AK,List.append_nil]at nd
 have m:∀a∈v.addrs,a∈Dc.AK [t,v]:=fun a b=>by simp only[Dc.AK,List.append_nil];exact List.mem_append_right _ b
 exact⟨F.same,at_.2.1,(List.nodup_append.mp nd).2.1,fun a b=>F.own a (m a b),fun a b=>F.new a (m a b)⟩
theorem Al.apart {H b:Hp} {t v:Dc} (F:Al H b [t,v]):∀a∈v.addrs,a∉t.addrs:=fun a c d=>by
 have nd:=F.nd
 simp only[Dc.AK,List.append_nil]at nd
 exact(List.nodup_append.mp nd).2.2 a d a c rfl
theorem Bf.insert {G H g:Hp} {t v e:Dc} {us:List V} {lv:V} {b:Addr} (F:Al G H [t,v]) (hs:t.sub us=some e) (w:e.room lv=true) (s:e.val=.ref b) (A:b∈e.addrs) (j:(e.DS lv v).At g) (k:∀a o,a≠b->H a=some o->g a=some o) (B:∀o u,g b≠some (.Cz o u)):Bf G g (t.Au us (e.DS lv v)):=by
 have f:=F.one
 have i:=F.two
 have P:=Dc.BI.sub hs
 have wt:=Dc.EA t f.at_
 have m:=Dc.Pl (v:=v) w
 have p:e.addrs.Nodup:=by
  obtain⟨l,r,C,_⟩:=Dc.DG (n:=e) wt f.nd hs
  have:=f.nd
  rw[C]at this
  exact(List.nodup_append.mp (List.nodup_append.mp this).1).2.1
 refine f.edit hs s A ((Dc.HJ ..).trans s) j k (m.nodup_iff.mpr (List.nodup_append.mpr ⟨p,i.nd,fun x D y E z=>F.apart y E (by rw[<-z];exact P.addrs x D)⟩)) (fun c q=>?_) (fun c q=>?_)
 ·by_cases d:c=b
  ·rw[d];exact B
  ·rcases List.mem_append.mp (m.mem_iff.mp q)with h|h
   ·exact Fj (Dc.there f.at_ (P.addrs c h)) (f.own c (P.addrs c h)) fun o=>k c o d
   ·exact Fj (Dc.there i.at_ h) (i.own c h) fun o=>k c o d
 ·rcases List.mem_append.mp (m.mem_iff.mp q)with h|h
  ·exact .inl h
  ·exact .inr ⟨F.apart c h,i.new c h⟩
theorem Dc.Mh {e v:Dc} {z:V} (h:e.ok) (b:v.ok) (sz:Dc.As z):(Dc.DS e z v).ok:=by
 cases e with
 |leaf w=>cases z<;>exact h
 |row a xs=>
  cases z with
  |int i=>
   simp only[Dc.DS,Dc.ok]at h⊢
   refine Dc.Bi.mpr fun y q=>?_
   rcases List.mem_append.mp q with q|q
   ·exact Dc.Bi.mp h y (List.mem_of_mem_take q)
   ·rcases List.mem_cons.mp q with rfl|q
    ·exact b
    ·exact Dc.Bi.mp h y (List.mem_of_mem_drop q)
  |_=>exact h
 |tab a d xs=>
  cases z with
  |str k=>
   simp only[Dc.DS,Dc.ok]at h⊢
   refine⟨fun y q=>?_,Dc.Bi.mpr fun y q=>?_⟩
   ·rcases List.mem_append.mp q with q|q
    ·exact h.1 y q
    ·rw[List.mem_singleton.mp q]
     rcases sz with⟨i,e⟩|⟨f,e,c⟩
     ·cases e
     ·cases e;exact c
   ·rcases List.mem_append.mp q with q|q
    ·exact Dc.Bi.mp h.2 y q
    ·rw[List.mem_singleton.mp q];exact b
  |_=>exact h
theorem KI {v:V} (h:¬big v):Gm (.leaf v):=fun t y e=>by
 cases t with
 |nil=>cases e;exact h
 |cons z r=>exact absurd rfl (Dc.WG (v:=v) (Dc.HM.mp e).choose_spec.1)
structure Gn (H:Hp) (w:Str) (zs rest:List V):Prop where
 pc:w="put"∨w="change"->∃v:Dc,rest=[v.val]/\v.At H/\v.ok/\v.size<=2/\Gm v
 cm:w="copy"∨w="move"->∃p2,rest=[.ref p2]/\H p2=some (.tup zs)
 ak:w="ask"->∃v:Dc,rest=[v.val]/\v.At H/\v.ok/\v.size<=40
 is:w="is"->∃x:Str,rest=[.str x]
theorem Gn.up {H d:Hp} {w:Str} {zs rest:List V} (h:Gn H w zs rest) (s:AJ H d):Gn d w zs rest:=
 ⟨fun e=>by obtain⟨v,a,b,c⟩:=h.pc e;exact⟨v,a,Dc.BS s b,c⟩,fun e=>by obtain⟨p,a,b⟩:=h.cm e;exact⟨p,a,s _ _ b⟩,fun e=>by obtain⟨v,a,b,c⟩:=h.ak e;exact⟨v,a,Dc.BS s b,c⟩,h.is⟩
structure Rx (H:Hp) (r:V) (w:Str) (xs zs:List V) (p:Addr):Prop where
 rw:Rw H r w xs zs p
 th:∃(a:Addr) (rest:List V),r=.ref a/\H a=some (.tup (.str w::.ref p::rest))/\Gn H w zs rest
theorem Rx.up {H b:Hp} {r:V} {w:Str} {xs zs:List V} {p:Addr} (h:Rx H r w xs zs p) (s:AJ H b):Rx b r w xs zs p:=by
 obtain⟨c,a,rest,e,d,f⟩:=h
 exact⟨c.up s,a,rest,e,s _ _ d,f.up s⟩
mutual
theorem Dc.WI {H:Hp}:∀d:Dc,d.At H->d.ok->d.size<64->d.tr.doc/\d.tr.deep<=d.size
 | .leaf v,_,h,_=>by
  rcases(show Nv v from h)with⟨i,rfl,_⟩|⟨x,rfl,c⟩
  ·exact⟨trivial,Nat.le_refl _⟩
  ·have:=Uw c
   exact⟨show x.length<=100 by lia,Nat.le_refl _⟩
 | .row a xs,t,h,z=>by
  simp only[Dc.ok]at h
  simp only[Dc.At]at t
  simp only[Dc.size]at z
  obtain⟨b,e⟩:=Dc.Mi xs t.2 h (by lia)
  exact⟨b,by simp only[Dc.tr,Pt.deep,Dc.size];lia⟩
 | .tab a f xs,t,h,z=>by
  simp only[Dc.ok]at h
  simp only[Dc.At]at t
  simp only[Dc.size]at z
  obtain⟨b,e⟩:=Dc.Mi xs t.2.2.2 h.2 (by lia)
  have g:=Dc.GZ xs
  refine⟨⟨?_,t.2.2.1,h.1,by have:=t.2.1;lia,b⟩,by simp only[Dc.tr,Pt.deep,Dc.size];lia⟩
  rw[Dc.RF,List.length_map];exact t.2.1
theorem Dc.Mi {H:Hp}:∀xs:List Dc,Dc.DF H xs->Dc.ML xs->Dc.Ab xs<64->Pt.Yk (Dc.Yl xs)/\Pt.Cf (Dc.Yl xs)<=Dc.Ab xs
 |[],_,_,_=>⟨trivial,Nat.le_refl _⟩
 |x::r,t,h,z=>by
  simp only[Dc.ML]at h
  simp only[Dc.DF]at t
  simp only[Dc.Ab]at z
  obtain⟨a,c⟩:=Dc.WI x t.1 h.1 (by lia)
  obtain⟨b,d⟩:=Dc.Mi r t.2 h.2 (by lia)
  exact⟨⟨a,b⟩,by simp only[Dc.Yl,Pt.Cf,Dc.Ab];lia⟩
end
theorem Bf.hV {H c:Hp} {d:Dc} (F:Bf H c d):Al H c [d]:=
 ⟨F.same,by simp only[Dc.DF];exact⟨F.at_,trivial⟩,by simp only[Dc.AK,List.append_nil];exact F.nd,fun a b=>F.own a (by simpa only[Dc.AK,List.append_nil]using b),fun a b=>F.new a (by simpa only[Dc.AK,List.append_nil]using b)⟩
theorem Al.taken {G H j:Hp} {t e x:Dc} {us:List V} {lv:V} {b:Addr} (F:Bf G H t) (hs:t.sub us=some e) (C:e.sub [lv]=some x) (D:e.val=.ref b) (J:b∈e.addrs) (K:b∈(e.Bh lv).addrs) (v:(e.Bh lv).At j) (s:∀a o,a≠b->H a=some o->j a=some o) (L:∀o u,j b≠some (.Cz o u)):Al G j [t.Au us (e.Bh lv),x]:=by
 have P:=Dc.BI.sub hs
 have M:=Dc.BI.sub C
 have wt:=Dc.EA t F.at_
 have N:=Dc.EA e (P.at_ F.at_)
 have w:=Dc.Pm N C
 obtain⟨l,r,O,Q⟩:=Dc.DG (n:=e.Bh lv) wt F.nd hs
 have k:=F.nd
 rw[O]at k
 obtain⟨R,Y,S⟩:=List.nodup_append.mp k
 obtain⟨Z,T,U⟩:=List.nodup_append.mp R
 obtain⟨W,X,E⟩:=List.nodup_append.mp (w.nodup_iff.mpr T)
 have i:∀c,c∈(e.Bh lv).addrs->c∈e.addrs:=fun c d=>w.mem_iff.mp (List.mem_append_right _ d)
 have f:∀c,c∈x.addrs->c∈e.addrs:=fun c d=>w.mem_iff.mp (List.mem_append_left _ d)
 have I:b∉x.addrs:=fun z=>E b z b K rfl
 have m:Bf G j (t.Au us (e.Bh lv)):=F.edit hs D J ((Dc.OD ..).trans D) v s X
  (fun c d=>by
   by_cases p:c=b
   ·rw[p];exact L
   ·exact Fj (Dc.there F.at_ (P.addrs c (i c d))) (F.own c (P.addrs c (i c d))) fun o=>s c o p)
  (fun c d=>.inl (i c d))
 have A:x.At j:=Dc.Fh x (fun c d o h=>s c o (fun z=>I (by rw[<-z];exact d)) h) (M.at_ (P.at_ F.at_))
 refine⟨m.same,by simp only[Dc.DF];exact⟨m.at_,A,trivial⟩,?_,fun c d=>?_,fun c d=>?_⟩
 ·simp only[Dc.AK,List.append_nil]
  refine List.nodup_append.mpr ⟨m.nd,W,fun y g z B q=>?_⟩
  subst q
  rw[Q]at g
  rcases List.mem_append.mp g with g|g
  ·rcases List.mem_append.mp g with g|g
   ·exact U y g y (f y B) rfl
   ·exact E y B y g rfl
  ·exact S y (List.mem_append_right _ (f y B)) y g rfl
 ·simp only[Dc.AK,List.append_nil]at d
  rcases List.mem_append.mp d with d|d
  ·exact m.own c d
  ·exact Fj (Dc.there F.at_ (P.addrs c (f c d))) (F.own c (P.addrs c (f c d))) fun o=>s c o fun z=>I (by rw[<-z];exact d)
 ·simp only[Dc.AK,List.append_nil]at d
  rcases List.mem_append.mp d with d|d
  ·exact m.new c d
  ·exact F.new c (P.addrs c (f c d))
theorem Mj {H a:Hp} {d e:Dc} (b:d.At H) (c:e.At a) (l:Dc.BA d e):hU d e:=hU.of (Dc.EA d b) (Dc.EA e c) (Dc.HI d e l)
def ma (H:Hp) (vs:List V):Prop:=∀v∈vs,∃(p:Addr) (xs:List V),v=.ref p/\H p=some (.tup xs)/\steps xs/\xs≠[]/\xs.length<=40
theorem Gn.no {H:Hp} {w:Str} {zs rest:List V} (h:w∈(["take","has","lacks"]:List Str)):Gn H w zs rest:=by
 simp only[List.mem_cons,List.not_mem_nil,or_false]at h
 rcases h with rfl|rfl|rfl<;>exact⟨fun z=>absurd z (by decide),fun z=>absurd z (by decide),fun z=>absurd z (by decide),fun z=>absurd z (by decide)⟩
theorem Gn.val {H:Hp} {w:Str} {zs:List V} {v:Dc} (h:w="put"∨w="change") (a:v.At H) (b:v.ok) (c:v.size<=2) (d:Gm v):Gn H w zs [v.val]:=by
 rcases h with rfl|rfl<;>exact⟨fun _=>⟨v,rfl,a,b,c,d⟩,fun z=>absurd z (by decide),fun z=>absurd z (by decide),fun z=>absurd z (by decide)⟩
theorem Gn.two {H:Hp} {w:Str} {zs:List V} {p:Addr} (h:w="copy"∨w="move") (a:H p=some (.tup zs)):Gn H w zs [.ref p]:=by
 rcases h with rfl|rfl<;>exact⟨fun z=>absurd z (by decide),fun _=>⟨p,rfl,a⟩,fun z=>absurd z (by decide),fun z=>absurd z (by decide)⟩
theorem Gn.ask {H:Hp} {zs:List V} {v:Dc} (a:v.At H) (b:v.ok) (c:v.size<=40):Gn H "ask" zs [v.val]:=⟨fun z=>absurd z (by decide),fun z=>absurd z (by decide),fun _=>⟨v,rfl,a,b,c⟩,fun z=>absurd z (by decide)⟩
theorem Gn.zC {H:Hp} {zs:List V} {x:Str}:Gn H "is" zs [.str x]:=⟨fun z=>absurd z (by decide),fun z=>absurd z (by decide),fun z=>absurd z (by decide),fun _=>⟨x,rfl⟩⟩
section
variable{X:Cx} {es:List Expr} {kt:Nat} {pt:Pos}
end
inductive jz:Nat->Dc->Prop
 |leaf (m:Nat):jz m (.leaf (.int (10 ^ 20+(m:Int))))
 |kids {m:Nat} {d:Dc} (e:∀v,d≠.leaf v) (a:V->Nat) (f:∀z x,d.sub [z]=some x->1<=a z/\a z<=19) (h:∀z x,d.sub [z]=some x->jz (m*20+a z) x) (inj:∀z b x c,d.sub [z]=some x->d.sub [b]=some c->a z=a b->z=b):jz m d
structure zD (m:Nat) (x y:Dc):Prop where
 mrk:jz m y
 ok:y.ok
 sb:y.addrs.Sublist x.addrs
 sz:y.size<=2*x.size
 lf:∀v,x=.leaf v->y.size=1
namespace Dc
end Dc
abbrev zero:Dc:=.leaf (.int 0)
structure Adz (xs Zr:List Dc):Prop where
 sb:(Dc.AK Zr).Sublist (Dc.AK xs)
 mem:∀x∈Zr,x∈xs∨x=zero
 len:Zr.length<=xs.length+1
 sz:∀ws:List Dc,ws.length=Zr.length->(∀(j:Nat) x y,Zr[j]?=some x->ws[j]?=some y->y.size<=2*x.size/\∀v,x=.leaf v->y.size=1)->Dc.Ab ws<=2*Dc.Ab xs+1
structure MkI (Zr:List Dc) (dn:Nat->Option Nat) (m:Nat) (Hi:Hp) (ws:List Dc):Prop where
 len:ws.length=Zr.length
 pt:∀(j:Nat) x y,Zr[j]?=some x->ws[j]?=some y->(∀g,dn j=some g->zD (m*20+g) x y)/\(dn j=none->y=x)
 at_:Dc.DF Hi ws
 own:∀b∈Dc.AK ws,∀o u,Hi b≠some (.Cz o u)
def md (y:V):Option Dc->Bool
 |some (.leaf v)=>decide (v=y)
 |_=>false
def wc (d:Dc) (y:V) (a:List (List V)):List (List V):=a.filter fun q=>md y (d.sub q)
def hX (H:Hp) (kvs:List (Key×V)) (d:Dc) (a:List (List V)) (k:Key):Prop:=(Ct kvs k=none/\wc d (kV k) a=[])∨∃(l:Addr) (b:List Addr),Ct kvs k=some (.ref l)/\H l=some (.lst (b.map V.ref))/\CS H b (wc d (kV k) a)
def j_ (H:Hp) (D:Addr) (d:Dc) (a:List (List V)):Prop:=∃kvs:List (Key×V),H D=some (.dK kvs)/\kvs.length<=a.length/\∀k:Key,hX H kvs d a k
theorem QC {xs:List V} (h:∀z∈xs,Bg z=true):BB xs xs=true:=by
 unfold BB
 simp only[Bool.and_eq_true,beq_self_eq_true,and_true,List.all_eq_true,List.mem_range]
 intro j b
 have a:j<xs.length:=by lia
 rw[List.getD_eq_getElem?_getD,ACD a]
 exact VG (h _ (List.getElem_mem a))
theorem QD {w:Str} {xs zs q:List V} (h:¬(Cs (.str w) [.str "take",.str "change"]=true/\xs<+:q)):∃a,Ay w xs zs q=some a:=by
 unfold Ay
 rw[if_neg h]
 split<;>exact⟨_,rfl⟩
theorem FP.up {H a:Hp} {v:V} {o:Option (List V)} (h:FP H v o) (s:AJ H a):FP a v o:=by
 cases o with
 |none=>exact h
 |some e=>obtain⟨b,c,d⟩:=h;exact⟨b,c,s _ _ d⟩
section
variable{prog:Program} {w:World} {A:Around} {s:Shared}
def hY (prog:Program) (w:World) (A:Around) (s:Shared) (u v:Value):Prop:=∀(E:Value->Shared->Prop) (Q:Value->Shared->Prop),Q (.bool false) s->wpAny (model prog w) A (richCompare .NotEq u v) Q E s
theorem TL {P:Type} [DecidableEq P] {knd:PySem.KeyKind prog w P} {a b:Addr} {y m:List (P×Value)} (ha:(a==sysModules)=false) (hb:(b==sysModules)=false) (O:s.heap.DictOf knd a y) (R:s.heap.DictOf knd b m)
  (hk:y.map (·.1)=m.map (·.1)) (hu:A.units<cLine) (he:∀(j:Nat) k u v,y[j]?=some (k,u)->m[j]?=some (k,v)->Ou prog w A.in1 s u v):hY prog w A s (.ref a) (.ref b):=fun E Q h=>by
 have ll:y.length=m.length:=by have:=congrArg List.length hk;simpa using this
 refine wpAny_richCompare_same_room (op:=.NotEq) O.typeIs R.typeIs PySem.F.slot_dict_ne (wpAny_call_entry PySem.F.slot_dict_ne O.typeIs PySem.F.entry_dict_ne ?_ (PySem.F.args_dict_ne_2 _ _)) hu
 show wpAny _ _ (Builtin.Dict.dictSlotArgs "__ne__" ⟨[.ref a,.ref b],[]⟩>>=_) _ _ s
 refine wpAny_bind ?_
 unfold Builtin.Dict.dictSlotArgs
 refine wpAny_bind (wpAny_notOrdered_dict O.typeIs ?_)
 show wpAny _ _ (pure (Value.ref a,Value.ref b)) _ _ s
 refine wpAny_pure ?_
 refine wpAny_bind (wpAny_isInstance (T:="dict") R.typeIs PySem.F.sub_dict_dict ?_)
 simp only[Bool.not_true,Bool.false_eq_true,if_false]
 refine wpAny_bind (wpAny_pure (wpAny_bind (wpAny_pure ?_)))
 obtain⟨oa,d,ep,n,_,o,S,G,yi⟩:=O
 obtain⟨ob,f,yj,p,_,r,H,C,U⟩:=R
 have I:y.length=d.size:=by rw[<-G.length];exact Array.length_toList
 have J:m.length=f.size:=by rw[<-C.length];exact Array.length_toList
 refine wpAny_bind ?_
 unfold Builtin.Dict.samePairs Builtin.Dict.showsAll
 rw[if_neg (show¬(a==sysModules)=true by rw[ha];exact Bool.false_ne_true),if_neg (show¬(b==sysModules)=true by rw[hb];exact Bool.false_ne_true)]
 refine wpAny_bind (wpAny_pure (wpAny_bind (wpAny_pure ?_)))
 refine wpAny_bind (wpAny_dictEntries n o ?_)
 dsimp only
 refine wpAny_bind (wpAny_dictEntries p r ?_)
 rw[if_neg (by rw[<-I,<-J,ll];simp)]
 refine wpAny_bind (wpAny_dictEpoch n o ?_)
 refine wpAny_bind ?_
 rw[Std.Legacy.Range.forIn_eq_forIn_range']
 simp only[Std.Legacy.Range.size,Nat.sub_zero,Nat.add_sub_cancel,Nat.div_one]
 have fin:∃v,Fin.done (Flow.ret (Value.bool (true==false)))=.done (.ret v)/\v≠.notImplemented/\Q v s:=⟨_,rfl,(fun x=>nomatch x),h⟩
 refine wpAny_forIn_list _ (fun rest q V=>V=s/\q=(none,())/\∃i,rest=List.range' i (d.size-i)/\i<=d.size) _ ?_ ?_ _ _ ⟨rfl,rfl,0,by simp,Nat.zero_le _⟩
 ·rintro x rest q V ⟨rfl,rfl,i,K,hi⟩
  have g:i<d.size:=by
   rcases Nat.lt_or_ge i d.size with h|h
   ·exact h
   ·rw[Nat.sub_eq_zero_of_le h]at K;simp at K
  obtain⟨rfl,D⟩:x=i/\rest=List.range' (i+1) (d.size-(i+1)):=by
   have e:d.size-i=(d.size-(i+1))+1:=by lia
   rw[e,List.range'_succ]at K
   injection K with h1 h2
   exact⟨h1,h2⟩
  have L:x<y.length:=by rw[I];exact g
  have M:x<m.length:=by lia
  obtain⟨k,u,W⟩:∃k u,y[x]=(k,u):=⟨_,_,rfl⟩
  obtain⟨t,v,X⟩:∃k v,m[x]=(k,v):=⟨_,_,rfl⟩
  have Y:y[x]?=some (k,u):=by rw[ACD L,W]
  have Z:m[x]?=some (t,v):=by rw[ACD M,X]
  have ek:t=k:=by
   have:=congrArg (fun l=>l[x]?) hk
   simp only[List.getElem?_map,Y,Z]at this
   simpa using this.symm
  subst ek
  have hv:=Fo U Z
  refine wpAny_bind (wpAny_dictEntries n o ?_)
  rw[Array.getElem?_eq_getElem g]
  obtain⟨z,N⟩:=G.get? (i:=x) (e:=d[x]) (k:=t) (v:=u) (by rw[Array.getElem?_toList];exact Array.getElem?_eq_getElem g) Y
  obtain⟨k2,mK,hh⟩:=S d[x] (Array.getElem_mem g)
  have mL:k2=t:=knd.inj _ _ _ mK z
  rw[mL]at hh
  show wpAny _ _ (holding [d[x].key,d[x].val] _>>=_) _ _ _
  rw[hh]
  refine wpAny_bind (wpAny_holding (wpAny_bind (wpAny_dictFind_of z p r H ?_)))
  have c:findBy knd.is f t=valueAt m t:=by
   rw[<-C.find t]
   clear J C H r p
   obtain⟨l⟩:=f
   simp[findBy]
  cases hj:f.findIdx? fun e=>knd.is t e.key with
  |none=>
   rw[findBy_of_findIdx?,hj,hv]at c
   exact nomatch c
  |some j=>
   obtain⟨B,_,_⟩:=Array.findIdx?_eq_some_iff_getElem.mp hj
   have mM:f[j].val=v:=by
    rw[findBy_of_findIdx?,hj,hv]at c
    simpa[Array.getElem?_eq_getElem B]using c
   refine wpAny_bind (wpAny_dictEntries p r ?_)
   rw[Array.getElem?_eq_getElem B]
   refine wpAny_holding ?_
   rw[mM,N]
   refine he x t u v Y Z _ _ ?_
   show wpAny _ _ (if(!true)=true then _ else _) _ _ _
   rw[if_neg (by decide)]
   refine wpAny_bind (wpAny_dictEpoch n o ?_)
   rw[if_neg (by simp)]
   exact wpAny_pure ⟨rfl,rfl,x+1,D,g⟩
 ·rintro q V ⟨rfl,rfl,i,K,hi⟩
  exact wpAny_pure (wpAny_pure fin)
end
section
variable{X:Cx} [An X.K] {pins:List (Addr×Obj)} {σ:St} {H:Hp} {s:Shared}
theorem Pt.me (I:Inv X pins σ H s) {ks:List Str} {m:List Pt}:∀{a b:Addr},Val H (.ref a) (.Dr ks m)->Val H (.ref b) (.Dr ks m)->∀{A:Around},A.units+(Pt.Dr ks m).deep<cLine->hY X.prog X.w A s (.ref a) (.ref b)
 |a,b,.Dr (kvs:=kvs) J n L,.Dr (kvs:=o) M p N,A,O=>by
  simp only[Pt.deep]at O
  obtain⟨z,P,q,f,Q⟩:=FJ I.Bl J
  obtain⟨V,r,d,c,x⟩:=FJ I.Bl M
  have k1:q.map (·.1)=kvs.map (·.1):=(KV.keys f).symm
  have k2:d.map (·.1)=o.map (·.1):=(KV.keys c).symm
  refine TL P r Q x (by rw[k1,k2,n,p]) (by lia) fun j k u R g S=>?_
  have B:(q.map (·.2))[j]?=some u:=by rw[List.getElem?_map,g];rfl
  have h:(d.map (·.2))[j]?=some R:=by rw[List.getElem?_map,S];rfl
  have C:j<(q.map (·.2)).toArray.size:=by rw[List.size_toArray];exact(ACE B).1
  have D:j<(d.map (·.2)).toArray.size:=by rw[List.size_toArray];exact(ACE h).1
  obtain⟨v,t,W,E,T,F⟩:=L.at (JC f) C
  obtain⟨Y,G,U,i,y,l⟩:=N.at (JC c) D
  rw[Jy B C]at F
  rw[Jy h D]at l
  have e:G=t:=by rw[E]at i;exact(ACF i).symm
  subst e
  have dl:=Pt.Bz (ACG E)
  exact Pt.Zo I _ G (Nat.le_refl _) T y (by show A.units+1+_<cLine;lia) F l
end
inductive cM {K:ACH} [An K] (x y:V) (H:Hp) (Q:VK):Prop
 |mk (a b:Addr) (ks:List Str) (c:List Pt) (e:x=.ref a) (f:y=.ref b) (g:Val H (.ref a) (.Dr ks c)) (h:Val H (.ref b) (.Dr ks c)) (d:(Pt.Dr ks c).deep<=60) (q:Q (.bl false) H):cM x y H Q
theorem cN {X:Cx} (g:X.A.units+64<cLine):Dy X (compareOp .NotEq) (@cM X.K ⟨trivial⟩):=by
 haveI:An X.K:=⟨trivial⟩
 intro pins s i H x y v u Q I c d h
 obtain⟨a,b,j,k,rfl,rfl,e,f,l,q⟩:=h
 cases c
 cases d
 exact Pt.me I e f (A:=X.A) (by lia) _ _ ⟨.bl false,H,I,rfl,q⟩
def El:Option (List V)->Option (List V)->Bool
 |some x,some y=>decide (x<+:y)
 |_,_=>false
def DU (o:Option (List V)):Prop:=∀a,o=some a->steps a
def DY (w:Str) (xs:List V):Option (List V):=if Cs (.str w) [.str "take",.str "change"]=true then some xs else none
def Bb (w:Str) (xs:List V):Option (List V):=if w="move"then some xs else none
def Bw (w:Str) (xs:List V):Option (List V):=if Cs (.str w) [.str "ask",.str "copy"]=true then some xs else none
def FQ (w:Str) (xs zs:List V):Option (List V):=if Cs (.str w) Bv=true then some (Cr w xs zs).dropLast else none
def Em (w:Str) (xs zs:List V):Option (List V):=if w="lacks"then some xs else if Cs (.str w) Bv=true/\Ot ((Cr w xs zs).getLastD .Ao)=false then some (Cr w xs zs)else none
def Fq (w:Str) (xs zs:List V) (b:Str) (a c:List V):Bool:=El (Bw w xs) (DY b a)||El (Bw w xs) (FQ b a c)||(El (Bw w xs) (Bb b a)&& !decide (Bw w xs=Bb b a))
def Ci (w:Str) (xs zs:List V) (c:Str) (a b:List V):Bool:= !decide (w="lacks")&&(Em w xs zs).isSome&&decide (Em w xs zs=Em c a b)
def CO (o:Option (List V)) (a:List (List V)):Bool:=a.any fun y=>El o (some y)
def Cj (w:Str) (xs zs:List V) (c:Str) (a b:List V):Bool:=CO (Em w xs zs) (CK c a b)
def CT (w:Str) (xs zs:List V) (b:Str) (a c:List V):Bool:=(Bb w xs).isSome&&decide (Bb w xs=Bb b a)
def CF (w:Str) (xs zs:List V) (c:Str) (a b:List V):Bool:=El (Bb w xs) (FQ c a b)
def Cd (w:Str) (xs zs:List V) (c:Str) (a b:List V):Bool:=CO (DY w xs) (CK c a b)||Fq w xs zs c a b||Ci w xs zs c a b||Cj w xs zs c a b||CT w xs zs c a b||(CF w xs zs c a b&&CF c a b w xs zs)
def EO (w:Str) (xs zs:List V) (c:Str) (a b:List V):Bool:=Cd w xs zs c a b||Cd c a b w xs zs
theorem IV {w:Str} {xs:List V} (h:steps xs):DU (DY w xs):=fun a e=>by unfold DY at e;split at e<;>cases e;exact h
theorem Di {w:Str} {xs:List V} (h:steps xs):DU (Bb w xs):=fun a e=>by unfold Bb at e;split at e<;>cases e;exact h
theorem Ml {w:Str} {xs:List V} (h:steps xs):DU (Bw w xs):=fun a e=>by unfold Bw at e;split at e<;>cases e;exact h
theorem IW {w:Str} {xs zs:List V} (h:steps xs) (h':steps zs):DU (FQ w xs zs):=fun b e=>by
 unfold FQ at e
 split at e<;>cases e
 exact fun z a=>DH h h' z (List.dropLast_subset _ a)
theorem QE {H:Hp} {w:Str} {ws:List V} {xs:List V} {p:Addr} (a:H p=some (.tup xs)):FP H (if Cs (.str w) ws=true then .ref p else .Ao) (if Cs (.str w) ws=true then some xs else none):=by
 split
 ·exact⟨p,rfl,a⟩
 ·rfl
theorem HP {H:Hp} {w:Str} {xs:List V} {p:Addr} (a:H p=some (.tup xs)):FP H (if decide (V.str w=.str "move")=true then .ref p else .Ao) (Bb w xs):=by
 unfold Bb
 by_cases c:w="move"
 ·rw[if_pos c,if_pos (by rw[c];decide)];exact⟨p,rfl,a⟩
 ·rw[if_neg c,if_neg (by simpa using c)];rfl
def HQ:Sp:=fun d H Q _=>∃(u v:V) (a b:Option (List V)),d=[u,v]/\FP H u a/\FP H v b/\DU a/\DU b/\∀c,AJ H c->Q (.bl (El a b)) c
def GI:Sp:=fun e H Q _=>∃(u:V) (a:Option (List V)) (l:Addr) (c:List Addr) (b:List (List V)),e=[u,.ref l]/\FP H u a/\DU a/\H l=some (.lst (c.map V.ref))/\CS H c b/\(∀f∈b,steps f)/\b.length<=10/\∀d,AJ H d->Q (.bl (CO a b)) d
def Mm:Sp:=fun b H Q _=>∃(r:V) (w:Str) (xs zs:List V) (p:Addr),b=[r]/\Rw H r w xs zs p/\∀v a,AJ H a->FP a v (FQ w xs zs)->Q v a
def Cb (f:Str->List V->List V->Str->List V->List V->Bool):Sp:=fun g H Q _=>∃(r:V) (w:Str) (xs zs:List V) (p:Addr) (c:V) (d:Str) (a b:List V) (h:Addr),g=[r,c]/\Rw H r w xs zs p/\Rw H c d a b h/\∀e,AJ H e->Q (.bl (f w xs zs d a b)) e
section
variable{X:Cx} {pins:List (Addr×Obj)} {σ:St} {H:Hp} {s:Shared}
theorem RK (I:Inv X pins σ H s) {A:Around} (l:A.units<cLine) {a b:Addr} {xs ys:List V} (m:H a=some (.tup xs)) (n:H b=some (.tup ys)) (o:∀z∈xs,Bg z=true) (p:∀z∈ys,Bg z=true):SeqAt.RcAt A s (.ref a) (.ref b) (BB xs ys):=by
 obtain⟨f,g,q,_⟩:=I.tuple (Ah.of (K:=X.K) m)
 obtain⟨c,h,r,_⟩:=I.tuple (Ah.of (K:=X.K) n)
 have t:f.toArray.size=xs.length:=by rw[List.size_toArray];exact g.length.symm
 have u:c.toArray.size=ys.length:=by rw[List.size_toArray];exact h.length.symm
 have d:=SeqAt.RcAt.tuples (A:=A) (e:=fun j=>F' (xs.getD j .Ao) (ys.getD j .Ao)) q r l (fun j v w=>by
  obtain⟨x,i,B⟩:=HK g v
  obtain⟨y,k,C⟩:=HK h w
  have D:xs.getD j .Ao=x:=by rw[List.getD_eq_getElem?_getD,i];rfl
  have E:ys.getD j .Ao=y:=by rw[List.getD_eq_getElem?_getD,k];rfl
  show SeqAt.EqAt _ _ _ _ (F' (xs.getD j .Ao) (ys.getD j .Ao))
  rw[D,E]
  exact JX B C (o _ (ACG i)) (p _ (ACG k)))
 rw[t,u]at d
 exact d
end
inductive cO (x y:V) (H:Hp) (Q:VK):Prop
 |mk (a b:Option (List V)) (c:FP H x a) (d:FP H y b) (e:DU a) (f:DU b) (q:Q (.bl (decide (a=b))) H):cO x y H Q
theorem WJ {xs ys:List V} (a:steps xs) (b:steps ys):BB xs ys=decide ((some xs:Option (List V))=some ys):=by
 by_cases c:xs=ys
 ·rw[decide_eq_true (by rw[c]),(Cw a b).mpr c]
 ·rw[decide_eq_false (by simpa using c)]
  exact Bool.eq_false_iff.mpr fun z=>c ((Cw a b).mp z)
theorem is_tup {X:Cx} {pins:List (Addr×Obj)} {σ:St} {H:Hp} {s:Shared} (I:Inv X pins σ H s) {a:Addr} {xs:List V} (b:H a=some (.tup xs)):∃its:Array Value,s.heap.IsTuple a its:=by
 obtain⟨its,_,p,_⟩:=I.tuple (Ah.of (K:=X.K) b)
 exact⟨_,p⟩
theorem cP {X:Cx} (f:X.A.units<cLine):Dy X (compareOp .Eq) cO:=by
 intro pins s D H x y v u Q I m c h
 obtain⟨a,b,n,d,w,B,q⟩:=h
 cases a with
 |none=>
  have C:x=.Ao:=n
  subst C
  cases(show v=Value.none from m)
  cases b with
  |none=>
   have g:y=.Ao:=d
   subst g
   cases(show u=Value.none from c)
   exact SeqAt.RcAt.none_none _ _ _ _ ⟨.bl _,H,I,rfl,q⟩
  |some o=>
   obtain⟨p,rfl,e⟩:=d
   cases c
   obtain⟨i,j⟩:=is_tup I e
   exact SeqAt.RcAt.none_tuple j f _ _ _ _ ⟨.bl _,H,I,rfl,q⟩
 |some xs=>
  obtain⟨p,rfl,e⟩:=n
  cases m
  cases b with
  |none=>
   have g:y=.Ao:=d
   subst g
   cases(show u=Value.none from c)
   obtain⟨i,j⟩:=is_tup I e
   exact SeqAt.RcAt.tuple_none j f _ _ _ _ ⟨.bl _,H,I,rfl,q⟩
  |some o=>
   obtain⟨E,rfl,k⟩:=d
   cases c
   have r:=w xs rfl
   have t:=B o rfl
   rw[<-WJ r t]at q
   exact RK I f e k (fun z l=>(r z l).flat) (fun z l=>(t z l).flat) _ _ _ _ ⟨.bl _,H,I,rfl,q⟩
def fE (H:Hp) (v:V):Option (List V)->Prop
 |none=>v=.Ao
 |some ys=>Fn H v ys
theorem fE.up {H a:Hp} {v:V} {o:Option (List V)} (h:fE H v o) (s:AJ H a):fE a v o:=by
 cases o with
 |none=>exact h
 |some b=>exact Fn.up h s
inductive cQ (x y:V) (H:Hp) (Q:VK):Prop
 |mk (a b:Option (List V)) (c:fE H x a) (d:fE H y b) (e:DU a) (f:DU b) (q:Q (.bl (decide (a=b))) H):cQ x y H Q
theorem Gp {ys:List V} {l:V} (h:ys.getLast?=some l):ys=ys.dropLast++[l]:=by
 have a:ys≠[]:=by rintro rfl;cases h
 rw[List.getLast?_eq_some_getLast a]at h
 have:=List.dropLast_concat_getLast a
 rw[ACF h]at this
 exact this.symm
theorem cR {X:Cx} (hu:X.A.units+64<cLine):Dy X (compareOp .Eq) cQ:=by
 intro pins s σ H x y v u Q I D o h
 obtain⟨a,b,V,L,sa,sb,q⟩:=h
 cases a with
 |none=>
  have O:x=.Ao:=V
  subst O
  cases(show v=Value.none from D)
  cases b with
  |none=>
   have E:y=.Ao:=L
   subst E
   cases(show u=Value.none from o)
   exact SeqAt.RcAt.none_none _ _ _ _ ⟨.bl _,H,I,rfl,q⟩
  |some f=>
   obtain⟨t,P,B,rfl,M,R,N⟩:=L
   cases o
   obtain⟨g,S⟩:=is_tup I M
   exact SeqAt.RcAt.none_tuple S (by lia) _ _ _ _ ⟨.bl _,H,I,rfl,q⟩
 |some xs=>
  obtain⟨t,P,B,rfl,M,R,N⟩:=V
  cases D
  cases b with
  |none=>
   have E:y=.Ao:=L
   subst E
   cases(show u=Value.none from o)
   obtain⟨g,S⟩:=is_tup I M
   exact SeqAt.RcAt.tuple_none S (by lia) _ _ _ _ ⟨.bl _,H,I,rfl,q⟩
  |some f=>
   obtain⟨t',F,d,rfl,T,p,i⟩:=L
   cases o
   have W:=sa xs rfl
   have Y:=sb f rfl
   have l:steps xs.dropLast:=fun z r=>W z (List.dropLast_subset _ r)
   have m:steps f.dropLast:=fun z r=>Y z (List.dropLast_subset _ r)
   have U:=W B (List.mem_of_getLast? N)
   have G:=Y d (List.mem_of_getLast? i)
   obtain⟨g,Z,p1,_⟩:=I.tuple (Ah.of (K:=X.K) M)
   obtain⟨n,r2,p2,_⟩:=I.tuple (Ah.of (K:=X.K) T)
   have e1:g.toArray.size=2:=by rw[List.size_toArray];exact Z.length.symm
   have e2:n.toArray.size=2:=by rw[List.size_toArray];exact r2.length.symm
   have J:=SeqAt.RcAt.tuples (A:=X.A) (e:=fun j=>match j with|0=>BB xs.dropLast f.dropLast|_=>F' B d) p1 p2 (by lia) (fun j h1 h2=>by
    obtain⟨x,w,D⟩:=HK Z h1
    obtain⟨y,C,o⟩:=HK r2 h2
    match j,w,C with
    |0,w,C=>
     cases w;cases C
     have w1:g.toArray[0]=Value.ref P:=D
     have w2:n.toArray[0]=Value.ref F:=o
     rw[w1,w2]
     show SeqAt.EqAt _ _ _ _ (BB xs.dropLast f.dropLast)
     by_cases e:P=F
     ·subst e
      rw[R]at p
      have ed:xs.dropLast=f.dropLast:=HO.tup.inj (ACF p)
      rw[ed,(Cw m m).mpr rfl]
      exact SeqAt.EqAt.same _
     ·exact SeqAt.EqAt.of_refs e (RK I (A:=X.A.in1) (by show X.A.units+1<cLine;lia) R p (fun z r=>(l z r).flat) (fun z r=>(m z r).flat))
    |1,w,C=>
     cases w;cases C
     exact JX D o U.flat G.flat
    |k+2,w,C=>simp at w)
   rw[e1,e2]at J
   refine J _ _ _ _ ⟨.bl _,H,I,?_,q⟩
   show Value.bool _=Value.bool _
   congr 1
   have e3:((List.range (min 2 2)).all fun j=>match j with|0=>BB xs.dropLast f.dropLast|_=>F' B d)=(BB xs.dropLast f.dropLast&&F' B d):=by
    show([0,1].all _)=_
    simp[List.all_cons,List.all_nil]
   rw[e3]
   have O:=Gp N
   have E:=Gp i
   by_cases c:xs=f
   ·rw[decide_eq_true (by rw[c])]
    subst c
    rw[N]at i
    cases i
    rw[(Cw l l).mpr rfl,OO U]
    rfl
   ·rw[decide_eq_false (by simpa using c)]
    cases c1:BB xs.dropLast f.dropLast with
    |false=>rfl
    |true=>
     cases c2:F' B d with
     |false=>rfl
     |true=>
      exfalso
      apply c
      rw[O,E,Eh l m c1,step_eq U G c2]
theorem Mn {H:Hp} {v:V} {w:Str} {xs zs:List V} (h:S_ H v w xs zs):fE H v (Em w xs zs):=by
 unfold S_ at h
 unfold Em
 split at h
 ·rename_i c;rw[if_pos c];exact h
 ·rename_i c
  rw[if_neg c]
  split at h
  ·rename_i c2;rw[if_pos c2];exact h
  ·rename_i c2;rw[if_neg c2];exact h
theorem Gq {w:Str} {xs zs:List V} (h:steps xs) (h':steps zs):DU (Em w xs zs):=fun a e=>by
 unfold Em at e
 split at e
 ·cases e;exact h
 ·split at e<;>cases e
  exact DH h h'
theorem WK {w:Str} {xs zs ys:List V} (h:Em w xs zs=some ys) (a:xs.length<=100) (b:zs.length<=100):ys.length<=100:=by
 unfold Em at h
 split at h
 ·cases h;exact a
 ·split at h<;>cases h
  unfold Cr
  split
  ·exact b
  ·split
   ·rw[Cv];exact b
   ·exact a
def Dt (c:List V) (d:Str) (a b:List V) (ah:Bool):V->V
 | .int i=>.int (CI c i d a+Cg c i d a b ah)
 |l=>l
def BD (w:Str) (xs zs:List V) (c:Str) (a b:List V) (first:Bool):Option (List V):=(Ay c a b (Cr w xs zs).dropLast).map fun d=>d++[Dt (Cr w xs zs).dropLast c a b (!first) ((Cr w xs zs).getLastD .Ao)]
def Gr:Sp:=fun g H Q _=>∃(r:V) (w:Str) (xs zs:List V) (p:Addr) (d:V) (e:Str) (a b:List V) (h:Addr) (first:Bool) (f:List V),g=[r,d,.bl first]/\Rw H r w xs zs p/\Rw H d e a b h/\Cs (.str w) Bv=true/\BD w xs zs e a b first=some f/\∀(t:Addr) (c:Hp),AJ H c->c t=some (.tup f)->Q (.ref t) c
def Bs (zs xs:List V):List V:=
 match zs[xs.length-1]?,xs.getLast? with
 |some (.int i),some (.int j)=>if BB (zs.take (xs.length-1)) xs.dropLast=true/\j<i then zs.set (xs.length-1) (.int (i-1))else zs
 |_,_=>zs
theorem Yu {w:Str} {xs zs:List V} (b:xs.length<=100) (a:zs.length<=100):(Cr w xs zs).length<=100:=by
 unfold Cr
 split
 ·exact a
 ·split
  ·rw[Cv];exact a
  ·exact b
theorem Mo:∀(q xs zs:List V),(WB xs zs q).length=q.length
 |[],_,_=>rfl
 |j::r,xs,zs=>by
  show(Mf xs zs j::WB (FF xs j) (FF zs j) r).length=_
  rw[List.length_cons,Mo r,List.length_cons]
theorem En {w:Str} {xs zs q a:List V} (h:Ay w xs zs q=some a):a.length<=zs.length+q.length:=by
 unfold Ay at h
 split at h
 ·cases h
 ·split at h
  ·cases h
   rw[List.length_append,List.length_drop]
   lia
  ·cases h
   rw[Mo]
   lia
theorem Hu (zs us:List V) (lv:V):Bs zs (us++[lv])=match zs[us.length]?,lv with
  |some (.int i),.int j=>if BB (zs.take us.length) us=true/\j<i then zs.set us.length (.int (i-1))else zs
  |_,_=>zs:=by
 unfold Bs
 have a:(us++[lv]).length-1=us.length:=by simp
 have b:(us++[lv]).getLast?=some lv:=by simp
 have c:(us++[lv]).dropLast=us:=by simp
 rw[a,b,c]
 cases zs[us.length]? with
 |none=>rfl
 |some z=>cases z<;>cases lv<;>rfl
theorem IX {zs us:List V} {lv:V} (h:(BB (zs.take us.length) us&&decide (us.length<zs.length)&&Ot (zs.getD us.length .Ao))=false):Bs zs (us++[lv])=zs:=by
 refine(Hu zs us lv).trans ?_
 by_cases a:us.length<zs.length
 ·have g:zs[us.length]?=some zs[us.length]:=ACD a
  have b:zs.getD us.length .Ao=zs[us.length]:=by rw[List.getD_eq_getElem?_getD,g];rfl
  rw[b,decide_eq_true a,Bool.and_true]at h
  rw[g]
  cases d:zs[us.length]with
  |int i=>
   rw[d]at h
   have e:BB (zs.take us.length) us=false:=by simpa[Ot]using h
   cases lv with
   |int j=>exact if_neg fun c=>by rw[e]at c;exact Bool.false_ne_true c.1
   |_=>rfl
  |_=>rfl
 ·rw[List.getElem?_eq_none_iff.mpr (by lia)]
theorem QF {zs us:List V} {k:Str}:Bs zs (us++[.str k])=zs:=by
 refine(Hu zs us _).trans ?_
 cases zs[us.length]? with
 |none=>rfl
 |some z=>cases z<;>rfl
theorem KJ {zs us:List V} {i j:Int} (g:zs[us.length]?=some (.int i)) (b:BB (zs.take us.length) us=true):Bs zs (us++[.int j])=if j<i then zs.set us.length (.int (i-1))else zs:=by
 refine(Hu zs us _).trans ?_
 rw[g]
 by_cases c:j<i
 ·rw[if_pos c];exact if_pos ⟨b,c⟩
 ·rw[if_neg c];exact if_neg fun z=>c z.2
def Hv:Sp:=fun b H Q _=>∃(t p:Addr) (zs xs:List V),b=[.ref t,.ref p]/\H t=some (.tup zs)/\H p=some (.tup xs)/\xs≠[]/\steps zs/\steps xs/\zs.length<=400/\xs.length<=400/\∀q a,AJ H a->a q=some (.tup (Bs zs xs))->Q (.ref q) a
theorem WL {xs zs:List V} {j:V} (b:steps xs) (c:Dc.As j):Dc.As (Mf xs zs j):=by
 rcases c with⟨i,rfl⟩|⟨k,rfl,d⟩
 ·refine .inl ?_
  have f:0<=Kq xs (i:Int):=by
   unfold Kq
   split
   ·rename_i a
    rcases b (.int a) (by simp)with⟨m,e⟩|⟨k,e,_⟩
    ·cases e
     split<;>lia
    ·cases e
   ·lia
  have g:0<=Kr zs (i:Int):=by
   unfold Kr
   split
   ·split<;>lia
   ·lia
  refine⟨(Kq xs (i:Int)+Kr zs (i:Int)).toNat,?_⟩
  show V.int _=V.int _
  rw[Int.toNat_of_nonneg (by lia)]
 ·exact .inr ⟨k,rfl,d⟩
theorem TM {xs:List V} {j:V} (h:steps xs):steps (FF xs j):=by
 cases xs with
 |nil=>intro z a;cases a
 |cons x r=>
  simp only[FF]
  split
  ·exact fun z a=>h z (List.mem_cons_of_mem _ a)
  ·intro z a;cases a
theorem Li:∀(q xs zs:List V),steps xs->steps q->steps (WB xs zs q)
 |[],_,_,_,_=>fun z a=>nomatch a
 |j::r,xs,zs,b,c=>by
  intro z a
  rcases List.mem_cons.mp (show z∈Mf xs zs j::WB (FF xs j) (FF zs j) r from a)with rfl|a
  ·exact WL b (c j List.mem_cons_self)
  ·exact Li r _ _ (TM b) (fun v d=>c v (List.mem_cons_of_mem _ d)) z a
theorem WM {w:Str} {xs:List V} (h:steps xs):steps (lX w xs):=by
 unfold lX
 split
 ·exact h
 ·intro z a;cases a
theorem Fs {w:Str} {xs zs q b:List V} (d:steps xs) (sz:steps zs) (c:steps q) (h:Ay w xs zs q=some b):steps b:=by
 unfold Ay at h
 split at h
 ·cases h
 ·split at h
  ·cases h
   intro z a
   rcases List.mem_append.mp a with a|a
   ·exact sz z a
   ·exact c z (List.mem_of_mem_drop a)
  ·cases h
   exact Li _ _ _ (WM d) c
theorem Ks {a xs zs:List V} {w:Str} {ah:Bool} {l:V} (c:steps xs) (d:Dc.As l):Dc.As (Dt a w xs zs ah l):=by
 rcases d with⟨i,rfl⟩|⟨k,rfl,f⟩
 ·refine .inl ?_
  have h:0<=CI a (i:Int) w xs:=by
   unfold CI
   cases e:Ds xs with
   |none=>show 0<=(i:Int);lia
   |some j=>
    have g:=Ht e
    rcases c (.int j) (by rw[g];simp)with⟨m,b⟩|⟨k,b,_⟩
    ·cases b
     simp only
     split<;>lia
    ·cases b
  have n:0<=Cg a (i:Int) w xs zs ah:=by
   unfold Cg
   split
   ·split<;>lia
   ·lia
  refine⟨(CI a (i:Int) w xs+Cg a (i:Int) w xs zs ah).toNat,?_⟩
  show V.int _=V.int _
  rw[Int.toNat_of_nonneg (by lia)]
 ·exact .inr ⟨k,rfl,f⟩
theorem Ft {w c:Str} {xs zs a b n:List V} (h:EO w xs zs c a b=false) (f:n∈CK w xs zs):∃g,Ay c a b n=some g:=by
 refine QD fun z=>?_
 unfold EO at h
 simp only[Bool.or_eq_false_iff]at h
 have d:=h.2
 unfold Cd at d
 simp only[Bool.or_eq_false_iff]at d
 have e:CO (DY c a) (CK w xs zs)=false:=d.1.1.1.1.1
 unfold CO at e
 have i:=(List.any_eq_false.mp e) n f
 apply i
 unfold DY
 rw[if_pos z.1]
 exact decide_eq_true z.2
def hZ:TS:=fun _ _ _=>False
theorem Yv {X:Cx} {st:Stmt}:PS X st hZ:=fun _ _ _ _ _ _ h=>h.elim
def EC (w:Str) (xs zs:List V) (d:Str) (a b:List V) (first:Bool):Option (List V×List V):=
 if w="put"then(BD w xs zs d a b first).map fun c=>(c,[])
 else if w="lacks"then(Ay d a b xs.dropLast).map fun e=>(e++[xs.getLastD .Ao],[])
 else(Ay d a b xs).bind fun q=>if w="move"then(BD w xs zs d a b first).map fun c=>(q,Bs c q)else if w="copy"then(BD w xs zs d a b first).map fun c=>(q,c)else some (q,[])
def QG:Sp:=fun m H Q _=>∃(r:V) (w:Str) (xs zs:List V) (p:Addr) (h:V) (g:Str) (c d:List V) (n:Addr) (first:Bool) (i j:List V),m=[r,h,.bl first]/\Rx H r w xs zs p/\Rw H h g c d n/\xs.length<=40/\zs.length<=40/\c.length<=40/\d.length<=40/\(w="take"∨w="has"∨w="lacks"->∃a,r=.ref a/\H a=some (.tup [.str w,.ref p]))/\EO w xs zs g c d=false/\EC w xs zs g c d first=some (i,j)/\
 ∀(k a:Addr) (b rest:List V) (e:Addr) (f:Hp),AJ H f->r=.ref k->H k=some (.tup (.str w::.ref p::b))->Rx f (.ref a) w i j e->f a=some (.tup (.str w::.ref e::rest))->rest.length=b.length->(w="put"->∃v l:Dc,b=[v.val]/\rest=[l.val]/\Dc.BA v l)->Q (.ref a) f
theorem Hy {w d:Str} {xs zs a b:List V} {fi:Bool} (e:Cs (.str w) Bv=true) (h:EO w xs zs d a b=false):∃c,BD w xs zs d a b fi=some c:=by
 obtain⟨g,f⟩:=Ft (n:=(Cr w xs zs).dropLast) h (by unfold CK nC;rw[if_pos e];simp)
 unfold BD
 rw[f]
 exact⟨_,rfl⟩
theorem Mp {w d:Str} {xs zs a b c:List V} {fi:Bool} (h:BD w xs zs d a b fi=some c):c≠[]:=by
 unfold BD at h
 cases e:Ay d a b (Cr w xs zs).dropLast with
 |none=>rw[e]at h;cases h
 |some f=>rw[e]at h;cases h;simp
theorem Gs {w i:Str} {xs zs a b c:List V} {fi:Bool} (k:steps xs) (sz:steps zs) (d:steps a) (g:steps b) (j:Cr w xs zs≠[]) (h:BD w xs zs i a b fi=some c):steps c:=by
 have st:=DH (w:=w) k sz
 unfold BD at h
 cases e:Ay i a b (Cr w xs zs).dropLast with
 |none=>rw[e]at h;cases h
 |some m=>
  rw[e]at h
  cases h
  intro z f
  rcases List.mem_append.mp f with f|f
  ·exact Fs d g (fun y l=>st y (List.dropLast_subset _ l)) e z f
  ·rw[List.mem_singleton.mp f]
   refine Ks d (st _ ?_)
   rw[List.getLastD_eq_getLast?,List.getLast?_eq_some_getLast j]
   exact List.getLast_mem j
theorem KL {w d:Str} {xs zs b a c:List V} {fi:Bool} (g:xs.length<=40) (f:zs.length<=40) (i:a.length<=40) (h:BD w xs zs d b a fi=some c):c.length<=81:=by
 have lt:(Cr w xs zs).length<=40:=by
  unfold Cr
  split
  ·exact f
  ·split
   ·rw[Cv];exact f
   ·exact g
 unfold BD at h
 cases e:Ay d b a (Cr w xs zs).dropLast with
 |none=>rw[e]at h;cases h
 |some j=>
  rw[e]at h
  cases h
  have:=En e
  rw[List.length_dropLast]at this
  simp only[List.length_append,List.length_singleton]
  lia
theorem KN (zs xs:List V):(Bs zs xs).length=zs.length:=by
 unfold Bs
 split
 ·split<;>simp
 ·rfl
theorem Mq {zs xs:List V} (h:steps zs) (d:steps xs):steps (Bs zs xs):=by
 unfold Bs
 split
 ·rename_i i j f e
  split
  ·rename_i c
   intro z a
   rcases List.mem_or_eq_of_mem_set a with a|rfl
   ·exact h z a
   ·rcases d _ (List.mem_of_getLast? e)with⟨m,b⟩|⟨k,b,_⟩
    ·cases b
     exact .inl ⟨(i-1).toNat,by rw[Int.toNat_of_nonneg (by lia)]⟩
    ·cases b
  ·exact h
 ·exact h
theorem WN {w:Str} {xs zs q a:List V} (h:Ay w xs zs q=some a) (b:q≠[]) (d:w="move"->zs≠[]):a≠[]:=by
 unfold Ay at h
 split at h
 ·cases h
 ·split at h
  ·rename_i c
   cases h
   intro z
   exact d c.1 (List.append_eq_nil_iff.mp z).1
  ·cases h
   intro z
   have:=Mo q (lX w xs) (mX w xs zs)
   rw[z]at this
   exact b (List.eq_nil_of_length_eq_zero this.symm)
theorem Du {H:Hp} {a p:Addr} {w:Str} {xs zs rest:List V} (b:H a=some (.tup (.str w::.ref p::rest))) (c:H p=some (.tup xs)) (d:steps xs) (e:xs.length<=100) (f:w∈Pu) (nx:w="put"∨w="lacks"∨w="take"∨w="move"->xs≠[]) (T:Gn H w zs rest) (sz:steps zs) (g:zs.length<=100) (h:w="copy"∨w="move"->zs≠[]):Rx H (.ref a) w xs zs p:=
 ⟨⟨⟨a,rest,rfl,b,T.cm⟩,c,d,sz,e,g,f,nx,h⟩,a,rest,rfl,b,T⟩
theorem JH {w x:Str} (h:w≠x):decide (V.str w=V.str x)=false:=decide_eq_false fun z=>h (V.str.inj z)
theorem TN (us:List V) (lv:V):FY (us++[lv]) (some (-1)) none=[lv]:=by
 have a:HT.CZ (us++[lv]).length 0 (some (-1))=us.length:=by
  simp only[HT.CZ,List.length_append,List.length_singleton]
  rw[if_pos (by decide)]
  lia
 unfold FY
 rw[a,HT.Nb,List.drop_left,List.length_append,List.length_singleton,Nat.add_sub_cancel_left]
 rfl
inductive WO (x:V) (vs:List V) (H:Hp) (Q:VK):Prop
 |mk (l:Addr) (is:List Int) (i:Int) (j:Nat) (a:x=.ref l) (b:vs=[.int i]) (c:H l=some (.lst (is.map V.int))) (d:is[j]?=some i) (e:∀k,k<j->is[k]?≠some i) (f:is.length<=1000) (q:Q (.int (j:Int)) H):WO x vs H Q
theorem KO {is:List Int} {its:List Value} (h:Vals (is.map V.int) its):∀{j:Nat} {u:Value},its[j]?=some u->∃(i:Int) (t:Tok),is[j]?=some i/\u=.int i t:=by
 intro j u b
 have l:=h.length
 rw[List.length_map]at l
 have a:=(ACE b).1
 obtain⟨i,c⟩:∃i,is[j]?=some i:=⟨_,ACD (by rw[l];exact a)⟩
 obtain⟨d,g,r⟩:=h.get (show(is.map V.int)[j]?=some (.int i)by rw[List.getElem?_map,c];rfl)
 rw[b]at g
 cases g
 obtain⟨t,e⟩:=(show∃t,u=Value.int i t from r)
 exact⟨i,t,c,e⟩
def isInt (i:Int):Value->Bool
 | .int k _=>k==i
 |_=>false
theorem OQ {X:Cx}:gE X "list.index" WO:=by
 intro pins s R H x S v T Q I D E h
 obtain⟨l,G,i,j,rfl,rfl,J,p,K,U,q⟩:=h
 cases D
 obtain⟨u,rfl,L⟩:=E.one
 obtain⟨w,M⟩:=(show∃t,u=Value.int i t from L)
 subst M
 obtain⟨z,a,n,r,A,e⟩:=I.UW J
 have B:j<a.length:=by
  have:=(ACE p).1
  rw[List.length_map]at A
  lia
 have d:∀(m:Nat) (b:m<a.toArray.size),isInt i a.toArray[m]=decide (G[m]?=some i):=fun m b=>by
  have f:m<a.length:=by simpa using b
  obtain⟨k,t,C,g⟩:=KO r (ACD f)
  have N:a.toArray[m]=a[m]:=by simp
  rw[N,g,C]
  show(k==i)=_
  by_cases c:k=i
  ·rw[c];simp
  ·rw[decide_eq_false (by simpa using c)]
   exact beq_eq_false_iff_ne.mpr c
 refine call_meets PySem.F.slot_list_index ⟨_,e,rfl⟩ PySem.F.entry_list_index (PySem.F.args_list_index_2 _ _) (PySem.SeqAt.list_indexAt l a.toArray n none #[] (.int i w) (isInt i) j (by simpa using B) (by rw[List.length_map]at A;lia) ?_ ?_) ⟨e,fun y O=>?_,?_⟩
 ·rw[d j (by simpa using B)]
  exact decide_eq_true p
 ·intro m b o
  rw[d m b]
  exact decide_eq_false (K m o)
 ·obtain⟨m,b,P⟩:=List.getElem_of_mem (List.mem_toArray.mp O)
  obtain⟨k,t,C,g⟩:=KO r (ACD b)
  rw[<-P,g]
  exact SeqAt.EqAt.int_int k t i w
 ·exact⟨.int (j:Int),H,I.tok _,⟨_,rfl⟩,q⟩
def Mr:Sp:=fun f H Q _=>∃(G:Hp) (d v:Dc) (t:Addr) (xs:List V),f=[d.val,.ref t,v.val]/\Al G H [d,v]/\d.size<=200/\H t=some (.tup xs)/\steps xs/\xs≠[]/\
 (∀b c e,xs=b++[c]->d.sub b=some e->e.room c=true->∀a,Bf G a (d.Au b (e.DS c v))->Q d.val a)/\(d.DT xs->∀a,AJ H a->Q .Ao a)
inductive Yw (t:Dc):Str->List V->List V->Dc->Dc->Prop
 |put {us:List V} {z:V} {zs:List V} {e v c:Dc} (h:t.sub us=some e) (r:e.room z=true) (l:Dc.BA v c):Yw t "put" (us++[z]) zs v (t.Au us (e.DS z c))
 |copy {xs us:List V} {z:V} {e x d v:Dc} (f:t.sub xs=some x) (h:t.sub us=some e) (r:e.room z=true) (l:Dc.BA x d):Yw t "copy" xs (us++[z]) v (t.Au us (e.DS z d))
 |move {us a:List V} {z z2:V} {e x b v:Dc} (h:t.sub us=some e) (f:e.sub [z]=some x) (g:(t.Au us (e.Bh z)).sub a=some b) (r:b.room z2=true):Yw t "move" (us++[z]) (a++[z2]) v ((t.Au us (e.Bh z)).Au a (b.DS z2 x))
def Fits (d:Dc) (w:Str) (xs zs:List V):Prop:=
 (w="put"/\¬d.DT xs)∨(w="copy"/\(d.sub xs).isSome=true/\¬d.DT zs)∨
 (w="move"/\∃a z e x,xs=a++[z]/\d.sub a=some e/\e.sub [z]=some x/\¬(d.Au a (e.Bh z)).DT zs)
def Ms:Sp:=fun e H Q _=>∃(d:Dc) (r:V) (w:Str) (xs zs:List V) (p:Addr) (v:Dc),e=[d.val,r]/\d.At H/\d.ok/\d.size<=30/\Rx H r w xs zs p/\(w="put"->∃a,r=.ref a/\H a=some (.tup [.str w,.ref p,v.val])/\v.At H/\v.ok/\v.size<=2)/\Fits d w xs zs/\
 ∀(t b:Dc) (c:Hp),AJ H c->Dc.BA d t->Bf H c b->b.ok->Yw t w xs zs v b->Q b.val c
theorem KP {H a:Hp} {d t:Dc} {xs:List V} (b:d.At H) (c:t.At a) (l:Dc.BA d t) (h:t.DT xs):d.DT xs:=Dc.LW (Dc.EA d b) (Dc.EA t c) (Dc.HI d t l) h
abbrev CC (i:Int):Dc:=.leaf (.int i)
def JI (D a0 a1 a2:Addr) (n0 n1 n2:Str) (L A B:List Int):Dc:=.tab D [n0,n1,n2] [.row a0 (L.map CC),.row a1 (A.map CC),.row a2 (B.map CC)]
theorem KQ:∀{xs:List Int} {ys:List Dc},Dc.Aj (xs.map CC) ys->ys=xs.map CC
 |[],[],_=>rfl
 |[],_::_,h=>by simp[Dc.Aj]at h
 |_::_,[],h=>by simp[Dc.Aj]at h
 |x::xs,y::ys,h=>by
  simp only[List.map_cons,Dc.Aj]at h
  obtain⟨b,c⟩:=h
  cases y with
  |leaf v=>
   have:V.int x=v:=by simpa[Dc.BA]using b
   rw[<-this,KQ c]
   rfl
  |row a zs=>simp[Dc.BA]at b
  |tab a d zs=>simp[Dc.BA]at b
theorem KR {a:Addr} {xs:List Int} {y:Dc} (h:Dc.BA (.row a (xs.map CC)) y):∃b,y=.row b (xs.map CC):=by
 cases y with
 |leaf v=>simp[Dc.BA]at h
 |tab b c zs=>simp[Dc.BA]at h
 |row b zs=>
  simp only[Dc.BA]at h
  exact⟨b,by rw[KQ h]⟩
theorem OR {D a0 a1 a2:Addr} {n0 n1 n2:Str} {L A B:List Int} {t:Dc} (h:Dc.BA (JI D a0 a1 a2 n0 n1 n2 L A B) t):∃a c d e,t=JI a c d e n0 n1 n2 L A B:=by
 cases t with
 |leaf v=>simp[Dc.BA,JI]at h
 |row b zs=>simp[Dc.BA,JI]at h
 |tab a f zs=>
  simp only[JI,Dc.BA]at h
  obtain⟨rfl,h⟩:=h
  match zs,h with
  |[x,y,z],h=>
   simp only[Dc.Aj]at h
   obtain⟨c,rfl⟩:=KR h.1
   obtain⟨d,rfl⟩:=KR h.2.1
   obtain⟨e,rfl⟩:=KR h.2.2.1
   exact⟨a,c,d,e,rfl⟩
  |[],h=>simp[Dc.Aj]at h
  |[_],h=>simp[Dc.Aj]at h
  |[_,_],h=>simp[Dc.Aj]at h
  |_::_::_::_::_,h=>simp[Dc.Aj]at h
structure Tp (n0 n1 n2:Str):Prop where
 h01:n0≠n1
 h02:n0≠n2
 h12:n1≠n2
section
variable{D a0 a1 a2:Addr} {n0 n1 n2:Str} {L A B:List Int} (N:Tp n0 n1 n2)
include N
theorem OS:(JI D a0 a1 a2 n0 n1 n2 L A B).sub [.str n0]=some (.row a0 (L.map CC)):=by
 unfold JI
 rw[Dc.EB (x:=.row a0 (L.map CC)) (by simp),Dc.Ba]
theorem cS:(JI D a0 a1 a2 n0 n1 n2 L A B).sub [.str n1]=some (.row a1 (A.map CC)):=by
 have e:(n1==n0)=false:=by simpa using Ne.symm N.h01
 unfold JI
 rw[Dc.EB (x:=.row a1 (A.map CC)) (by simp[List.lookup_cons,e]),Dc.Ba]
theorem cT:(JI D a0 a1 a2 n0 n1 n2 L A B).sub [.str n2]=some (.row a2 (B.map CC)):=by
 have e:(n2==n0)=false:=by simpa using Ne.symm N.h02
 have a:(n2==n1)=false:=by simpa using Ne.symm N.h12
 unfold JI
 rw[Dc.EB (x:=.row a2 (B.map CC)) (by simp[List.lookup_cons,e,a]),Dc.Ba]
theorem QH {a:List Int}:(JI D a0 a1 a2 n0 n1 n2 L A B).Au [.str n0] (.row a0 (a.map CC))=JI D a0 a1 a2 n0 n1 n2 a A B:=by
 unfold JI
 have e:Dc.ix [n0,n1,n2] n0=0:=by simp[Dc.ix,List.findIdx_cons]
 rw[Dc.Ca (x:=.row a0 (L.map CC)) (by rw[e];rfl),Dc.Jx,e]
 rfl
theorem h_ {a:List Int}:(JI D a0 a1 a2 n0 n1 n2 L A B).Au [.str n1] (.row a1 (a.map CC))=JI D a0 a1 a2 n0 n1 n2 L a B:=by
 unfold JI
 have b:(n0==n1)=false:=by simpa using N.h01
 have e:Dc.ix [n0,n1,n2] n1=1:=by simp[Dc.ix,List.findIdx_cons,b]
 rw[Dc.Ca (x:=.row a1 (A.map CC)) (by rw[e];rfl),Dc.Jx,e]
 rfl
theorem iA {a:List Int}:(JI D a0 a1 a2 n0 n1 n2 L A B).Au [.str n2] (.row a2 (a.map CC))=JI D a0 a1 a2 n0 n1 n2 L A a:=by
 unfold JI
 have b:(n0==n2)=false:=by simpa using N.h02
 have c:(n1==n2)=false:=by simpa using N.h12
 have e:Dc.ix [n0,n1,n2] n2=2:=by simp[Dc.ix,List.findIdx_cons,b,c]
 rw[Dc.Ca (x:=.row a2 (B.map CC)) (by rw[e];rfl),Dc.Jx,e]
 rfl
end
def insI (P:Nat) (m:Int) (L:List Int):List Int:=L.take P++m::L.drop P
theorem HR {a:Addr} {L:List Int} {P:Nat} {m:Int}:Dc.DS (.row a (L.map CC)) (.int (P:Int)) (CC m)=.row a ((insI P m L).map CC):=by
 simp[Dc.DS,insI]
theorem TQ {L:List Int} {i:Nat}:(L.map CC).eraseIdx i=(L.eraseIdx i).map CC:=by
 rw[List.eraseIdx_eq_take_drop_succ,List.eraseIdx_eq_take_drop_succ,List.map_append,List.map_take,List.map_drop]
theorem GJ {a:Addr} {L:List Int} {i:Nat}:Dc.Bh (.row a (L.map CC)) (.int (i:Int))=.row a ((L.eraseIdx i).map CC):=by
 simp only[Dc.Bh,Int.toNat_natCast,TQ]
theorem WQ {a:Addr} {L:List Int} {P:Nat} (h:P<=L.length):(Dc.row a (L.map CC)).room (.int (P:Int))=true:=by
 simp[Dc.room,h]
theorem FG {a:Addr} {L:List Int} {i:Nat} {m:Int} (h:L[i]?=some m):(Dc.row a (L.map CC)).sub [.int (i:Int)]=some (CC m):=by
 rw[Dc.GG (x:=CC m) (by rw[List.getElem?_map,h];rfl),Dc.Ba]
def CB (m:Int) (l:List Int):List Int:=l.filter fun x=> !decide (x=m)
theorem ED {m:Int} {l:List Int} (h:m∉l):CB m l=l:=List.filter_eq_self.mpr fun x a=>by
 have:x≠m:=fun e=>h (by rw[<-e];exact a)
 simp[this]
theorem Fu (m n:Int) (l:List Int):CB m (CB n l)=CB n (CB m l):=by
 unfold CB
 rw[List.filter_filter,List.filter_filter]
 congr 1
 funext x
 exact Bool.and_comm _ _
theorem Dj (m:Int) (l k:List Int):CB m (l++k)=CB m l++CB m k:=List.filter_append ..
theorem DP {m x:Int} {l:List Int}:x∈CB m l↔x∈l/\x≠m:=by
 unfold CB
 rw[List.mem_filter]
 simp
theorem GK:∀{l:List Int} {i:Nat} {m:Int},l.Nodup->l[i]?=some m->l.eraseIdx i=CB m l
 |[],_,_,_,h=>by simp at h
 |x::r,0,m,a,h=>by
  cases h
  have:=(List.nodup_cons.mp a).1
  show r=CB x (x::r)
  rw[show CB x (x::r)=CB x r by simp[CB],ED this]
 |x::r,i+1,m,a,h=>by
  have b:r[i]?=some m:=by simpa using h
  have c:x≠m:=fun e=>(List.nodup_cons.mp a).1 (by rw[e];exact ACG b)
  show x::r.eraseIdx i=CB m (x::r)
  rw[show CB m (x::r)=x::CB m r by simp[CB,c],GK (List.nodup_cons.mp a).2 b]
theorem WR {X Y:List Int} {m:Int}:insI X.length m (X++Y)=X++m::Y:=by
 unfold insI
 rw[List.take_left,List.drop_left]
theorem RL {X Y:List Int} {i:Nat} {m:Int} (a:(X++Y).Nodup) (h:(X++Y)[i]?=some m):insI (if i<X.length then X.length-1 else X.length) m ((X++Y).eraseIdx i)=CB m X++m::CB m Y:=by
 rw[GK a h,Dj]
 have e:(if i<X.length then X.length-1 else X.length)=(CB m X).length:=by
  by_cases c:i<X.length
  ·rw[if_pos c]
   rw[List.getElem?_append_left c]at h
   rw[<-GK (List.nodup_append.mp a).1 h,List.length_eraseIdx,if_pos c]
  ·rw[if_neg c]
   rw[List.getElem?_append_right (by lia)]at h
   have b:m∉X:=fun z=>(List.nodup_append.mp a).2.2 m z m (ACG h) rfl
   rw[ED b]
 rw[e]
 exact WR
inductive Bx
 |put (m:Int)
 |DV (a:Nat)
 |Cy (n:Str) (i:Nat)
 |DQ (n:Str) (i:Nat)
namespace Bx
def w:Bx->Str
 |put _=>"put"
 |DV _=>"move"
 |Cy _ _=>"move"
 |DQ _ _=>"copy"
def xs (n0:Str) (P:Nat):Bx->List V
 |put _=>[.str n0,.int (P:Int)]
 |DV a=>[.str n0,.int (a:Int)]
 |Cy n i=>[.str n,.int (i:Int)]
 |DQ n i=>[.str n,.int (i:Int)]
def zs (n0:Str) (P:Nat):Bx->List V
 |put _=>[]
 |DV a=>[.str n0,.int ((if a<P then P-1 else P:Nat):Int)]
 |Cy _ _=>[.str n0,.int (P:Int)]
 |DQ _ _=>[.str n0,.int (P:Int)]
def Ok (n0:Str) (P:Nat):Bx->Prop
 |put _=>True
 |DV a=>P≠a+1
 |Cy n _=>n≠n0
 |DQ n _=>n≠n0
def gone:Bx->Nat->Nat
 |DV a,x=>if a<x then x-1 else x
 |_,x=>x
end Bx
theorem QI (a b:Str):BB [.str a] [.str b]=decide (a=b):=by
 by_cases c:a=b
 ·subst c;simp[BB,F']
 ·have c2:¬b=a:=fun z=>c z.symm
  simp[BB,F',c,c2]
theorem KS {n0:Str} {P:Nat} {c:Bx} (h:c.Ok n0 P):Cr c.w (c.xs n0 P) (c.zs n0 P)=[.str n0,.int (P:Int)]:=by
 cases c with
 |put m=>rfl
 |DV a=>
  have h:P≠a+1:=h
  show CQ [.str n0,.int ((if a<P then P-1 else P:Nat):Int)] ([.str n0]++[.int (a:Int)])=_
  have b:BB (List.take ([.str n0]:List V).length [.str n0,.int ((if a<P then P-1 else P:Nat):Int)]) [.str n0]=true:=by
   show BB [.str n0] [.str n0]=true
   rw[QI];simp
  rw[LZ (i:=((if a<P then P-1 else P:Nat):Int)) rfl b]
  by_cases c:a<P
  ·simp only[if_pos c]
   rw[if_pos (by left;lia)]
   show[V.str n0,V.int _]=_
   congr 3
   lia
  ·simp only[if_neg c]
   rw[if_neg (by simp;lia)]
 |Cy n i=>
  have h:n≠n0:=h
  show CQ [.str n0,.int (P:Int)] ([.str n]++[.int (i:Int)])=_
  refine KC ?_
  show(BB [.str n0] [.str n]&&_&&_)=false
  rw[QI,decide_eq_false (Ne.symm h)]
  rfl
 |DQ n i=>rfl
theorem KU (c:Bx):c.w="put"∨c.w="move"∨c.w="copy":=by
 cases c
 ·exact .inl rfl
 ·exact .inr (.inl rfl)
 ·exact .inr (.inl rfl)
 ·exact .inr (.inr rfl)
theorem QJ (c:Bx):Cs (.str c.w) Bv=true:=by rcases KU c with h|h|h<;>rw[h]<;>decide
theorem WS (c:Bx):Cs (.str c.w) [.str "take",.str "change"]=false:=by rcases KU c with h|h|h<;>rw[h]<;>decide
theorem OT {n0:Str} {P:Nat} {c:Bx} (h:c.Ok n0 P):FQ c.w (c.xs n0 P) (c.zs n0 P)=some [.str n0]:=by
 unfold FQ
 rw[if_pos (QJ c),KS h]
 rfl
theorem RM {n0:Str} {P:Nat} {c:Bx} (h:c.Ok n0 P):Em c.w (c.xs n0 P) (c.zs n0 P)=none:=by
 unfold Em
 rw[if_neg (by rcases KU c with h|h|h<;>rw[h]<;>decide),KS h,if_neg (by intro z;exact absurd z.2 (by simp[Ot]))]
theorem OU (c:Bx) (n0:Str) (P:Nat):DY c.w (c.xs n0 P)=none:=by
 unfold DY
 rw[if_neg (by rw[WS c];exact Bool.false_ne_true)]
def Apart:Bx->Bx->Prop
 | .DV a,.DV b=>a≠b
 | .Cy n _,.Cy k _=>n≠k
 | .Cy n _,.DQ k _=>n≠k
 | .DQ n _,.Cy k _=>n≠k
 |_,_=>True
theorem Mt {a b c d:V}:[a,b]<+:[c,d]↔a=c/\b=d:=by
 constructor
 ·intro h
  obtain⟨e,f⟩:=List.cons_prefix_cons.mp h
  exact⟨e,(List.cons_prefix_cons.mp f).1⟩
 ·rintro⟨rfl,rfl⟩
  exact List.prefix_refl _
theorem Zs {a b c:V}:¬[a,b]<+:[c]:=fun h=>by
 have:=h.length_le
 simp at this
theorem TR {n0:Str} {P:Nat} {c k:Bx} (h:c.Ok n0 P) (l:k.Ok n0 P) (g:Apart c k) (f:c.w≠"put"):¬(k.w="move"/\k.xs n0 P<+:c.xs n0 P):=by
 rintro⟨j,d⟩
 cases k with
 |put m=>exact absurd (show("put":Str)="move"from j) (by decide)
 |DQ n i=>exact absurd (show("copy":Str)="move"from j) (by decide)
 |DV b=>
  cases c with
  |put m=>exact f rfl
  |DV a=>
   obtain⟨_,e⟩:=Mt.mp d
   have:b=a:=by cases e;rfl
   exact g this.symm
  |Cy n i=>
   obtain⟨e,_⟩:=Mt.mp d
   cases e;exact h rfl
  |DQ n i=>
   obtain⟨e,_⟩:=Mt.mp d
   cases e;exact h rfl
 |Cy n i=>
  cases c with
  |put m=>exact f rfl
  |DV a=>
   obtain⟨e,_⟩:=Mt.mp d
   cases e;exact l rfl
  |Cy o p=>
   obtain⟨e,_⟩:=Mt.mp d
   cases e;exact g rfl
  |DQ o p=>
   obtain⟨e,_⟩:=Mt.mp d
   cases e;exact g rfl
theorem HS (a:List (List V)):CO none a=false:=by
 unfold CO
 simp[El]
theorem RN {n0:Str} {P:Nat} {c k:Bx} (d:c.Ok n0 P) (f:k.Ok n0 P) (e:Apart c k) (o:Apart k c):Cd c.w (c.xs n0 P) (c.zs n0 P) k.w (k.xs n0 P) (k.zs n0 P)=false:=by
 have two:∀{n:Str} {i:Nat},El (some [.str n,.int (i:Int)]) (some [.str n0])=false:=fun{n i}=>decide_eq_false Zs
 unfold Cd
 simp only[Bool.or_eq_false_iff,Bool.and_eq_false_iff]
 refine⟨⟨⟨⟨⟨?_,?_⟩,?_⟩,?_⟩,?_⟩,?_⟩
 ·rw[OU];exact HS _
 ·unfold Fq
  rw[OU,OT f]
  have j:El (Bw c.w (c.xs n0 P)) none=false:=by cases Bw c.w (c.xs n0 P)<;>rfl
  rw[j]
  cases c with
  |DQ n i=>
   have l:Bw (Bx.DQ n i).w ((Bx.DQ n i).xs n0 P)=some [.str n,.int (i:Int)]:=rfl
   rw[l,two]
   simp only[Bool.false_or,Bool.or_false,Bool.and_eq_false_iff]
   left
   cases k with
   |put m=>rfl
   |DQ g h=>rfl
   |DV b=>
    show decide ([V.str n,V.int (i:Int)]<+:[V.str n0,V.int (b:Int)])=false
    exact decide_eq_false fun z=>d (by have:=(Mt.mp z).1;cases this;rfl)
   |Cy g h=>
    show decide ([V.str n,V.int (i:Int)]<+:[V.str g,V.int (h:Int)])=false
    exact decide_eq_false fun z=>e (by have:=(Mt.mp z).1;cases this;rfl)
  |put m=>rfl
  |DV a=>rfl
  |Cy n i=>rfl
 ·unfold Ci
  rw[RM d]
  simp
 ·unfold Cj
  rw[RM d]
  exact HS _
 ·unfold CT
  cases c with
  |put m=>rfl
  |DQ n i=>rfl
  |DV a=>
   cases k with
   |put m=>rfl
   |DQ n i=>rfl
   |DV b=>
    have e:a≠b:=e
    show(true&&decide (some [V.str n0,V.int (a:Int)]=some [V.str n0,V.int (b:Int)]))=false
    simp;lia
   |Cy n i=>
    have f:n≠n0:=f
    show(true&&decide (some [V.str n0,V.int (a:Int)]=some [V.str n,V.int (i:Int)]))=false
    simp;intro z;exact absurd z.symm f
  |Cy n i=>
   have d:n≠n0:=d
   cases k with
   |put m=>rfl
   |DQ n i=>rfl
   |DV b=>
    show(true&&decide (some [V.str n,V.int (i:Int)]=some [V.str n0,V.int (b:Int)]))=false
    simp;intro z;exact absurd z d
   |Cy g h=>
    have e:n≠g:=e
    show(true&&decide (some [V.str n,V.int (i:Int)]=some [V.str g,V.int (h:Int)]))=false
    simp;intro z;exact absurd z e
 ·left
  unfold CF
  rw[OT f]
  cases c with
  |put m=>rfl
  |DQ n i=>rfl
  |DV a=>exact two
  |Cy n i=>exact two
theorem Lj {n0:Str} {P:Nat} {c k:Bx} (a:c.Ok n0 P) (b:k.Ok n0 P) (d:Apart c k) (e:Apart k c):EO c.w (c.xs n0 P) (c.zs n0 P) k.w (k.xs n0 P) (k.zs n0 P)=false:=by
 unfold EO
 rw[RN a b d e,RN b a e d]
 rfl
theorem OV {n0:Str} {P x:Nat} {k:Bx} (b:k.Ok n0 P):CI [.str n0] (x:Int) k.w (k.xs n0 P)=(k.gone x:Int):=by
 cases k with
 |put m=>exact QB (by show¬Cs (.str "put") _=true;decide)
 |DQ n i=>exact QB (by show¬Cs (.str "copy") _=true;decide)
 |Cy n i=>
  have b:n≠n0:=b
  refine RI ?_
  show BB [.str n] [.str n0]=false
  rw[QI,decide_eq_false b]
 |DV a=>
  have e:=less_int (hs:=[.str n0]) (i:=(x:Int)) (w:="move") (xs:=[.str n0,.int (a:Int)]) rfl (by decide) (by show BB [.str n0] [.str n0]=true;rw[QI];simp)
  refine e.trans ?_
  show _=((if a<x then x-1 else x:Nat):Int)
  by_cases c:a<x
  ·rw[if_pos c,if_pos (by lia)];lia
  ·rw[if_neg c,if_neg (by lia)]
theorem OW {n0:Str} {P x:Nat} {k:Bx} {ah:Bool} (b:k.Ok n0 P):Cg [.str n0] (x:Int) k.w (k.xs n0 P) (k.zs n0 P) ah=if(P<x∨(ah=true/\P=x))then 1 else 0:=by
 have a:=KS b
 have e:=ON (hs:=[.str n0]) (i:=(x:Int)) (j:=(P:Int)) (w:=k.w) (xs:=k.xs n0 P) (zs:=k.zs n0 P) (ah:=ah) (by rw[a];rfl) (QJ k) (by rw[a];show BB [.str n0] [.str n0]=true;rw[QI];simp)
 rw[e]
 by_cases c:P<x∨(ah=true/\P=x)
 ·rw[if_pos c,if_pos (by rcases c with c|c;exact .inl (by lia);exact .inr ⟨c.1,by lia⟩)]
 ·rw[if_neg c,if_neg (fun z=>c (by rcases z with z|z;exact .inl (by lia);exact .inr ⟨z.1,by lia⟩))]
theorem Gu {n0:Str} {P:Nat} {k:Bx} {q:List V}:¬(Cs (.str k.w) [.str "take",.str "change"]=true/\k.xs n0 P<+:q):=fun z=>by rw[WS k]at z;exact Bool.false_ne_true z.1
theorem RO (k:Bx) (n0:Str) (P:Nat):∃(n:Str) (i:Nat),k.xs n0 P=[.str n,.int (i:Int)]:=by
 cases k with
 |put m=>exact⟨_,_,rfl⟩
 |DV a=>exact⟨_,_,rfl⟩
 |Cy n i=>exact⟨_,_,rfl⟩
 |DQ n i=>exact⟨_,_,rfl⟩
theorem QK {n0:Str} {P:Nat} {k:Bx} (n:Str):Ay k.w (k.xs n0 P) (k.zs n0 P) [.str n]=some [.str n]:=by
 unfold Ay
 rw[if_neg Gu,if_neg fun z=>by obtain⟨a,i,e⟩:=RO k n0 P;rw[e]at z;exact Zs z.2]
 rfl
def Bx.Tq (k:Bx) (P a:Nat):Nat:=k.gone a+if P<=a then 1 else 0
theorem QL {n0:Str} {P a:Nat} {k:Bx} (f:k.Ok n0 P) (h:steps (k.xs n0 P)) (sz:steps (k.zs n0 P)) (l:Be n0=true) (nm:¬(k.w="move"/\k.xs n0 P<+:[.str n0,.int (a:Int)])):Ay k.w (k.xs n0 P) (k.zs n0 P) [.str n0,.int (a:Int)]=some [.str n0,.int (k.Tq P a:Int)]:=by
 have g:=go_eq (w:=k.w) (xs:=k.xs n0 P) (zs:=k.zs n0 P) [.str n0,.int (a:Int)] [] [.str n0,.int (k.Tq P a:Int)] rfl (fun i y s b d=>by
  match i,b,d with
  |0,b,d=>cases b;cases d;rfl
  |1,b,d=>
   cases b;cases d
   show V.int _=V.int _
   have m:=OV (x:=a) f
   have n:=OW (x:=a) (ah:=true) f
   congr 1
   show(k.Tq P a:Int)=CI [.str n0] (a:Int) k.w (k.xs n0 P)+Cg [.str n0] (a:Int) k.w (k.xs n0 P) (k.zs n0 P) true
   rw[m,n]
   unfold Bx.Tq
   by_cases c:P<=a
   ·rw[if_pos c,if_pos (by simp;lia)];lia
   ·rw[if_neg c,if_neg (by simp;lia)];lia
  |j+2,b,d=>simp at b)
 have o:steps [.str n0,.int (a:Int)]:=fun z e=>by
  simp only[List.mem_cons,List.not_mem_nil,or_false]at e
  rcases e with rfl|rfl
  ·exact .inr ⟨n0,rfl,l⟩
  ·exact .inl ⟨a,rfl⟩
 unfold Ay
 rw[if_neg Gu,if_neg nm,g,WH h sz _ [] (fun z e=>nomatch e) o,HN,HN]
theorem KW {n0 n:Str} {P i:Nat} {k:Bx} (f:k.Ok n0 P) (g:n≠n0) (e:k.w="move"->∀a b,k.xs n0 P=[.str a,.int b]->a≠n):Ay k.w (k.xs n0 P) (k.zs n0 P) [.str n,.int (i:Int)]=some [.str n,.int (i:Int)]:=by
 obtain⟨a,b,d⟩:=RO k n0 P
 have nm:¬(k.w="move"/\k.xs n0 P<+:[.str n,.int (i:Int)]):=fun z=>by
  rw[d]at z
  have:=(Mt.mp z.2).1
  exact e z.1 a b d (by cases this;rfl)
 unfold Ay
 rw[if_neg Gu,if_neg nm]
 have j:mX k.w (k.xs n0 P) (k.zs n0 P)=[.str n0,.int (P:Int)]:=by unfold mX;rw[if_pos (QJ k),KS f]
 have m:∀{l:V},FF [.str n0,l] (.str n)=[]:=fun{l}=>by
  simp only[FF]
  rw[if_neg fun z=>g (by cases z;rfl)]
 have o:FF (lX k.w (k.xs n0 P)) (.str n)=[]:=by
  unfold lX
  split
  ·rename_i c
   rcases mZ.mp c with c|c
   ·rcases KU k with h|h|h<;>rw[h]at c<;>exact absurd c (by decide)
   ·rw[d]
    simp only[FF]
    rw[if_neg fun z=>e c a b d (by cases z;rfl)]
  ·rfl
 show some (V.str n::WB (FF (lX k.w (k.xs n0 P)) (.str n)) (FF (mX k.w (k.xs n0 P) (k.zs n0 P)) (.str n)) [.int (i:Int)])=_
 rw[j,m,o,RJ]
def Bx.pl (k:Bx) (P:Nat) (ah:Bool):Nat:=k.gone P+if ah=true then 1 else 0
theorem WT {n0:Str} {P:Nat} {c k:Bx} {fi:Bool} (b:c.Ok n0 P) (a:k.Ok n0 P):BD c.w (c.xs n0 P) (c.zs n0 P) k.w (k.xs n0 P) (k.zs n0 P) fi=some [.str n0,.int (k.pl P (!fi):Int)]:=by
 unfold BD
 rw[KS b]
 show(Ay k.w (k.xs n0 P) (k.zs n0 P) [.str n0]).map _=_
 rw[QK]
 show some ([V.str n0]++[Dt [.str n0] k.w (k.xs n0 P) (k.zs n0 P) (!fi) (.int (P:Int))])=_
 have e:Dt [.str n0] k.w (k.xs n0 P) (k.zs n0 P) (!fi) (.int (P:Int))=.int (k.pl P (!fi):Int):=by
  show V.int _=V.int _
  congr 1
  rw[OV a,OW a]
  unfold Bx.pl
  by_cases c:(!fi)=true
  ·rw[if_pos (.inr ⟨c,rfl⟩),if_pos c];lia
  ·rw[if_neg (by simp;simpa using c),if_neg c];lia
 rw[e]
 rfl
theorem OX {n0:Str} {p a:Nat}:Bs [.str n0,.int (p:Int)] [.str n0,.int (a:Int)]=[.str n0,.int ((if a<p then p-1 else p:Nat):Int)]:=by
 have b:BB (List.take ([.str n0]:List V).length [.str n0,.int (p:Int)]) [.str n0]=true:=by
  show BB [.str n0] [.str n0]=true
  rw[QI];simp
 have:=KJ (zs:=[.str n0,.int (p:Int)]) (us:=[.str n0]) (j:=(a:Int)) rfl b
 refine(show Bs [.str n0,.int (p:Int)] ([.str n0]++[.int (a:Int)])=_ from this).trans ?_
 by_cases c:a<p
 ·rw[if_pos (by lia),if_pos c]
  show[V.str n0,V.int _]=_
  congr 3
  lia
 ·rw[if_neg (by lia),if_neg c]
theorem QM {n0 n:Str} {p i:Nat} (h:n≠n0):Bs [.str n0,.int (p:Int)] [.str n,.int (i:Int)]=[.str n0,.int (p:Int)]:=by
 refine IX (us:=[.str n]) (lv:=.int (i:Int)) ?_
 show(BB [.str n0] [.str n]&&_&&_)=false
 rw[QI,decide_eq_false (Ne.symm h)]
 rfl
def TU (L:List Int) (m:Int):Bx->Prop
 | .DV a=>L[a]?=some m
 |_=>m∉L
def L1 (P:Nat) (L:List Int) (m:Int):List Int:=CB m (L.take P)++m::CB m (L.drop P)
theorem QN {P:Nat} {L:List Int} {m:Int} (h:m∉L):CB m (L.take P)=L.take P/\CB m (L.drop P)=L.drop P:=
 ⟨ED fun z=>h (List.mem_of_mem_take z),ED fun z=>h (List.mem_of_mem_drop z)⟩
theorem WU {P a:Nat} {L:List Int} {m:Int} (b:L.Nodup) (hP:P<=L.length) (h:L[a]?=some m):insI (if a<P then P-1 else P) m (L.eraseIdx a)=L1 P L m:=by
 have lt:(L.take P).length=P:=by rw[List.length_take];lia
 have e:=RL (X:=L.take P) (Y:=L.drop P) (i:=a) (m:=m) (by rw[List.take_append_drop];exact b) (by rw[List.take_append_drop];exact h)
 rw[List.take_append_drop,lt]at e
 exact e
theorem RP {P:Nat} {L:List Int} {m:Int} (h:m∉L):insI P m L=L1 P L m:=by
 unfold L1 insI
 rw[(QN h).1,(QN h).2]
theorem WV {P:Nat} {L:List Int} {m:Int} (g:L.Nodup):(L1 P L m).Nodup:=by
 unfold L1
 have c:(L.take P++L.drop P).Nodup:=by rw[List.take_append_drop];exact g
 obtain⟨h,i,j⟩:=List.nodup_append.mp c
 have k:(CB m (L.take P)).Nodup:=h.filter _
 have l:(CB m (L.drop P)).Nodup:=i.filter _
 refine List.nodup_append.mpr ⟨k,List.nodup_cons.mpr ⟨fun z=>(DP.mp z).2 rfl,l⟩,fun a f b d e=>?_⟩
 subst e
 rcases List.mem_cons.mp d with rfl|d
 ·exact(DP.mp f).2 rfl
 ·exact j a (DP.mp f).1 a (DP.mp d).1 rfl
theorem Yx {k:Bx} {P:Nat} {L:List Int} {m:Int} (d:L.Nodup) (hP:P<=L.length) (h:TU L m k):(CB m (L.take P)).length=k.gone P:=by
 have lt:(L.take P).length=P:=by rw[List.length_take];lia
 have no:m∉L->(CB m (L.take P)).length=P:=fun h=>by rw[(QN h).1,lt]
 cases k with
 |put x=>exact no h
 |Cy n i=>exact no h
 |DQ n i=>exact no h
 |DV a=>
  have h:L[a]?=some m:=h
  show _=if a<P then P-1 else P
  by_cases c:a<P
  ·rw[if_pos c]
   have f:(L.take P)[a]?=some m:=by rw[List.getElem?_take_of_lt c];exact h
   rw[<-GK (d.sublist (List.take_sublist ..)) f,List.length_eraseIdx,lt,if_pos c]
  ·rw[if_neg c]
   have g:m∉L.take P:=fun z=>by
    obtain⟨j,b⟩:=List.getElem?_of_mem z
    have e:=(ACE b).1
    rw[lt]at e
    rw[List.getElem?_take_of_lt e]at b
    obtain⟨l1,l⟩:=ACE b
    obtain⟨l2,o⟩:=ACE h
    exact(List.pairwise_iff_getElem.mp d) j a l1 l2 (by lia) (l.trans o.symm)
   rw[ED g,lt]
theorem WW {k:Bx} {P a2:Nat} {L:List Int} {m b:Int} (d:L.Nodup) (hP:P<=L.length) (h:TU L m k) (c:L[a2]?=some b) (f:b≠m):(L1 P L m)[k.Tq P a2]?=some b:=by
 have no:m∉L->k.gone a2=a2->(L1 P L m)[k.Tq P a2]?=some b:=fun h g=>by
  rw[<-RP h]
  refine(Dc.Iy hP).mpr (.inr ⟨a2,c,?_⟩)
  unfold Bx.Tq
  rw[g]
  split<;>rfl
 cases k with
 |put x=>exact no h rfl
 |Cy n i=>exact no h rfl
 |DQ n i=>exact no h rfl
 |DV a=>
  have h:L[a]?=some m:=h
  have j:a2≠a:=fun e=>by rw[e,h]at c;cases c;exact f rfl
  have l:=(ACE h).1
  rw[<-WU d hP h]
  have g:(L.eraseIdx a)[if a<a2 then a2-1 else a2]?=some b:=Dc.Mg.mpr ⟨a2,j,c,rfl⟩
  refine(Dc.Iy (by rw[List.length_eraseIdx,if_pos l];split<;>lia)).mpr (.inr ⟨_,g,?_⟩)
  unfold Bx.Tq
  show(if a<a2 then a2-1 else a2)+_=_
  split<;>split<;>split<;>lia
def Hg (P:Nat) (L:List Int) (a b:Int) (ah:Bool):List Int:=CB b (CB a (L.take P))++(if ah=true then[a,b]else[b,a])++CB b (CB a (L.drop P))
theorem Hz {k:Bx} {P:Nat} {L:List Int} {m:Int} {ah:Bool} (a:L.Nodup) (hP:P<=L.length) (h:TU L m k):∃X Y,L1 P L m=X++Y/\X.length=k.pl P ah/\X=CB m (L.take P)++(if ah=true then[m]else[])/\Y=(if ah=true then[]else[m])++CB m (L.drop P):=by
 refine⟨_,_,?_,?_,rfl,rfl⟩
 ·unfold L1
  cases ah<;>simp
 ·unfold Bx.pl
  rw[<-Yx a hP h]
  cases ah<;>simp
theorem RQ {P:Nat} {L:List Int} {m a:Int} {ah:Bool} {X Y:List Int} (c:m≠a) (d:X=CB m (L.take P)++(if ah=true then[m]else[])) (f:Y=(if ah=true then[]else[m])++CB m (L.drop P)):CB a X++a::CB a Y=Hg P L m a ah:=by
 have e:CB a [m]=[m]:=by simp[CB,c]
 have b:CB a []=[]:=rfl
 rw[d,f,Dj,Dj]
 unfold Hg
 cases ah
 ·simp[e,b]
 ·simp[e,b]
theorem JJ {k:Bx} {P:Nat} {L:List Int} {m a:Int} {ah:Bool} (f:L.Nodup) (hP:P<=L.length) (h:TU L m k) (b:m≠a) (n2:a∉L):insI (k.pl P ah) a (L1 P L m)=Hg P L m a ah:=by
 obtain⟨X,Y,e,lX,c,d⟩:=Hz (ah:=ah) f hP h
 have g:a∉X:=by
  rw[c]
  intro z
  rcases List.mem_append.mp z with z|z
  ·exact n2 (List.mem_of_mem_take (DP.mp z).1)
  ·split at z
   ·exact b (List.mem_singleton.mp z).symm
   ·cases z
 have i:a∉Y:=by
  rw[d]
  intro z
  rcases List.mem_append.mp z with z|z
  ·split at z
   ·cases z
   ·exact b (List.mem_singleton.mp z).symm
  ·exact n2 (List.mem_of_mem_drop (DP.mp z).1)
 rw[e,<-lX,WR,<-RQ b c d,ED g,ED i]
theorem Yy {k:Bx} {P a2:Nat} {L:List Int} {m a:Int} {ah:Bool} (b:L.Nodup) (hP:P<=L.length) (h:TU L m k) (c:m≠a) (f:L[a2]?=some a):insI (if k.Tq P a2<k.pl P ah then k.pl P ah-1 else k.pl P ah) a ((L1 P L m).eraseIdx (k.Tq P a2))=Hg P L m a ah:=by
 obtain⟨X,Y,e,lX,g,i⟩:=Hz (ah:=ah) b hP h
 have ix:=WW b hP h f (Ne.symm c)
 have d:=WV (P:=P) (m:=m) b
 rw[e]at ix d⊢
 rw[<-lX,RL d ix]
 exact RQ c g i
theorem WX (P:Nat) (L:List Int) (a b:Int) (ah:Bool):Hg P L a b ah=Hg P L b a (!ah):=by
 unfold Hg
 rw[Fu b a,Fu b a]
 cases ah<;>rfl
inductive Rr
 |put (p:Nat) (m:Int)
 |DV (i p:Nat)
 |Cy (n:Str) (i p:Nat)
 |DQ (n:Str) (i p:Nat)
namespace Rr
def w:Rr->Str
 |put _ _=>"put"
 |DV _ _=>"move"
 |Cy _ _ _=>"move"
 |DQ _ _ _=>"copy"
def xs (n0:Str):Rr->List V
 |put p _=>[.str n0,.int (p:Int)]
 |DV i _=>[.str n0,.int (i:Int)]
 |Cy n i _=>[.str n,.int (i:Int)]
 |DQ n i _=>[.str n,.int (i:Int)]
def zs (n0:Str):Rr->List V
 |put _ _=>[]
 |DV _ p=>[.str n0,.int (p:Int)]
 |Cy _ _ p=>[.str n0,.int (p:Int)]
 |DQ _ _ p=>[.str n0,.int (p:Int)]
end Rr
structure S3 where
 L:List Int
 A:List Int
 B:List Int
def S3.side (S:S3) (n1 n:Str):List Int:=if n=n1 then S.A else S.B
def Rr.Tr (n1 n2:Str) (S:S3) (m:Int):Rr->Prop
 | .put p x=>p<=S.L.length/\x=m
 | .DV i p=>S.L[i]?=some m/\p+1<=S.L.length
 | .Cy n i p=>(n=n1∨n=n2)/\(S.side n1 n)[i]?=some m/\p<=S.L.length
 | .DQ n i p=>(n=n1∨n=n2)/\(S.side n1 n)[i]?=some m/\p<=S.L.length
def Rr.HU (n1:Str) (S:S3) (m:Int):Rr->S3
 | .put p _=>{S with L:=insI p m S.L}
 | .DV i p=>{S with L:=insI p m (S.L.eraseIdx i)}
 | .Cy n i p=>if n=n1 then{S with L:=insI p m S.L,A:=S.A.eraseIdx i}else{S with L:=insI p m S.L,B:=S.B.eraseIdx i}
 | .DQ _ _ p=>{S with L:=insI p m S.L}
def Bc (D a0 a1 a2:Addr) (n0 n1 n2:Str) (S:S3):Dc:=JI D a0 a1 a2 n0 n1 n2 S.L S.A S.B
theorem JK {t v d':Dc} {w:Str} {xs zs:List V} (h:Yw t w xs zs v d'):
  (w="put"/\∃us z e c,xs=us++[z]/\t.sub us=some e/\Dc.BA v c/\d'=t.Au us (e.DS z c))∨
  (w="copy"/\∃us z e x d,zs=us++[z]/\t.sub xs=some x/\t.sub us=some e/\Dc.BA x d/\d'=t.Au us (e.DS z d))∨
  (w="move"/\∃us z e x a z2 f,xs=us++[z]/\zs=a++[z2]/\t.sub us=some e/\e.sub [z]=some x/\(t.Au us (e.Bh z)).sub a=some f/\d'=(t.Au us (e.Bh z)).Au a (f.DS z2 x)):=by
 cases h with
 |put h r l=>exact .inl ⟨rfl,_,_,_,_,rfl,h,l,rfl⟩
 |copy b h r l=>exact .inr (.inl ⟨rfl,_,_,_,_,_,rfl,b,h,l,rfl⟩)
 |move h b g r=>exact .inr (.inr ⟨rfl,_,_,_,_,_,_,_,rfl,rfl,h,b,g,rfl⟩)
theorem Eo {a b:V} {us:List V} {z:V} (h:[a,b]=us++[z]):us=[a]/\z=b:=by
 have:=Eg (us:=[a]) (lv:=b) (us':=us) (lv':=z) h
 exact⟨this.1.symm,this.2.symm⟩
theorem KX {m:Int} {y:Dc} (h:Dc.BA (CC m) y):y=CC m:=by
 cases y with
 |leaf v=>
  have:V.int m=v:=by simpa[Dc.BA]using h
  rw[<-this]
 |row a xs=>simp[Dc.BA]at h
 |tab a b xs=>simp[Dc.BA]at h
section
variable{D a0 a1 a2:Addr} {n0 n1 n2:Str} (N:Tp n0 n1 n2)
include N
theorem WY {S:S3} {n:Str} (a:n=n1∨n=n2):∃b,(Bc D a0 a1 a2 n0 n1 n2 S).sub [.str n]=some (.row b ((S.side n1 n).map CC)):=by
 rcases a with rfl|rfl
 ·exact⟨a1,by unfold S3.side;rw[if_pos rfl];exact cS N⟩
 ·exact⟨a2,by unfold S3.side;rw[if_neg (Ne.symm N.h12)];exact cT N⟩
theorem OY {S:S3} {n:Str} {i:Nat} {m:Int} (a:n=n1∨n=n2) (h:(S.side n1 n)[i]?=some m):(Bc D a0 a1 a2 n0 n1 n2 S).sub [.str n,.int (i:Int)]=some (CC m):=by
 obtain⟨b,c⟩:=WY (D:=D) (a0:=a0) (a1:=a1) (a2:=a2) N (S:=S) a
 exact Dc.HM.mpr ⟨_,c,FG h⟩
theorem WZ {S:S3} {r:Rr} {m:Int} {v d':Dc} (o:r.Tr n1 n2 S m) (y:r.w="put"->v=CC m) (h:Yw (Bc D a0 a1 a2 n0 n1 n2 S) r.w (r.xs n0) (r.zs n0) v d'):d'=Bc D a0 a1 a2 n0 n1 n2 (r.HU n1 S m):=by
 have q:(Bc D a0 a1 a2 n0 n1 n2 S).sub [.str n0]=some (.row a0 (S.L.map CC)):=OS N
 cases r with
 |put p x=>
  rcases JK h with⟨_,s,z,e,F,f,a,l,rfl⟩|⟨hw,_⟩|⟨hw,_⟩
  ·obtain⟨rfl,rfl⟩:=Eo f
   rw[q]at a
   cases a
   rw[y rfl]at l
   rw[KX l,HR]
   exact QH N
  ·exact absurd (show("put":Str)="copy"from hw) (by decide)
  ·exact absurd (show("put":Str)="move"from hw) (by decide)
 |DV i p=>
  rcases JK h with⟨hw,_⟩|⟨hw,_⟩|⟨_,s,z,e,x,t,z2,C,f,g,a,c,b,rfl⟩
  ·exact absurd (show("move":Str)="put"from hw) (by decide)
  ·exact absurd (show("move":Str)="copy"from hw) (by decide)
  ·obtain⟨rfl,rfl⟩:=Eo f
   obtain⟨rfl,rfl⟩:=Eo g
   rw[q]at a
   cases a
   rw[FG o.1]at c
   cases c
   rw[GJ]at b⊢
   have j:(Bc D a0 a1 a2 n0 n1 n2 S).Au [.str n0] (.row a0 ((S.L.eraseIdx i).map CC))=Bc D a0 a1 a2 n0 n1 n2 {S with L:=S.L.eraseIdx i}:=QH N
   rw[j]at b⊢
   have k:(Bc D a0 a1 a2 n0 n1 n2 {S with L:=S.L.eraseIdx i}).sub [.str n0]=some (.row a0 ((S.L.eraseIdx i).map CC)):=OS N
   rw[k]at b
   cases b
   rw[HR]
   exact QH N
 |DQ n i p=>
  rcases JK h with⟨hw,_⟩|⟨_,s,z,e,x,G,g,c,a,l,rfl⟩|⟨hw,_⟩
  ·exact absurd (show("copy":Str)="put"from hw) (by decide)
  ·obtain⟨rfl,rfl⟩:=Eo g
   rw[q]at a
   cases a
   have c:(Bc D a0 a1 a2 n0 n1 n2 S).sub [.str n,.int (i:Int)]=some x:=c
   rw[OY N o.1 o.2.1]at c
   cases c
   rw[KX l,HR]
   exact QH N
  ·exact absurd (show("copy":Str)="move"from hw) (by decide)
 |Cy n i p=>
  rcases JK h with⟨hw,_⟩|⟨hw,_⟩|⟨_,s,z,e,x,t,z2,C,f,g,a,c,b,rfl⟩
  ·exact absurd (show("move":Str)="put"from hw) (by decide)
  ·exact absurd (show("move":Str)="copy"from hw) (by decide)
  ·obtain⟨rfl,rfl⟩:=Eo f
   obtain⟨rfl,rfl⟩:=Eo g
   obtain⟨E,d,_⟩:=o
   rcases E with rfl|rfl
   ·have u:(Bc D a0 a1 a2 n0 n n2 S).sub [.str n]=some (.row a1 (S.A.map CC)):=cS N
    rw[u]at a
    cases a
    unfold S3.side at d
    rw[if_pos rfl]at d
    rw[FG d]at c
    cases c
    rw[GJ]at b⊢
    have j:(Bc D a0 a1 a2 n0 n n2 S).Au [.str n] (.row a1 ((S.A.eraseIdx i).map CC))=Bc D a0 a1 a2 n0 n n2 {S with A:=S.A.eraseIdx i}:=h_ N
    rw[j]at b⊢
    have k:(Bc D a0 a1 a2 n0 n n2 {S with A:=S.A.eraseIdx i}).sub [.str n0]=some (.row a0 (S.L.map CC)):=OS N
    rw[k]at b
    cases b
    rw[HR]
    simp only[Rr.HU,if_pos rfl]
    exact QH N
   ·have u:(Bc D a0 a1 a2 n0 n1 n S).sub [.str n]=some (.row a2 (S.B.map CC)):=cT N
    rw[u]at a
    cases a
    unfold S3.side at d
    rw[if_neg (Ne.symm N.h12)]at d
    rw[FG d]at c
    cases c
    rw[GJ]at b⊢
    have j:(Bc D a0 a1 a2 n0 n1 n S).Au [.str n] (.row a2 ((S.B.eraseIdx i).map CC))=Bc D a0 a1 a2 n0 n1 n {S with B:=S.B.eraseIdx i}:=iA N
    rw[j]at b⊢
    have k:(Bc D a0 a1 a2 n0 n1 n {S with B:=S.B.eraseIdx i}).sub [.str n0]=some (.row a0 (S.L.map CC)):=OS N
    rw[k]at b
    cases b
    rw[HR]
    simp only[Rr.HU,if_neg (Ne.symm N.h12)]
    exact QH N
end
def KY (P:Nat):Bx->Rr
 | .put m=>.put P m
 | .DV a=>.DV a (if a<P then P-1 else P)
 | .Cy n i=>.Cy n i P
 | .DQ n i=>.DQ n i P
def res (k:Bx) (P:Nat) (ah:Bool):Bx->Rr
 | .put m=>.put (k.pl P ah) m
 | .DV a=>.DV (k.Tq P a) (if k.Tq P a<k.pl P ah then k.pl P ah-1 else k.pl P ah)
 | .Cy n i=>.Cy n i (k.pl P ah)
 | .DQ n i=>.DQ n i (k.pl P ah)
theorem Zt (c:Bx) (P:Nat):(KY P c).w=c.w:=by cases c<;>rfl
theorem Wa (c:Bx) (P:Nat) (n0:Str):(KY P c).xs n0=c.xs n0 P:=by cases c<;>rfl
theorem Wb (c:Bx) (P:Nat) (n0:Str):(KY P c).zs n0=c.zs n0 P:=by cases c<;>rfl
theorem Zu (c k:Bx) (P:Nat) (ah:Bool):(res k P ah c).w=c.w:=by cases c<;>rfl
theorem Apart.nm {n0 n d:Str} {P i:Nat} {f:Int} {c k:Bx} (l:c.w≠"put") (ex:c.xs n0 P=[.str n,.int (i:Int)]) (g:n≠n0) (h:Apart c k) (o:k.Ok n0 P) (hw:k.w="move") (e:k.xs n0 P=[.str d,.int f]):d≠n:=by
 intro z
 subst z
 cases k with
 |put m=>exact absurd (show("put":Str)="move"from hw) (by decide)
 |DQ a b=>exact absurd (show("copy":Str)="move"from hw) (by decide)
 |DV a=>
  have e:[V.str n0,V.int (a:Int)]=[.str d,.int f]:=e
  simp at e
  exact g e.1.symm
 |Cy a b=>
  have e:[V.str a,V.int (b:Int)]=[.str d,.int f]:=e
  simp at e
  obtain⟨rfl,_⟩:=e
  cases c with
  |put m=>exact l rfl
  |DV j=>
   have ex:[V.str n0,V.int (j:Int)]=[.str a,.int (i:Int)]:=ex
   simp at ex
   exact g ex.1.symm
  |Cy n j=>
   have ex:[V.str n,V.int (j:Int)]=[.str a,.int (i:Int)]:=ex
   simp at ex
   exact h ex.1
  |DQ n j=>
   have ex:[V.str n,V.int (j:Int)]=[.str a,.int (i:Int)]:=ex
   simp at ex
   exact h ex.1
theorem TV {xs zs a b c:List V} {d:Str} {fi:Bool} (h:BD "put" xs zs d a b fi=some c):EC "put" xs zs d a b fi=some (c,[]):=by
 unfold EC
 rw[if_pos rfl,h]
 rfl
theorem KZ {xs zs a b c q:List V} {d:Str} {fi:Bool} (e:Ay d a b xs=some q) (h:BD "move" xs zs d a b fi=some c):EC "move" xs zs d a b fi=some (q,Bs c q):=by
 unfold EC
 rw[if_neg (by decide),if_neg (by decide),e]
 dsimp only[Option.bind]
 rw[if_pos rfl,h]
 rfl
theorem QO {xs zs a b c q:List V} {d:Str} {fi:Bool} (e:Ay d a b xs=some q) (h:BD "copy" xs zs d a b fi=some c):EC "copy" xs zs d a b fi=some (q,c):=by
 unfold EC
 rw[if_neg (by decide),if_neg (by decide),e]
 dsimp only[Option.bind]
 rw[if_neg (by decide),if_pos rfl,h]
 rfl
theorem OZ {n0:Str} {P:Nat} {c k:Bx} {fi:Bool} (h:c.Ok n0 P) (d:k.Ok n0 P) (j:Apart c k) (l:steps (k.xs n0 P)) (sz:steps (k.zs n0 P)) (o:Be n0=true):EC c.w (c.xs n0 P) (c.zs n0 P) k.w (k.xs n0 P) (k.zs n0 P) fi=some ((res k P (!fi) c).xs n0,(res k P (!fi) c).zs n0):=by
 have b:=WT (fi:=fi) h d
 cases c with
 |put m=>exact TV b
 |DV a=>
  have nm:=TR h d j (by show("move":Str)≠"put";decide)
  have g:=QL (a:=a) d l sz o nm
  refine(KZ g b).trans ?_
  rw[OX]
  rfl
 |Cy n i=>
  have f:n≠n0:=h
  have g:=KW (i:=i) d f (fun hw p q e=>Apart.nm (c:=.Cy n i) (i:=i) (by show("move":Str)≠"put";decide) rfl f j d hw e)
  refine(KZ g b).trans ?_
  rw[QM f]
  rfl
 |DQ n i=>
  have f:n≠n0:=h
  have g:=KW (i:=i) d f (fun hw p q e=>Apart.nm (c:=.DQ n i) (i:=i) (by show("copy":Str)≠"put";decide) rfl f j d hw e)
  exact QO g b
section
variable{D a0 a1 a2:Addr} {n0 n1 n2:Str} (N:Tp n0 n1 n2)
include N
theorem RS {S:S3} {r:Rr} {m:Int} (a:r.Tr n1 n2 S m):Fits (Bc D a0 a1 a2 n0 n1 n2 S) r.w (r.xs n0) (r.zs n0):=by
 have c:∀(S:S3) (p:Nat),p<=S.L.length->¬(Bc D a0 a1 a2 n0 n1 n2 S).DT [.str n0,.int (p:Int)]:=fun S p d z=>by
  have:=z [.str n0] (.int (p:Int)) _ rfl (OS N)
  rw[WQ d]at this
  cases this
 cases r with
 |put p x=>exact .inl ⟨rfl,c S p a.1⟩
 |DQ n i p=>exact .inr (.inl ⟨rfl,by show(Dc.sub _ [.str n,.int (i:Int)]).isSome=true;rw[OY N a.1 a.2.1];rfl,c S p a.2.2⟩)
 |DV i p=>
  refine .inr (.inr ⟨rfl,[.str n0],.int (i:Int),_,_,rfl,OS N,FG a.1,?_⟩)
  rw[GJ]
  have e:(Bc D a0 a1 a2 n0 n1 n2 S).Au [.str n0] (.row a0 ((S.L.eraseIdx i).map CC))=Bc D a0 a1 a2 n0 n1 n2 {S with L:=S.L.eraseIdx i}:=QH N
  have f:=(ACE a.1).1
  have d:=a.2
  show¬Dc.DT ((Bc D a0 a1 a2 n0 n1 n2 S).Au [.str n0] _) _
  rw[e]
  exact c {S with L:=S.L.eraseIdx i} p (by show p<=(S.L.eraseIdx i).length;rw[List.length_eraseIdx,if_pos f];lia)
 |Cy n i p=>
  obtain⟨g,b,d⟩:=a
  rcases g with rfl|rfl
  ·unfold S3.side at b
   rw[if_pos rfl]at b
   refine .inr (.inr ⟨rfl,[.str n],.int (i:Int),_,_,rfl,cS N,FG b,?_⟩)
   rw[GJ]
   have e:(Bc D a0 a1 a2 n0 n n2 S).Au [.str n] (.row a1 ((S.A.eraseIdx i).map CC))=Bc D a0 a1 a2 n0 n n2 {S with A:=S.A.eraseIdx i}:=h_ N
   show¬Dc.DT ((Bc D a0 a1 a2 n0 n n2 S).Au [.str n] _) _
   rw[e]
   exact c {S with A:=S.A.eraseIdx i} p d
  ·unfold S3.side at b
   rw[if_neg (Ne.symm N.h12)]at b
   refine .inr (.inr ⟨rfl,[.str n],.int (i:Int),_,_,rfl,cT N,FG b,?_⟩)
   rw[GJ]
   have e:(Bc D a0 a1 a2 n0 n1 n S).Au [.str n] (.row a2 ((S.B.eraseIdx i).map CC))=Bc D a0 a1 a2 n0 n1 n {S with B:=S.B.eraseIdx i}:=iA N
   show¬Dc.DT ((Bc D a0 a1 a2 n0 n1 n S).Au [.str n] _) _
   rw[e]
   exact c {S with B:=S.B.eraseIdx i} p d
end
def RT (n1 n2:Str) (S:S3) (m:Int):Bx->Prop
 | .put x=>x=m/\m∉S.L
 | .DV a=>S.L[a]?=some m
 | .Cy n i=>(n=n1∨n=n2)/\(S.side n1 n)[i]?=some m/\m∉S.L
 | .DQ n i=>(n=n1∨n=n2)/\(S.side n1 n)[i]?=some m/\m∉S.L
theorem RT.QP {n1 n2:Str} {S:S3} {m:Int} {c:Bx} (h:RT n1 n2 S m c):TU S.L m c:=by
 cases c with
 |put x=>exact h.2
 |DV a=>exact h
 |Cy n i=>exact h.2.2
 |DQ n i=>exact h.2.2
theorem RU {n1 n2:Str} {S:S3} {m:Int} {c:Bx} {P:Nat} (hP:P<=S.L.length) (h:RT n1 n2 S m c):(KY P c).Tr n1 n2 S m:=by
 cases c with
 |put x=>exact⟨hP,h.1⟩
 |DV a=>
  have h:S.L[a]?=some m:=h
  have b:=(ACE h).1
  exact⟨h,by split<;>lia⟩
 |Cy n i=>exact⟨h.1,h.2.1,hP⟩
 |DQ n i=>exact⟨h.1,h.2.1,hP⟩
theorem Zv {n1 n2:Str} {S:S3} {m:Int} {c:Bx} {P:Nat} (b:S.L.Nodup) (hP:P<=S.L.length) (h:RT n1 n2 S m c):((KY P c).HU n1 S m).L=L1 P S.L m:=by
 cases c with
 |put x=>exact RP h.2
 |DV a=>exact WU b hP h
 |Cy n i=>
  show((if n=n1 then _ else _:S3)).L=_
  split<;>exact RP h.2.2
 |DQ n i=>exact RP h.2.2
def EE (n1:Str) (A:List Int):Bx->List Int
 | .Cy n i=>if n=n1 then A.eraseIdx i else A
 |_=>A
def EF (n1:Str) (B:List Int):Bx->List Int
 | .Cy n i=>if n=n1 then B else B.eraseIdx i
 |_=>B
theorem Zw {n1:Str} {S:S3} {m:Int} {c:Bx} {P:Nat}:((KY P c).HU n1 S m).A=EE n1 S.A c/\((KY P c).HU n1 S m).B=EF n1 S.B c:=by
 cases c with
 |Cy n i=>
  show((if n=n1 then _ else _:S3)).A=(if n=n1 then _ else _)/\((if n=n1 then _ else _:S3)).B=(if n=n1 then _ else _)
  split<;>exact⟨rfl,rfl⟩
 |put x=>exact⟨rfl,rfl⟩
 |DV a=>exact⟨rfl,rfl⟩
 |DQ n i=>exact⟨rfl,rfl⟩
theorem Zx {n1:Str} {S:S3} {m:Int} {c k:Bx} {P:Nat} {ah:Bool}:((res k P ah c).HU n1 S m).A=EE n1 S.A c/\((res k P ah c).HU n1 S m).B=EF n1 S.B c:=by
 cases c with
 |Cy n i=>
  show((if n=n1 then _ else _:S3)).A=(if n=n1 then _ else _)/\((if n=n1 then _ else _:S3)).B=(if n=n1 then _ else _)
  split<;>exact⟨rfl,rfl⟩
 |put x=>exact⟨rfl,rfl⟩
 |DV a=>exact⟨rfl,rfl⟩
 |DQ n i=>exact⟨rfl,rfl⟩
theorem Zy {n1 n2:Str} {S b:S3} {m j:Int} {c k:Bx} {P:Nat} {ah:Bool} (d:S.L.Nodup) (hP:P<=S.L.length) (f:RT n1 n2 S m k) (g:RT n1 n2 S j c) (h:m≠j) (e:b.L=L1 P S.L m):((res k P ah c).HU n1 b j).L=Hg P S.L m j ah:=by
 cases c with
 |put x=>show insI _ _ b.L=_;rw[e];exact JJ d hP f.QP h g.2
 |DV a=>show insI _ _ (b.L.eraseIdx _)=_;rw[e];exact Yy d hP f.QP h g
 |DQ n i=>show insI _ _ b.L=_;rw[e];exact JJ d hP f.QP h g.2.2
 |Cy n i=>
  show((if n=n1 then _ else _:S3)).L=_
  split
  ·show insI _ _ b.L=_;rw[e];exact JJ d hP f.QP h g.2.2
  ·show insI _ _ b.L=_;rw[e];exact JJ d hP f.QP h g.2.2
theorem RV {n1 n2:Str} {S d:S3} {m f:Int} {c k:Bx} {P:Nat} {ah:Bool} (g:S.L.Nodup) (hP:P<=S.L.length) (h:RT n1 n2 S m k) (b:RT n1 n2 S f c) (l:m≠f) (e:d.L=L1 P S.L m) (j:∀n i,(c=.Cy n i∨c=.DQ n i)->d.side n1 n=S.side n1 n):(res k P ah c).Tr n1 n2 d f:=by
 obtain⟨X,Y,o,lX,_,_⟩:=Hz (ah:=ah) g hP h.QP
 have pl:k.pl P ah<=d.L.length:=by rw[e,o,List.length_append,lX];lia
 cases c with
 |put x=>exact⟨pl,b.1⟩
 |DV a=>
  have ix:=WW g hP h.QP b (Ne.symm l)
  rw[<-e]at ix
  have p:=(ACE ix).1
  exact⟨ix,by split<;>lia⟩
 |Cy n i=>exact⟨b.1,by rw[j n i (.inl rfl)];exact b.2.1,pl⟩
 |DQ n i=>exact⟨b.1,by rw[j n i (.inr rfl)];exact b.2.1,pl⟩
def QQ (H:Hp) (r:V) (c:Bx) (n0:Str) (P:Nat):Prop:=∃p,Rx H r c.w (c.xs n0 P) (c.zs n0 P) p/\∀m,c=.put m->∃a,r=.ref a/\H a=some (.tup [.str "put",.ref p,.int m])
theorem QQ.up {H b:Hp} {r:V} {c:Bx} {n0:Str} {P:Nat} (h:QQ H r c n0 P) (s:AJ H b):QQ b r c n0 P:=by
 obtain⟨p,d,f⟩:=h
 exact⟨p,d.up s,fun m e=>by obtain⟨a,g,i⟩:=f m e;exact⟨a,g,s _ _ i⟩⟩
def iB (k many:Nat) (n:Str) (b:Bx) (m:Int):Prop:=(b=.put m/\m=5000+(k:Int))∨(∃a,a<many/\b=.DV a/\m=100+(a:Int))∨(∃i,i<3/\(b=.Cy n i∨b=.DQ n i)/\m=1000*((k/2:Nat):Int)+(i:Int))
def QR:Sp:=fun g H Q _=>∃(c:Int) (k:Nat) (f:Addr) (d:List Str) (many P:Nat) (a n:Str),g=[.int c,.int (k:Int),.ref f,.int (many:Int),.int (P:Int)]/\(k=2∨k=4)/\H f=some (.lst (d.map V.str))/\d[0]?=some a/\d[k/2]?=some n/\n≠a/\Be a=true/\Be n=true/\1<=many/\many<=9/\P<=many/\
 ∀(t:Addr) (r:V) (m:Int) (e:Bx) (b:Hp),AJ H b->b t=some (.tup [r,.int m])->QQ b r e a P->e.Ok a P->iB k many n e m->Q (.ref t) b
theorem IY {n:Str} {i:Nat} (h:Be n=true):steps [.str n,.int (i:Int)]:=fun z a=>by
 simp only[List.mem_cons,List.not_mem_nil,or_false]at a
 rcases a with rfl|rfl
 ·exact .inr ⟨n,rfl,h⟩
 ·exact .inl ⟨i,rfl⟩
theorem Fw {x y:V}:([x,y]:List V).length<=100:=by show 2<=100;decide
theorem sub_int (a P:Nat):(P:Int)-(if decide ((a:Int)<(P:Int))=true then 1 else 0)=((if a<P then P-1 else P:Nat):Int):=by
 by_cases c:a<P
 ·rw[if_pos c,if_pos (decide_eq_true (by lia))];lia
 ·rw[if_neg c,if_neg (by simp;lia)];lia
def cU (n:Str):Bx->Prop
 | .Cy k _=>k=n
 | .DQ k _=>k=n
 |_=>True
theorem H_ {n1 n2:Str} (a:n1≠n2) {S:S3} {c:Bx} (f:cU n1 c):EF n1 S.B c=S.B:=by
 cases c with
 |Cy n i=>have f:n=n1:=f;simp[EF,f]
 |_=>rfl
theorem Gv {n1 n2:Str} (a:n1≠n2) {S:S3} {c:Bx} (f:cU n2 c):EE n1 S.A c=S.A:=by
 cases c with
 |Cy n i=>have f:n=n2:=f;have:n≠n1:=fun z=>a (z.symm.trans f);simp[EE,this]
 |_=>rfl
structure fF (n0 n1 n2:Str) (S:S3) (P:Nat) (c k:Bx) (m m2:Int):Prop where
 N:Tp n0 n1 n2
 kA:Be n0=true
 nb1:Be n1=true
 nb2:Be n2=true
 nd:S.L.Nodup
 hP:P<=S.L.length
 Wc:c.Ok n0 P
 Yz:k.Ok n0 P
 mf:Apart c k
 mh:Apart k c
 cV:RT n1 n2 S m c
 Zz:RT n1 n2 S m2 k
 ne:m≠m2
 f1:cU n1 c
 f2:cU n2 k
 b1:m.natAbs<100000
 b2:m2.natAbs<100000
theorem fF.first {n0 n1 n2:Str} {S:S3} {P:Nat} {c k:Bx} {m a:Int} (T:fF n0 n1 n2 S P c k m a) (ah:Bool):
  (KY P c).Tr n1 n2 S m/\(res c P ah k).Tr n1 n2 ((KY P c).HU n1 S m) a/\(res c P ah k).HU n1 ((KY P c).HU n1 S m) a=⟨Hg P S.L m a ah,EE n1 S.A c,EF n1 S.B k⟩:=by
 have g:=Zv T.nd T.hP T.cV
 have d:=Zw (n1:=n1) (S:=S) (m:=m) (c:=c) (P:=P)
 refine⟨RU T.hP T.cV,RV T.nd T.hP T.cV T.Zz T.ne g (fun n i h=>?_),?_⟩
 ·have j:n=n2:=by
   have:=T.f2
   rcases h with rfl|rfl<;>exact this
  unfold S3.side
  rw[if_neg fun z=>T.N.h12 (z.symm.trans j),if_neg fun z=>T.N.h12 (z.symm.trans j),d.2,H_ T.N.h12 T.f1]
 ·have l:=Zy (ah:=ah) T.nd T.hP T.cV T.Zz T.ne g
  have b:=Zx (n1:=n1) (S:=(KY P c).HU n1 S m) (m:=a) (c:=k) (k:=c) (P:=P) (ah:=ah)
  rw[d.1,d.2,H_ T.N.h12 T.f1]at b
  have o:EE n1 (EE n1 S.A c) k=EE n1 S.A c:=Gv (S:=⟨S.L,EE n1 S.A c,S.B⟩) T.N.h12 T.f2
  rw[o]at b
  cases p:(res c P ah k).HU n1 ((KY P c).HU n1 S m) a with
  |mk L A B=>
   rw[p]at l b
   obtain⟨e,f⟩:=b
   cases l;cases e;cases f
   rfl
theorem fF.second {n0 n1 n2:Str} {S:S3} {P:Nat} {c k:Bx} {m a:Int} (T:fF n0 n1 n2 S P c k m a) (ah:Bool):
  (KY P k).Tr n1 n2 S a/\(res k P ah c).Tr n1 n2 ((KY P k).HU n1 S a) m/\(res k P ah c).HU n1 ((KY P k).HU n1 S a) m=⟨Hg P S.L m a (!ah),EE n1 S.A c,EF n1 S.B k⟩:=by
 have j:=Zv T.nd T.hP T.Zz
 have d:=Zw (n1:=n1) (S:=S) (m:=a) (c:=k) (P:=P)
 refine⟨RU T.hP T.Zz,RV T.nd T.hP T.Zz T.cV (Ne.symm T.ne) j (fun n i h=>?_),?_⟩
 ·have l:n=n1:=by
   have:=T.f1
   rcases h with rfl|rfl<;>exact this
  unfold S3.side
  rw[if_pos l,if_pos l,d.1,Gv T.N.h12 T.f2]
 ·have e:=Zy (ah:=ah) T.nd T.hP T.Zz T.cV (Ne.symm T.ne) j
  rw[WX]at e
  have b:=Zx (n1:=n1) (S:=(KY P k).HU n1 S a) (m:=m) (c:=c) (k:=k) (P:=P) (ah:=ah)
  rw[d.1,d.2,Gv T.N.h12 T.f2]at b
  have o:EF n1 (EF n1 S.B k) c=EF n1 S.B k:=H_ (S:=⟨S.L,S.A,EF n1 S.B k⟩) T.N.h12 T.f1
  rw[o]at b
  cases p:(res k P ah c).HU n1 ((KY P k).HU n1 S a) m with
  |mk L A B=>
   rw[p]at e b
   obtain⟨f,g⟩:=b
   cases e;cases f;cases g
   rfl
def IA:Sp:=fun l H Q _=>∃(d:Dc) (tr b c:Addr) (e f:V) (c1 c2:Bx) (g h:Int) (first:Bool) (a i j:Str) (S:S3) (P:Nat) (D m a1 a2:Addr),l=[d.val,.ref tr,.ref b,.ref c,.bl first]/\d=Bc D m a1 a2 a i j S/\d.At H/\d.ok/\d.size<=25/\H tr=some (.tup [.str a])/\H b=some (.tup [e,.int g])/\H c=some (.tup [f,.int h])/\QQ H e c1 a P/\QQ H f c2 a P/\fF a i j S P c1 c2 g h/\∀k,AJ H k->Q (.bl true) k
theorem QS (H:Hp) (m:Int):(CC m).At H:=.inl ⟨_,rfl⟩
theorem Wd {m:Int} (h:m.natAbs<100000):(CC m).ok:=.inl ⟨m,rfl,Nat.lt_of_lt_of_le h (Nat.le_trans (show 100000<=2 ^ 17 by decide) (Nat.pow_le_pow_right (by decide) (by decide)))⟩
theorem QT {H:Hp} {r:V} {c:Bx} {n1 n2:Str} {p:Addr} {S:S3} {m:Int} (h:∀m,c=.put m->∃a,r=.ref a/\H a=some (.tup [.str "put",.ref p,.int m])) (mk:RT n1 n2 S m c) (b:m.natAbs<100000):c.w="put"->∃a,r=.ref a/\H a=some (.tup [.str c.w,.ref p,(CC m).val])/\(CC m).At H/\(CC m).ok/\(CC m).size<=2:=fun hw=>by
 cases c with
 |put x=>
  obtain⟨a,d,e⟩:=h x rfl
  have f:x=m:=mk.1
  subst f
  exact⟨a,d,e,QS H x,Wd b,by simp[Dc.size]⟩
 |DV a=>exact absurd (show("move":Str)="put"from hw) (by decide)
 |Cy n i=>exact absurd (show("move":Str)="put"from hw) (by decide)
 |DQ n i=>exact absurd (show("copy":Str)="put"from hw) (by decide)
theorem Oa {D a0 a1 a2:Addr} {n0 n1 n2:Str} {S:S3} {m:Int} {c:Bx} {P:Nat} (N:Tp n0 n1 n2) (f:(KY P c).Tr n1 n2 S m):Fits (Bc D a0 a1 a2 n0 n1 n2 S) c.w (c.xs n0 P) (c.zs n0 P):=by
 have:=RS (D:=D) (a0:=a0) (a1:=a1) (a2:=a2) N f
 rw[Zt,Wa,Wb]at this
 exact this
theorem RW {D a0 a1 a2:Addr} {n0 n1 n2:Str} {S:S3} {m:Int} {c:Bx} {P:Nat} {t d':Dc} (N:Tp n0 n1 n2) (f:(KY P c).Tr n1 n2 S m) (l:Dc.BA (Bc D a0 a1 a2 n0 n1 n2 S) t) (h:Yw t c.w (c.xs n0 P) (c.zs n0 P) (CC m) d'):∃a b d e,d'=Bc a b d e n0 n1 n2 ((KY P c).HU n1 S m):=by
 obtain⟨a,b,d,e,rfl⟩:=OR l
 refine⟨a,b,d,e,WZ N f (fun _=>rfl) ?_⟩
 rw[Zt,Wa,Wb]
 exact h
theorem RY {D a0 a1 a2:Addr} {n0 n1 n2:Str} {S:S3} {m:Int} {c k:Bx} {P:Nat} {ah:Bool} {t d':Dc} (N:Tp n0 n1 n2) (f:(res k P ah c).Tr n1 n2 S m) (l:Dc.BA (Bc D a0 a1 a2 n0 n1 n2 S) t) (h:Yw t c.w ((res k P ah c).xs n0) ((res k P ah c).zs n0) (CC m) d'):∃a b d e,d'=Bc a b d e n0 n1 n2 ((res k P ah c).HU n1 S m):=by
 obtain⟨a,b,d,e,rfl⟩:=OR l
 refine⟨a,b,d,e,WZ N f (fun _=>rfl) ?_⟩
 rw[Zu]
 exact h
theorem Ob {D a0 a1 a2:Addr} {n0 n1 n2:Str} {S:S3} {m:Int} {c k:Bx} {P:Nat} {ah:Bool} (N:Tp n0 n1 n2) (f:(res k P ah c).Tr n1 n2 S m):Fits (Bc D a0 a1 a2 n0 n1 n2 S) c.w ((res k P ah c).xs n0) ((res k P ah c).zs n0):=by
 have:=RS (D:=D) (a0:=a0) (a1:=a1) (a2:=a2) N f
 rw[Zu]at this
 exact this
theorem EG (c:Bx) (n0:Str) (P:Nat):(c.xs n0 P).length<=40/\(c.zs n0 P).length<=40:=by
 cases c<;>exact⟨by show 2<=40;decide,by first|(show 2<=40;decide)|(show 0<=40;decide)⟩
theorem We {c:Bx} {A:Prop}:(c.w="take"∨c.w="has"∨c.w="lacks")->A:=fun h=>by
 rcases KU c with e|e|e<;>rw[e]at h<;>exact absurd h (by decide)
theorem Y_ {v:Dc} {m:Int} (h:v.val=.int m):v=CC m:=by
 cases v with
 |leaf x=>have:x=.int m:=h;rw[this]
 |row a xs=>cases h
 |tab a b xs=>cases h
theorem Z_ {H g H2:Hp} {r:V} {c:Bx} {p h a0 a3:Addr} {b rest:List V} {m:Int} (q:c.w="put"->∃a,r=.ref a/\H a=some (.tup [.str c.w,.ref p,(CC m).val])/\(CC m).At H/\(CC m).ok/\(CC m).size<=2) (t:r=.ref a0) (d:g a0=some (.tup (.str c.w::.ref p::b))) (s:AJ H g) (u:c.w="put"->∃v e:Dc,b=[v.val]/\rest=[e.val]/\Dc.BA v e) (f:H2 a3=some (.tup (.str c.w::.ref h::rest))):c.w="put"->∃a,V.ref a3=.ref a/\H2 a=some (.tup [.str c.w,.ref h,(CC m).val])/\(CC m).At H2/\(CC m).ok/\(CC m).size<=2:=fun hw=>by
 obtain⟨a,i,x,_,o,z⟩:=q hw
 obtain⟨v,e,j,k,l⟩:=u hw
 rw[t]at i
 cases i
 have n:=s _ _ x
 rw[d]at n
 have y:b=[(CC m).val]:=(List.cons.inj (List.cons.inj (HO.tup.inj (ACF n))).2).2
 rw[y]at j
 have A:v=CC m:=Y_ (List.cons.inj j).1.symm
 subst A
 rw[KX l]at k
 exact⟨a3,rfl,by rw[f,k],QS H2 m,o,z⟩
theorem Oc:∀L:List Int,Dc.Ab (L.map CC)=L.length
 |[]=>rfl
 |x::r=>by
  show(CC x).size+Dc.Ab (r.map CC)=_
  rw[Oc r]
  simp[Dc.size]
  lia
def S3.size (S:S3):Nat:=4+S.L.length+S.A.length+S.B.length
theorem Ep {D a0 a1 a2:Addr} {n0 n1 n2:Str} {S:S3}:(Bc D a0 a1 a2 n0 n1 n2 S).size=S.size:=by
 unfold Bc JI S3.size
 simp only[Dc.size,Dc.Ab,Oc]
 lia
theorem Fx (p:Nat) (m:Int) (L:List Int):(insI p m L).length=L.length+1:=by
 unfold insI
 rw[List.length_append,List.length_cons,List.length_take,List.length_drop]
 lia
theorem QU (L:List Int) (i:Nat):(L.eraseIdx i).length<=L.length:=by
 rw[List.length_eraseIdx]
 split<;>lia
theorem Ka {n1:Str} {S:S3} {m:Int} {r:Rr}:(r.HU n1 S m).size<=S.size+1:=by
 cases r with
 |put p x=>simp only[Rr.HU,S3.size,Fx];lia
 |DV i p=>simp only[Rr.HU,S3.size,Fx];have:=QU S.L i;lia
 |DQ n i p=>simp only[Rr.HU,S3.size,Fx];lia
 |Cy n i p=>
  simp only[Rr.HU]
  split
  ·simp only[S3.size,Fx];have:=QU S.A i;lia
  ·simp only[S3.size,Fx];have:=QU S.B i;lia
theorem Mu {X Y:List Int} {m:Int} (h:m∉X):(X++m::Y)[X.length]?=some m/\∀k,k<X.length->(X++m::Y)[k]?≠some m:=by
 refine⟨by rw[List.getElem?_append_right (Nat.le_refl _),Nat.sub_self];rfl,fun k a e=>?_⟩
 rw[List.getElem?_append_left a]at e
 exact h (ACG e)
theorem cW {P:Nat} {L:List Int} {c d:Int} {ah:Bool} (j:c≠d):∃e f:Nat,(Hg P L c d ah)[e]?=some c/\(∀k,k<e->(Hg P L c d ah)[k]?≠some c)/\(Hg P L c d ah)[f]?=some d/\(∀k,k<f->(Hg P L c d ah)[k]?≠some d)/\(e:Int)-(f:Int)=if ah=true then-1 else 1:=by
 obtain⟨X,g⟩:∃X,X=CB d (CB c (L.take P)):=⟨_,rfl⟩
 obtain⟨Y,o⟩:∃Y,Y=CB d (CB c (L.drop P)):=⟨_,rfl⟩
 have l:c∉X:=fun z=>by rw[g]at z;exact(DP.mp (DP.mp z).1).2 rfl
 have n:d∉X:=fun z=>by rw[g]at z;exact(DP.mp z).2 rfl
 unfold Hg
 rw[<-g,<-o]
 cases ah with
 |true=>
  have h:X++(if true=true then[c,d]else[d,c])++Y=X++c::(d::Y):=by simp
  have i:X++(if true=true then[c,d]else[d,c])++Y=(X++[c])++d::Y:=by simp
  have a:=Mu (Y:=d::Y) l
  have b:=Mu (X:=X++[c]) (Y:=Y) (m:=d) (fun z=>by rcases List.mem_append.mp z with z|z;exact n z;exact j (List.mem_singleton.mp z).symm)
  rw[<-h]at a
  rw[<-i]at b
  exact⟨_,_,a.1,a.2,b.1,b.2,by simp;lia⟩
 |false=>
  have h:X++(if false=true then[c,d]else[d,c])++Y=X++d::(c::Y):=by simp
  have i:X++(if false=true then[c,d]else[d,c])++Y=(X++[d])++c::Y:=by simp
  have a:=Mu (Y:=c::Y) n
  have b:=Mu (X:=X++[d]) (Y:=Y) (m:=c) (fun z=>by rcases List.mem_append.mp z with z|z;exact l z;exact j (List.mem_singleton.mp z))
  rw[<-h]at a
  rw[<-i]at b
  exact⟨_,_,b.1,b.2,a.1,a.2,by simp;lia⟩
theorem Wg {P:Nat} {L:List Int} {a b:Int} {ah:Bool}:CB b (CB a (Hg P L a b ah))=CB b (CB a L):=by
 have d:∀(m:Int) (l:List Int),CB m (CB m l)=CB m l:=fun m l=>ED fun z=>(DP.mp z).2 rfl
 have e:CB b (CB a (if ah=true then[a,b]else[b,a]))=[]:=by
  cases ah<;>by_cases c:b=a<;>simp[CB,c]
 unfold Hg
 rw[Dj,Dj,Dj,Dj,e,List.append_nil]
 have f:∀l,CB b (CB a (CB b (CB a l)))=CB b (CB a l):=fun l=>by rw[Fu b a l,d,Fu a b,d,Fu]
 rw[f,f,<-Dj,<-Dj,List.take_append_drop]
theorem Mv (L:List Int) (p:Int->Bool):((List.range L.length).filter fun i=>p (L.getD i 0)).map (fun i=>V.int (L.getD i 0))=(L.filter p).map V.int:=by
 have e:(List.range L.length).map (fun i=>L.getD i 0)=L:=by
  refine List.ext_getElem (by simp) fun i c a=>?_
  simp[List.getD_eq_getElem?_getD,a]
 have b:((List.range L.length).filter fun i=>p (L.getD i 0)).map (fun i=>L.getD i 0)=L.filter p:=by
  have:=List.filter_map (f:=fun i=>L.getD i 0) (p:=p) (l:=List.range L.length)
  rw[e]at this
  exact this.symm
 rw[<-b,List.map_map]
 rfl
theorem Y' (L:List Int) (a b:Int):L.filter (fun x=> !(Cs (.int x) [.int a,.int b]))=CB b (CB a L):=by
 unfold CB
 rw[List.filter_filter]
 congr 1
 funext x
 by_cases c1:x=a
 ·subst c1;simp[Cs,F']
 ·have c:¬a=x:=fun z=>c1 z.symm
  by_cases c2:x=b
  ·subst c2;simp[Cs,F']
  ·have d:¬b=x:=fun z=>c2 z.symm
   simp[Cs,F',c1,c,c2,d]
def Kb (many:Nat):List Int:=(List.range many).map fun(a:Nat)=>100+(a:Int)
def Ts (many:Nat):S3:=⟨Kb many,[1000,1001,1002],[2000,2001,2002]⟩
theorem Wh {many a:Nat} (h:a<many):(Kb many)[a]?=some (100+(a:Int)):=by
 unfold Kb
 rw[List.getElem?_map,List.getElem?_range h]
 rfl
theorem Od {many:Nat} {m:Int} (h:m∈Kb many):100<=m/\m<100+(many:Int):=by
 obtain⟨a,b,rfl⟩:=List.mem_map.mp h
 have:=List.mem_range.mp b
 lia
theorem QV (many:Nat):(Kb many).Nodup:=List.pairwise_map.mpr (List.nodup_range.imp fun a e=>a (by lia))
theorem three {i:Nat} (h:i<3) (b:Int):([b,b+1,b+2]:List Int)[i]?=some (b+(i:Int)):=by
 match i,h with
 |0,_=>simp
 |1,_=>simp
 |2,_=>simp
theorem Z' {n0 n1 n2 n:Str} {many k:Nat} {c:Bx} {m:Int} (N:Tp n0 n1 n2) (l:many<=9) (d:(k=2/\n=n1)∨(k=4/\n=n2)) (h:iB k many n c m∨(c=.put 9/\m=9)):RT n1 n2 (Ts many) m c/\cU n c/\m.natAbs<100000:=by
 have b:∀x:Int,(x<100∨900<x)->x∉(Ts many).L:=fun x o z=>by
  have:=Od z
  lia
 rcases h with h|⟨rfl,rfl⟩
 ·rcases h with⟨rfl,e⟩|⟨a,j,rfl,rfl⟩|⟨i,f,g,e⟩
  ·have k4:k<=4:=by rcases d with h|h<;>lia
   exact⟨⟨rfl,b m (.inr (by lia))⟩,trivial,by lia⟩
  ·exact⟨Wh j,trivial,by lia⟩
  ·rcases d with⟨rfl,rfl⟩|⟨rfl,rfl⟩
   ·have e:m=1000+(i:Int):=by simpa using e
    have s:((Ts many).side n n)[i]?=some m:=by
     unfold S3.side
     rw[if_pos rfl,e]
     exact three f 1000
    rcases g with rfl|rfl
    ·exact⟨⟨.inl rfl,s,b m (.inr (by lia))⟩,rfl,by lia⟩
    ·exact⟨⟨.inl rfl,s,b m (.inr (by lia))⟩,rfl,by lia⟩
   ·have e:m=2000+(i:Int):=by simpa using e
    have s:((Ts many).side n1 n)[i]?=some m:=by
     unfold S3.side
     rw[if_neg (Ne.symm N.h12),e]
     exact three f 2000
    rcases g with rfl|rfl
    ·exact⟨⟨.inr rfl,s,b m (.inr (by lia))⟩,rfl,by lia⟩
    ·exact⟨⟨.inr rfl,s,b m (.inr (by lia))⟩,rfl,by lia⟩
 ·exact⟨⟨rfl,b 9 (.inl (by lia))⟩,trivial,by decide⟩
theorem Wi {n1 n2:Str} {S:S3} {c k:Bx} {m l:Int} (g:n1≠n2) (h:cU n1 c) (d:cU n2 k) (o:RT n1 n2 S m c) (j:RT n1 n2 S l k) (q:m≠l):Apart c k/\Apart k c:=by
 cases c with
 |put x=>cases k<;>exact⟨trivial,trivial⟩
 |DV a=>
  cases k with
  |DV b=>
   have:a≠b:=fun e=>by
    subst e
    have o:S.L[a]?=some m:=o
    have j:S.L[a]?=some l:=j
    rw[o]at j
    exact q (ACF j)
   exact⟨this,Ne.symm this⟩
  |_=>exact⟨trivial,trivial⟩
 |Cy n i=>
  have h:n=n1:=h
  cases k with
  |Cy f p=>
   have d:f=n2:=d
   have:n≠f:=fun e=>g (h.symm.trans (e.trans d))
   exact⟨this,Ne.symm this⟩
  |DQ f p=>
   have d:f=n2:=d
   have:n≠f:=fun e=>g (h.symm.trans (e.trans d))
   exact⟨this,Ne.symm this⟩
  |_=>exact⟨trivial,trivial⟩
 |DQ n i=>
  have h:n=n1:=h
  cases k with
  |Cy f p=>
   have d:f=n2:=d
   have:n≠f:=fun e=>g (h.symm.trans (e.trans d))
   exact⟨this,Ne.symm this⟩
  |_=>exact⟨trivial,trivial⟩
theorem cX {n0 n1 n2:Str} {many P:Nat} {c1 c2:Bx} {a b:Int} (N:Tp n0 n1 n2) (k:Be n0=true) (l:Be n1=true) (m:Be n2=true) (e:many<=9) (hP:P<=many) (k1:iB 2 many n1 c1 a∨(c1=.put 9/\a=9)) (k2:iB 4 many n2 c2 b) (f:a≠b) (c:c1.Ok n0 P) (d:c2.Ok n0 P):fF n0 n1 n2 (Ts many) P c1 c2 a b:=by
 obtain⟨g,h,n⟩:=Z' N e (.inl ⟨rfl,rfl⟩) k1
 obtain⟨i,j,o⟩:=Z' N e (.inr ⟨rfl,rfl⟩) (.inl k2)
 obtain⟨a1,a2⟩:=Wi N.h12 h j g i f
 exact⟨N,k,l,m,QV many,by show P<=(Kb many).length;unfold Kb;simp;exact hP,c,d,a1,a2,g,i,f,h,j,n,o⟩
theorem HV (H:Hp):∀L:List Int,Dc.DF H (L.map CC)
 |[]=>trivial
 |m::r=>⟨QS H m,HV H r⟩
theorem HW:∀L:List Int,(∀m∈L,m.natAbs<100000)->Dc.ML (L.map CC)
 |[],_=>trivial
 |m::r,h=>⟨Wd (h m List.mem_cons_self),HW r fun x a=>h x (List.mem_cons_of_mem _ a)⟩
theorem Wj (L:List Int):(L.map CC).map Dc.val=L.map V.int:=by rw[List.map_map];rfl
theorem cY {H:Hp} {D a0 a1 a2:Addr} {n0 n1 n2:Str} {S:S3} (N:Tp n0 n1 n2) (a:H a0=some (.lst (S.L.map V.int))) (b:H a1=some (.lst (S.A.map V.int))) (c:H a2=some (.lst (S.B.map V.int))) (d:H D=some (.dK [(Sum.inr n0,.ref a0),(Sum.inr n1,.ref a1),(Sum.inr n2,.ref a2)])):(Bc D a0 a1 a2 n0 n1 n2 S).At H:=by
 unfold Bc JI
 simp only[Dc.At,Dc.DF,Wj]
 exact⟨.inl d,rfl,by simp[N.h01,N.h02,N.h12],⟨.inl a,HV H _⟩,⟨.inl b,HV H _⟩,⟨.inl c,HV H _⟩,trivial⟩
theorem cZ {D a0 a1 a2:Addr} {n0 n1 n2:Str} {many:Nat} (c:many<=9) (d:Be n0=true) (e:Be n1=true) (f:Be n2=true):(Bc D a0 a1 a2 n0 n1 n2 (Ts many)).ok:=by
 unfold Bc JI
 simp only[Dc.ok,Dc.ML]
 refine⟨fun z b=>?_,HW _ fun m a=>?_,HW _ fun m a=>?_,HW _ fun m a=>?_,trivial⟩
 ·simp only[List.mem_cons,List.not_mem_nil,or_false]at b
  rcases b with rfl|rfl|rfl<;>assumption
 ·have:=Od a
  lia
 ·have:m=1000∨m=1001∨m=1002:=by simpa[Ts]using a
  lia
 ·have:m=2000∨m=2001∨m=2002:=by simpa[Ts]using a
  lia
theorem cb {D a0 a1 a2:Addr} {n0 n1 n2:Str} {many:Nat} (a:many<=9):(Bc D a0 a1 a2 n0 n1 n2 (Ts many)).size<=25:=by
 rw[Ep]
 show 4+(Kb many).length+3+3<=25
 unfold Kb
 simp
 lia
end L2
namespace Bu
open PySem L2
def top (i:Nat):Stmt:=PySem.Challenge.pw_patchbough_k86_who_stands_ahead.main.body.getD i (.Pass ⟨0,0,0,0⟩)
abbrev Er:Stmt:=top 1
abbrev DI:Stmt:=top 2
abbrev GL:Stmt:=top 3
abbrev GN:Stmt:=top 8
abbrev GO:Stmt:=top 12
abbrev Es:Stmt:=top 13
abbrev IB:Stmt:=top 14
abbrev Et:Stmt:=top 15
abbrev DJ:Stmt:=top 16
abbrev DK:Stmt:=top 17
abbrev B':Stmt:=top 18
abbrev Eu:Stmt:=top 19
abbrev IC:Stmt:=top 20
abbrev Lk:Stmt:=top 21
abbrev GP:Stmt:=top 22
abbrev CY:Stmt:=top 23
abbrev Ck:Stmt:=top 24
abbrev ID:Stmt:=top 25
abbrev DL:Stmt:=top 27
abbrev Cm:Stmt:=top 28
abbrev Bm:Stmt:=top 29
abbrev Cn:Stmt:=top 30
abbrev Dl:Stmt:=top 31
abbrev Co:Stmt:=top 32
abbrev DM:Stmt:=top 33
abbrev DN:Stmt:=top 34
abbrev CA:Stmt:=top 35
abbrev Ew:Stmt:=top 36
abbrev Cp:Stmt:=top 37
abbrev CJ:Stmt:=top 38
abbrev Ll:Stmt:=top 39
abbrev Lm:Stmt:=top 41
abbrev QW:Stmt:=top 42
abbrev IE:Stmt:=top 43
abbrev Kc:Stmt:=top 44
abbrev IF:Stmt:=top 45
abbrev TX:Stmt:=top 46
abbrev Ke:Stmt:=top 47
abbrev Ln:Stmt:=top 48
abbrev Lo:Stmt:=top 49
abbrev IG:Stmt:=top 50
abbrev Mw:Stmt:=top 51
inductive aA {a:Type} (b c:a->Prop):Prop
 |mk (d:a) (e:b d) (f:c d):aA b c
inductive aB {c d:Type} (e f g h i j k l m:c->d->Prop):Prop
 |mk (a:c) (b:d) (n:e a b) (o:f a b) (p:g a b) (q:h a b) (r:i a b) (s:j a b) (t:k a b) (u:l a b) (v:m a b):aB e f g h i j k l m
inductive Wk {d e f:Type} (h i j k l m n o p q g:d->e->f->Prop):Prop
 |mk (a:d) (b:e) (c:f) (s:h a b c) (t:i a b c) (u:j a b c) (v:k a b c) (w:l a b c) (x:m a b c) (y:n a b c) (z:o a b c) (A:p a b c) (B:q a b c) (r:g a b c):Wk h i j k l m n o p q g
inductive aC {a b c d:Type} (i j k l:a->b->c->d->Prop):Prop
 |mk (e:a) (f:b) (g:c) (h:d) (m:i e f g h) (n:j e f g h) (o:k e f g h) (p:l e f g h):aC i j k l
end Bu
namespace Bu
open PySem L2
section
variable{P:Program} {w:World} {K:ACH} [An K] {mg:Str->Option Value} {base:Heap}
theorem Lq:Aa ["doc"] ["doc"] (AH Er):=⟨rfl,rfl,rfl,by decide+kernel,rfl,by decide+kernel,by decide+kernel⟩
theorem QX {f:Addr} {l:FuncData} (F:DW K "steps_of" "steps_of" Er f l) (T:Txt mg):BG P w K mg base DC 1 f l ["doc"] MR:=by
 refine F.ok Lq (fun n H Q E h=>?_) (fun o A outer s H n Q E i h=>?_)
 ·obtain⟨d,rfl,b,c,g,q⟩:=h
  rfl
 ·obtain⟨d,rfl,b,c,g,q⟩:=h
  have nd:=Lq.nd
  have y:=BC i
  refine⟨_,(AE (Ag (Aw (Ad BR rfl T.isinstance Ar (AA (pv 0) (AA (CL (v:=.ty "list") rfl T.list Gb rfl) AB)))) (AI (AL (C' (Kn rfl) rfl T.list Gb (AA (VH rfl T.range (AA (Ad Aq rfl T.len PySem.boot_len (AA (pv 0) AB)) AB)) AB)))) AQ)
   (AE (Ag (Aw (Ad BR rfl T.isinstance Ar (AA (pv 0) (AA (CL (v:=.ty "dict") rfl T.dict Gd rfl) AB)))) (AI (AL (Ad (MK rfl) rfl T.sorted Uv (AA (pv 0) AB)))) AQ)
   (AI (AL (EI AB))))),?_⟩
  cases d with
  |leaf v=>
   refine⟨_,rfl,_,"list",Dc.Xa (.leaf v),rfl,rfl,Dc.Ho b,_,rfl,BM (by cases v<;>rfl) ?_⟩
   refine⟨_,rfl,_,"dict",Dc.Xa (.leaf v),rfl,rfl,Dc.Ho b,_,rfl,BM (by cases v<;>rfl) ?_⟩
   exact⟨Nat.zero_le _,fun p e=>q p [] _ (AJ.new e) e AF rfl⟩
  |row a xs=>
   refine⟨_,rfl,_,"list",_,rfl,rfl,Dc.Ho b,_,rfl,Bj rfl ?_⟩
   simp only[Dc.At]at b
   simp only[Dc.size]at g
   have:=Dc.GZ xs
   refine⟨_,rfl,a,_,rfl,.inl (.inl b.1),_,rfl,fun r i=>?_⟩
   refine⟨r,xs.length,rfl,by rw[AF,List.length_map],by omega,fun p e=>?_⟩
   exact q p _ _ ((AJ.new i).trans (AJ.new e)) ((AJ.new i).free e) AF rfl
  |tab a ks xs=>
   refine⟨_,rfl,_,"list",_,rfl,rfl,Dc.Ho b,_,rfl,BM rfl ?_⟩
   refine⟨_,rfl,_,"dict",_,rfl,rfl,Dc.Ho b,_,rfl,Bj rfl ?_⟩
   simp only[Dc.At]at b
   simp only[Dc.slim]at c
   have m:=Dc.Dq (ks:=ks) (xs:=xs) b.2.1
   have t:(Dc.kvs ks xs).length=ks.length:=by
    have:=congrArg List.length m
    simpa using this
   exact⟨_,rfl,a,_,ks,rfl,b.1,m,by rw[t,b.2.1];exact c.1,fun p j u x s e perm k=>q p _ u s x e ⟨j,rfl,perm,k⟩⟩
end
end Bu
namespace Bu
open PySem L2
section
variable{P:Program} {w:World} {K:ACH} [An K] {mg:Str->Option Value} {base:Heap}
theorem IZ:Aa ["doc"] ["doc"] (AH DI):=⟨rfl,rfl,rfl,by decide+kernel,rfl,by decide+kernel,by decide+kernel⟩
theorem Mx {f:Addr} {c:FuncData} (F:DW K "outer_copy" "outer_copy" DI f c) (T:Txt mg):BG P w K mg base DC 1 f c ["doc"] MU:=by
 refine F.ok IZ (fun e H Q E h=>?_) (fun g A outer s H e Q E i h=>?_)
 ·obtain⟨d,rfl,b,q⟩:=h
  rfl
 ·obtain⟨d,rfl,b,q⟩:=h
  have nd:=IZ.nd
  have j:=BC i
  refine⟨_,(AE (Ag (Aw (Ad BR rfl T.isinstance Ar (AA (pv 0) (AA (CL (v:=.ty "list") rfl T.list Gb rfl) AB)))) (AI (AL (C' ME rfl T.list Gb (AA (pv 0) AB)))) AQ)
   (AE (Ag (Aw (Ad BR rfl T.isinstance Ar (AA (pv 0) (AA (CL (v:=.ty "dict") rfl T.dict Gd rfl) AB)))) (AI (AL (C' Jq rfl T.dict Gd (AA (pv 0) AB)))) AQ)
   (AI (AL (pv 0))))),?_⟩
  cases d with
  |leaf v=>
   refine⟨_,rfl,_,"list",Dc.Xa (.leaf v),rfl,rfl,Dc.Ho b,_,rfl,BM (by cases v<;>rfl) ?_⟩
   refine⟨_,rfl,_,"dict",Dc.Xa (.leaf v),rfl,rfl,Dc.Ho b,_,rfl,BM (by cases v<;>rfl) ?_⟩
   exact⟨_,rfl,q⟩
  |row a xs=>
   refine⟨_,rfl,_,"list",_,rfl,rfl,Dc.Ho b,_,rfl,Bj rfl ?_⟩
   simp only[Dc.At]at b
   exact⟨_,rfl,a,_,rfl,.inl (.inl b.1),q⟩
  |tab a k xs=>
   refine⟨_,rfl,_,"list",_,rfl,rfl,Dc.Ho b,_,rfl,BM rfl ?_⟩
   refine⟨_,rfl,_,"dict",_,rfl,rfl,Dc.Ho b,_,rfl,Bj rfl ?_⟩
   simp only[Dc.At]at b
   exact⟨_,rfl,a,_,rfl,b.1,q⟩
end
end Bu
namespace Bu
open PySem L2
section
variable{P:Program} {w:World} {K:ACH} [An K] {mg:Str->Option Value} {base:Heap}
theorem Oe:Aa ["doc","told","waiting","part","steps","step"] ["doc"] (AH GL):=⟨rfl,rfl,rfl,by decide+kernel,rfl,by decide+kernel,by decide+kernel⟩
theorem TY {f:Addr} {fd:FuncData} (F:DW K "copy_of" "copy_of" GL f fd) (T:Txt mg) (Wl:Df P w K mg base "steps_of" ["doc"] 1 MR) (QY:Df P w K mg base "outer_copy" ["doc"] 1 MU):BG P w K mg base DC 2 f fd ["doc"] Jv:=by
 obtain⟨iC,iD,Wm,Wn,Wo,Wq⟩:=Wl.ex
 obtain⟨cc,cf,G,I,J,M⟩:=QY.ex
 refine F.ok Oe (fun Z H Q E h=>?_) (fun Iq A outer s H Z Q E hr h=>?_)
 ·obtain⟨d,rfl,Of,wg,hsz,q⟩:=h
  rfl
 ·obtain⟨d,rfl,Of,wg,hsz,q⟩:=h
  have nd:=Oe.nd
  have hu:=BC hr
  have TZ:Ac 1 _:=hr.mono (by first|decide|omega)
  have n:Ac 1 _:=hr.mono (by first|decide|omega)
  refine⟨_,(AE (AV (i:=1) nd rfl (Or.inl rfl) (AG M n rfl J G I .nil AN (AA (pv 0) AB)))
   (AE (AV (i:=2) nd rfl (Or.inl rfl) (EI (AA (pv 1) AB)))
   (AE (UD PassesOwn.never (UM (pv 2) (fun _=>rfl)) (AE (AV (i:=3) nd rfl (Or.inl rfl) (bL PySem.F.plainAttrs_list PySem.F.slot_list_pop PySem.F.type_list_pop bM (pv 2)))
   (AE (AV (i:=4) nd rfl (Or.inl rfl) (AG Wq TZ rfl Wo Wm Wn .nil AN (AA (pv 3) AB)))
   (AI (JO PassesOwn.never rfl (Gw (pv 4)) (Dx (i:=5) nd rfl (Or.inl rfl)) (AE (VE (UB (AG M n rfl J G I .nil AN (AA (Jn (AO (r:=EJ K) Bp (pv 3) (pv 5) (fun _ _=>rfl)) (HA hu (pv 3) (pv 5) (fun _ _=>rfl))) AB)) (UA (pv 3) (pv 5) set_list)) (MF hu (pv 3) (pv 5) (AG M n rfl J G I .nil AN (AA (Jn (AO (r:=EJ K) Bp (pv 3) (pv 5) (fun _ _=>rfl)) (HA hu (pv 3) (pv 5) (fun _ _=>rfl))) AB)) rfl))
   (AI (Dw (Fb PySem.F.plainAttrs_list PySem.F.slot_list_append PySem.F.type_list_append Ce (pv 2) (AA (Jn (AO (r:=EJ K) Bp (pv 3) (pv 5) (fun _ _=>rfl)) (HA hu (pv 3) (pv 5) (fun _ _=>rfl))) AB))))))))))
   (AI (AL (pv 1)))))),?_⟩
  refine⟨_,rfl,d,rfl,Of,Hr.of (AJ.refl H) Of fun tv X si oi fi=>?_⟩
  refine⟨_,rfl,Fi,fun L hL=>?_⟩
  have sL:=AJ.new (o:=.lst [tv]) hL
  have nL:H L=none:=si.free hL
  have wh:tv≠.ref L:=fun z=>(Se Of oi z) hL
  have C0:Ee H (upd X L (.lst [tv])) L tv d [(tv,d)]:=Ee.start (si.trans sL) nL AF (oi.up fun a e u h=>sL _ _ h) Of wg wh
  dsimp only[Dm,Rt]
  refine YT (fun m σ Hw=>aC (fun(ps:List (V×Dc)) (o3 o4 B:Option V)=>σ=[some d.val,some tv,some (.ref L),o3,o4,B]) (fun(ps:List (V×Dc)) (o3 o4 B:Option V)=>Ee H Hw L tv d ps) (fun(ps:List (V×Dc)) (o3 o4 B:Option V)=>Dc.Ab (ps.map (·.2))<=d.size) (fun(ps:List (V×Dc)) (o3 o4 B:Option V)=>m=Dc.Ab (ps.map (·.2))))
   (Dc.Ab [d]) ⟨[(tv,d)],none,none,none,rfl,C0,by simp[Dc.Ab],rfl⟩ ?_ (fun σ H Q Q' h ⟨v,e,k,t,q⟩=>⟨v,e,k,t,h _ _ q⟩)
  rintro m σ Hw ⟨ps,o3,o4,B,rfl,C,hm,rfl⟩
  refine⟨_,rfl,_,.inl ⟨_,Bd.of C.eL,rfl⟩,?_⟩
  by_cases eY:ps=[]
  ·subst eY
   refine BO ⟨_,rfl,?_⟩
   obtain⟨e,ev,el,ef⟩:=C.done
   rw[<-ev]
   exact q e Hw ef el
  obtain⟨R,p,rfl⟩:∃R p,ps=R++[p]:=⟨ps.dropLast,ps.getLast eY,(List.dropLast_concat_getLast eY).symm⟩
  obtain⟨v,node⟩:=p
  refine Bj (by simp) ?_
  have mi:Dc.Ab ((R++[(v,node)]).map (·.2))=Dc.Ab (R.map (·.2))+node.size:=by rw[List.map_append,Dc.Bq];simp[Dc.Ab]
  have wj:=C.eL
  refine⟨_,rfl,.inl ⟨rfl,_,Bd.of wj⟩,L,_,v,rfl,rfl,wj,by simp,?_⟩
  have dl:(List.map (·.1) (R++[(v,node)])).dropLast=R.map (·.1):=by rw[List.map_append];simp
  rw[dl]
  obtain⟨nat,fG⟩:=C.src (v,node) (by simp)
  have on:=C.out (v,node) (by simp)
  have s1:AJ H (upd Hw L (.lst (R.map (·.1)))):=C.same.put nL
  have lq:R.length<=Dc.Ab (R.map (·.2)):=by have:=Dc.GZ (R.map (·.2));rw[List.length_map]at this;exact this
  cases node with
  |leaf v'=>
   obtain⟨rfl,lv⟩:=(show v=v'/\Dc.Lf v' from on)
   refine⟨_,rfl,.leaf v,rfl,lv,trivial,by simp[Dc.size],fun p l H2 s2 np hp st=>?_⟩
   cases(show l=[]from st)
   refine⟨_,rfl,p,rfl,⟨_,Bd.of hp⟩,JP (xs:=[]) (fun i σ X=>aA (fun B=>σ=[some d.val,some tv,some (.ref L),some v,some (.ref p),B]) (fun B=>X=H2)) ⟨_,rfl,rfl⟩ (fun i σ X _ ⟨_,_,e⟩=>by rw[e];exact Bd.of hp) (fun i x σ X hx=>by simp at hx) ?_⟩
   rintro σ X ⟨B,rfl,rfl⟩
   refine⟨Dc.Ab (R.map (·.2)),by rw[mi];simp only[Dc.size];lia,R,_,_,_,rfl,C.leaf (fun b o hb h=>s2 _ _ (by rw[AR hb];exact h)) (s2 _ _ AF),by lia,rfl⟩
  |row b xs=>
   obtain⟨a,rfl,ea,na⟩:=(show∃a,v=.ref a/\Hw a=some (.lst (xs.map Dc.val))/\H a=none from on)
   have aL:a≠L:=fun z=>C.Sd (by rw[<-z];exact BU.mpr ⟨(.ref a,.row b xs),by simp,rfl⟩)
   have cg:upd Hw L (.lst (R.map (·.1))) a=some (.lst (xs.map Dc.val)):=by rw[AR aL];exact ea
   have QZ:=nat
   simp only[Dc.At]at QZ
   simp only[Dc.slim]at fG
   simp only[Dc.size]at mi
   have lx:=Dc.GZ xs
   refine⟨_,rfl,.row a xs,rfl,?_,by simp only[Dc.slim];exact fG,by simp only[Dc.size];lia,fun p l H2 s2 np hp st=>?_⟩
   ·simp only[Dc.At]
    exact⟨.inl cg,Dc.BL xs (fun c _ o e=>s1 c o e) QZ.2⟩
   cases(show l=(List.range xs.length).map fun(i:Nat)=>V.int (i:Int)from st)
   have mj:=s1.trans s2
   have iE:=s2 _ _ cg
   have cj:H2 L=some (.lst (R.map (·.1))):=s2 _ _ AF
   have ll:((List.range xs.length).map fun(i:Nat)=>V.int (i:Int)).length=xs.length:=by simp
   have pa:p≠a:=Ne.symm (Ap cg np)
   have pL:p≠L:=Ne.symm (Ap (AF (H:=Hw) (a:=L) (o:=.lst (R.map (·.1)))) np)
   refine⟨_,rfl,p,rfl,⟨_,Bd.of hp⟩,JP (xs:=(List.range xs.length).map fun(i:Nat)=>V.int (i:Int)) (fun i σ X=>aB (fun(g:List V) (B:Option V)=>σ=[some d.val,some tv,some (.ref L),some (.ref a),some (.ref p),B]) (fun(g:List V) (B:Option V)=>g.length=i) (fun(g:List V) (B:Option V)=>i<=xs.length) (fun(g:List V) (B:Option V)=>X a=some (.lst (g++(xs.drop i).map Dc.val))) (fun(g:List V) (B:Option V)=>X L=some (.lst (R.map (·.1)++g))) (fun(g:List V) (B:Option V)=>(∀(j:Nat) c x,g[j]?=some c->xs[j]?=some x->Fl H X c x)) (fun(g:List V) (B:Option V)=>(∀b o,b≠a->b≠L->H2 b=some o->X b=some o)) (fun(g:List V) (B:Option V)=>(roots (g.zip xs)).Nodup) (fun(g:List V) (B:Option V)=>∀c∈roots (g.zip xs),H2 c=none))
    ⟨[],_,rfl,rfl,Nat.zero_le _,by rw[iE];rfl,by rw[cj,List.append_nil],fun j c x h=>by simp at h,fun b o _ _ h=>h,by simp[roots],by simp[roots]⟩ (fun i σ X _ ⟨g,B,_,_,_,_,_,_,kp,_,_⟩=>Bd.of (kp p _ pa pL hp)) ?_ ?_⟩
   ·rintro i sv σ X ck ⟨g,B,rfl,lc,ml,N,ZA,oc,kp,rn,rf⟩
    have hi:i<xs.length:=by have:=(ACE ck).1;rw[ll]at this;exact this
    have mn:sv=.int (i:Int):=by rw[List.getElem?_map,List.getElem?_range hi]at ck;exact(ACF ck).symm
    subst mn
    obtain⟨x,hx⟩:∃x,xs[i]?=some x:=⟨_,ACD hi⟩
    have mq:=ACG hx
    have iF:AJ H X:=fun b o e=>kp b o (Ap e na) (Ap e nL) (mj b o e)
    have dr:xs.drop i=x::xs.drop (i+1):=by rw[List.drop_eq_getElem_cons hi];rw[ACD hi]at hx;rw[ACF hx]
    have iG:x.At X:=Dc.BS iF (Dc.CV QZ.2 x mq)
    have EM:NL (g++(xs.drop i).map Dc.val) (i:Int)=some x.val:=CM (by rw[dr,List.getElem?_append_right (by lia),lc,Nat.sub_self];rfl)
    refine .inl (.inl ⟨_,rfl,_,rfl,a,_,_,_,rfl,rfl,Bd.of N,EM,x,rfl,iG,Hr.of iF iG fun c Hc sc mr fc=>?_⟩)
    have mu:=sc _ _ N
    have hlen:(g++(xs.drop i).map Dc.val).length=xs.length:=by rw[List.length_append,List.length_map,List.length_drop];lia
    refine⟨_,rfl,_,rfl,a,_,_,i,rfl,rfl,mu,by unfold SD;rw[if_pos (by lia),if_pos (by rw[hlen];lia),Int.toNat_natCast],?_⟩
    have mw:(g++(xs.drop i).map Dc.val).set i c=(g++[c])++(xs.drop (i+1)).map Dc.val:=by
     rw[dr,List.map_cons,List.set_append_right _ _ (by lia),lc,Nat.sub_self,List.set_cons_zero,List.append_assoc]
     rfl
    rw[mw]
    have cL:∀S,c=.ref S->S≠a/\S≠L:=fun S e=>⟨(fun z=>by have:=fc S e;rw[z,N]at this;cases this),(fun z=>by have:=fc S e;rw[z,ZA]at this;cases this)⟩
    have iH:upd Hc a (.lst ((g++[c])++(xs.drop (i+1)).map Dc.val)) L=some (.lst (R.map (·.1)++g)):=by rw[AR (Ne.symm aL)];exact sc _ _ ZA
    refine⟨_,rfl,.inl ⟨rfl,_,Bd.of iH⟩,.inl ⟨_,rfl,_,rfl,a,_,_,c,rfl,rfl,Bd.of AF,CM (by rw[List.getElem?_append_left (by rw[List.length_append,lc];simp),List.getElem?_append_right (by lia),lc,Nat.sub_self];rfl),?_⟩⟩
    refine⟨L,_,_,rfl,rfl,iH,BQ (by simp only[List.length_append,List.length_map];lia),g++[c],_,rfl,by simp[lc],hi,by rw[AR aL];exact AF,by rw[AF,List.append_assoc],fun j U x' D O=>?_,fun b' o D O h3=>?_,?_,fun U Y=>?_⟩
    ·have base:∀{U:V} {x':Dc},Fl H Hc U x'->(∀S,U=.ref S->S≠a/\S≠L)->Fl H (upd (upd Hc a (.lst ((g++[c])++(xs.drop (i+1)).map Dc.val))) L (.lst ((R.map (·.1)++g)++[c]))) U x':=fun o cn=>o.up fun S e u h=>by
      obtain⟨g1,g2⟩:=cn S e
      rw[AR g2,AR g1]
      exact h
     by_cases cq:j<g.length
     ·rw[List.getElem?_append_left cq]at D
      refine base ((oc j U x' D O).up fun S e u h=>sc _ _ h) fun S e=>?_
      have hz:(g.zip xs)[j]?=some (U,x'):=by rw[List.getElem?_zip_eq_some];exact⟨D,O⟩
      have hr:=rf S (BU.mpr ⟨(U,x'),ACG hz,e⟩)
      exact⟨(fun z=>by rw[z,iE]at hr;cases hr),(fun z=>by rw[z,cj]at hr;cases hr)⟩
     ·have hl:=(ACE D).1
      rw[List.length_append,List.length_singleton]at hl
      have ej:j=i:=by lia
      subst ej
      rw[List.getElem?_append_right (by lia),lc,Nat.sub_self]at D
      have e1:c=U:=by simpa using D
      subst e1
      rw[hx]at O
      cases O
      exact base mr cL
    ·rw[AR O,AR D]
     exact sc _ _ (kp b' o D O h3)
    ·have ez:(g++[c]).zip xs=g.zip xs++[(c,x)]:=HH lc hx
     rw[ez,BH]
     refine List.nodup_append.mpr ⟨rn,by cases c<;>first|exact List.nodup_nil|exact List.nodup_cons.mpr ⟨(fun h=>nomatch h),List.nodup_nil⟩,fun y hy z hz e=>?_⟩
     subst e
     obtain⟨p',cu,e'⟩:=BU.mp hz
     rw[List.mem_singleton.mp cu]at e'
     obtain⟨⟨c2,x2⟩,Ta,e2⟩:=BU.mp hy
     obtain⟨j,hj,ej⟩:=List.mem_iff_getElem.mp Ta
     have gY:(g.zip xs)[j]?=some (c2,x2):=by rw[ACD hj,ej]
     obtain⟨g1,g2⟩:=List.getElem?_zip_eq_some.mp gY
     exact((oc j c2 x2 g1 g2).root (p:=(c2,x2)) e2).1 (fc y e')
    ·have ez:(g++[c]).zip xs=g.zip xs++[(c,x)]:=HH lc hx
     rw[ez,BH]at Y
     rcases List.mem_append.mp Y with Y|Y
     ·exact rf U Y
     ·obtain⟨p',cu,e'⟩:=BU.mp Y
      rw[List.mem_singleton.mp cu]at e'
      have h0:=fc U e'
      cases q2:H2 U with
      |none=>rfl
      |some o=>
       have:=kp U o (cL U e').1 (cL U e').2 q2
       rw[h0]at this
       cases this
   ·rintro σ X ⟨g,B,rfl,lc,ml,N,ZA,oc,kp,rn,rf⟩
    rw[ll]at lc N
    rw[List.drop_length,List.map_nil,List.append_nil]at N
    have mz:(g.zip xs).map (·.1)=g:=List.map_fst_zip (by lia)
    have iI:(g.zip xs).map (·.2)=xs:=List.map_snd_zip (by lia)
    have iJ:∀p∈g.zip xs,∃j:Nat,g[j]?=some p.1/\xs[j]?=some p.2:=fun p hp=>by
     obtain⟨j,hj,e⟩:=List.mem_iff_getElem.mp hp
     exact⟨j,List.getElem?_zip_eq_some.mp (by rw[ACD hj,e])⟩
    have aD:∀b o,b≠L->Hw b=some o->H2 b=some o:=fun b o hb h=>s2 _ _ (by rw[AR hb];exact h)
    have C2:=C.step (H2:=X) (g.zip xs) (fun b' o D O h3=>kp b' o D O (aD b' o O h3)) (by rw[ZA,List.map_append,mz]) (fun p hp=>let⟨j,g1,g2⟩:=iJ p hp;oc j _ _ g1 g2)
     (fun p hp=>let⟨j,g1,g2⟩:=iJ p hp;⟨Dc.CV QZ.2 _ (ACG g2),Dc.Ec fG _ (ACG g2)⟩) rn
     (fun c hc=>by
      cases q2:Hw c with
      |none=>rfl
      |some o=>
       have h0:=rf c hc
       by_cases iK:c=L
       ·rw[iK,cj]at h0;cases h0
       ·rw[aD c o iK q2]at h0;cases h0) (by rw[N];simp) (fun ob u z=>by rw[N]at z;cases z)
     (fun ec H' dn at' Qa=>⟨.row a ec,rfl,by simp only[Dc.BA];have:=dn.VR;rw[iI]at this;exact this,by
      simp only[Dc.At]
      refine⟨.inl ?_,at'⟩
      rw[Qa,N,dn.vals,mz],by simp only[Dc.addrs];exact .refl _⟩)
    have zE:Dc.Ab ((R++g.zip xs).map (·.2))=Dc.Ab (R.map (·.2))+Dc.Ab xs:=by rw[List.map_append,Dc.Bq,iI]
    exact⟨Dc.Ab ((R++g.zip xs).map (·.2)),by lia,R++g.zip xs,_,_,_,rfl,C2,by lia,rfl⟩
  |tab b ks xs=>
   obtain⟨a,rfl,ea,na⟩:=(show∃a,v=.ref a/\Hw a=some (.dK (Dc.kvs ks xs))/\H a=none from on)
   have aL:a≠L:=fun z=>C.Sd (by rw[<-z];exact BU.mpr ⟨(.ref a,.tab b ks xs),by simp,rfl⟩)
   have cg:upd Hw L (.lst (R.map (·.1))) a=some (.dK (Dc.kvs ks xs)):=by rw[AR aL];exact ea
   have QZ:=nat
   simp only[Dc.At]at QZ
   simp only[Dc.slim]at fG
   simp only[Dc.size]at mi
   obtain⟨_,kB,knd,cv⟩:=QZ
   have lx:=Dc.GZ xs
   refine⟨_,rfl,.tab a ks xs,rfl,?_,by simp only[Dc.slim];exact fG,by simp only[Dc.size];lia,fun p l H2 s2 np hp st=>?_⟩
   ·simp only[Dc.At]
    exact⟨.inl cg,kB,knd,Dc.BL xs (fun c _ o e=>s1 c o e) cv⟩
   obtain⟨ss,rfl,perm,_⟩:=(show∃ss:List Str,l=ss.map V.str/\ss.Perm ks/\PyProof.Rows.sortedS ss=true from st)
   have snd:ss.Nodup:=perm.nodup_iff.mpr knd
   have sl:=perm.length_eq
   obtain⟨ys,yp,yl,wk⟩:=reorder (ks:=ss) (ss:=ks) (ec:=xs) perm.symm knd kB.symm
   have mj:=s1.trans s2
   have iE:=s2 _ _ cg
   have cj:H2 L=some (.lst (R.map (·.1))):=s2 _ _ AF
   have ll:(ss.map V.str).length=ss.length:=List.length_map ..
   have pa:p≠a:=Ne.symm (Ap cg np)
   have pL:p≠L:=Ne.symm (Ap (AF (H:=Hw) (a:=L) (o:=.lst (R.map (·.1)))) np)
   have pos:∀(j:Nat) k,ks[j]?=some k->∃t,ss[t]?=some k:=fun j k h=>List.mem_iff_getElem?.mp (perm.mem_iff.mpr (ACG h))
   have pos':∀(t:Nat) k,ss[t]?=some k->∃j,ks[j]?=some k:=fun t k h=>List.mem_iff_getElem?.mp (perm.mem_iff.mp (ACG h))
   refine⟨_,rfl,p,rfl,⟨_,Bd.of hp⟩,JP (xs:=ss.map V.str) (fun i σ X=>Wk (fun(g Z:List V) (B:Option V)=>σ=[some d.val,some tv,some (.ref L),some (.ref a),some (.ref p),B]) (fun(g Z:List V) (B:Option V)=>g.length=i) (fun(g Z:List V) (B:Option V)=>i<=ss.length) (fun(g Z:List V) (B:Option V)=>ks.length=Z.length) (fun(g Z:List V) (B:Option V)=>X a=some (.dK (EN ks Z))) (fun(g Z:List V) (B:Option V)=>X L=some (.lst (R.map (·.1)++g))) (fun(g Z:List V) (B:Option V)=>(∀(j t:Nat) k,ks[j]?=some k->ss[t]?=some k->Z[j]?=if t<i then g[t]? else(ys[t]?).map Dc.val)) (fun(g Z:List V) (B:Option V)=>(∀(j:Nat) c x,g[j]?=some c->ys[j]?=some x->Fl H X c x)) (fun(g Z:List V) (B:Option V)=>(∀b o,b≠a->b≠L->H2 b=some o->X b=some o)) (fun(g Z:List V) (B:Option V)=>(roots (g.zip ys)).Nodup) (fun(g Z:List V) (B:Option V)=>∀c∈roots (g.zip ys),H2 c=none))
    ⟨[],xs.map Dc.val,_,rfl,rfl,Nat.zero_le _,by rw[List.length_map];exact kB,iE,by rw[cj,List.append_nil],fun j t k D O=>by rw[if_neg (Nat.not_lt_zero _),wk t j k O D,List.getElem?_map],fun j c x h=>by simp at h,fun b o _ _ h=>h,by simp[roots],by simp[roots]⟩
    (fun i σ X _ ⟨g,Z,B,_,_,_,_,_,_,_,_,kp,_,_⟩=>Bd.of (kp p _ pa pL hp)) ?_ ?_⟩
   ·rintro i sv σ X ck ⟨g,Z,B,rfl,lc,ml,lv,N,ZA,Ov,oc,kp,rn,rf⟩
    have hi:i<ss.length:=by have:=(ACE ck).1;rw[ll]at this;exact this
    obtain⟨k,hk⟩:∃k,ss[i]?=some k:=⟨_,ACD hi⟩
    have mn:sv=.str k:=by rw[List.getElem?_map,hk]at ck;exact(ACF ck).symm
    subst mn
    obtain⟨j,hj⟩:=pos' i k hk
    obtain⟨x,hx⟩:∃x,ys[i]?=some x:=⟨_,ACD (by rw[yl];exact hi)⟩
    have mq:x∈xs:=yp.mem_iff.mp (ACG hx)
    have iF:AJ H X:=fun b o e=>kp b o (Ap e na) (Ap e nL) (mj b o e)
    have iG:x.At X:=Dc.BS iF (Dc.CV cv x mq)
    have wm:j<Z.length:=by rw[<-lv];exact(ACE hj).1
    have vj:Z[j]?=some x.val:=by rw[Ov j i k hj hk,if_neg (Nat.lt_irrefl _),hx];rfl
    have dg:∀{Hx:Hp} {ws:List V} {y:V},Hx a=some (.dK (EN ks ws))->ks.length=ws.length->ws[j]?=some y->Nh Hx a (.str k) (some y):=fun D O h3=>.inl ⟨_,Sum.inr k,.inl D,rfl,by rw[Jw O knd hj,h3]⟩
    refine .inr (.inr ⟨_,rfl,_,rfl,a,x.val,rfl,dg N lv vj,x,rfl,iG,Hr.of iF iG fun c Hc sc mr fc=>?_⟩)
    have mu:=sc _ _ N
    refine⟨_,rfl,_,rfl,a,_,rfl,Ni.k (k:=Sum.inr k) mu (BQ (by rw[VS lv];lia)),?_⟩
    rw[VT lv knd hj c]
    have iL:ks.length=(Z.set j c).length:=by rw[List.length_set];exact lv
    have cL:∀S,c=.ref S->S≠a/\S≠L:=fun S e=>⟨(fun z=>by have:=fc S e;rw[z,N]at this;cases this),(fun z=>by have:=fc S e;rw[z,ZA]at this;cases this)⟩
    have iH:upd Hc a (.dK (EN ks (Z.set j c))) L=some (.lst (R.map (·.1)++g)):=by rw[AR (Ne.symm aL)];exact sc _ _ ZA
    refine⟨_,rfl,.inl ⟨rfl,_,Bd.of iH⟩,.inr ⟨_,rfl,_,rfl,a,c,rfl,dg AF iL (by rw[List.getElem?_set_self wm]),?_⟩⟩
    refine⟨L,_,_,rfl,rfl,iH,BQ (by simp only[List.length_append,List.length_map];lia),g++[c],Z.set j c,_,rfl,by simp[lc],hi,iL,by rw[AR aL];exact AF,by rw[AF,List.append_assoc],fun j' t' k' D O=>?_,fun j' U x' D O=>?_,fun b' o D O h3=>?_,?_,fun U Y=>?_⟩
    ·by_cases mx:j'=j
     ·subst mx
      rw[hj]at D
      cases D
      have et:t'=i:=(List.getElem?_inj (by exact(ACE O).1) snd).mp (by rw[O,hk])
      subst et
      rw[List.getElem?_set_self wm,if_pos (Nat.lt_succ_self _),List.getElem?_append_right (by lia),lc,Nat.sub_self]
      rfl
     ·have zF:k'≠k:=fun z=>mx ((List.getElem?_inj (by exact(ACE D).1) knd).mp (by rw[D,hj,z]))
      have wh:t'≠i:=fun z=>zF (by rw[z,hk]at O;exact(ACF O).symm)
      rw[List.getElem?_set_ne (Ne.symm mx),Ov j' t' k' D O]
      by_cases wo:t'<i
      ·rw[if_pos wo,if_pos (by lia),List.getElem?_append_left (by lia)]
      ·rw[if_neg wo,if_neg (by lia)]
    ·have base:∀{U:V} {x':Dc},Fl H Hc U x'->(∀S,U=.ref S->S≠a/\S≠L)->Fl H (upd (upd Hc a (.dK (EN ks (Z.set j c)))) L (.lst ((R.map (·.1)++g)++[c]))) U x':=fun o cn=>o.up fun S e u h=>by
      obtain⟨g1,g2⟩:=cn S e
      rw[AR g2,AR g1]
      exact h
     by_cases cq:j'<g.length
     ·rw[List.getElem?_append_left cq]at D
      refine base ((oc j' U x' D O).up fun S e u h=>sc _ _ h) fun S e=>?_
      have hz:(g.zip ys)[j']?=some (U,x'):=by rw[List.getElem?_zip_eq_some];exact⟨D,O⟩
      have hr:=rf S (BU.mpr ⟨(U,x'),ACG hz,e⟩)
      exact⟨(fun z=>by rw[z,iE]at hr;cases hr),(fun z=>by rw[z,cj]at hr;cases hr)⟩
     ·have hl:=(ACE D).1
      rw[List.length_append,List.length_singleton]at hl
      have ej:j'=i:=by lia
      subst ej
      rw[List.getElem?_append_right (by lia),lc,Nat.sub_self]at D
      have e1:c=U:=by simpa using D
      subst e1
      rw[hx]at O
      cases O
      exact base mr cL
    ·rw[AR O,AR D]
     exact sc _ _ (kp b' o D O h3)
    ·have ez:(g++[c]).zip ys=g.zip ys++[(c,x)]:=HH lc hx
     rw[ez,BH]
     refine List.nodup_append.mpr ⟨rn,by cases c<;>first|exact List.nodup_nil|exact List.nodup_cons.mpr ⟨(fun h=>nomatch h),List.nodup_nil⟩,fun y hy z hz e=>?_⟩
     subst e
     obtain⟨p',cu,e'⟩:=BU.mp hz
     rw[List.mem_singleton.mp cu]at e'
     obtain⟨⟨c2,x2⟩,Ta,e2⟩:=BU.mp hy
     obtain⟨j2,zG,zH⟩:=List.mem_iff_getElem.mp Ta
     have gY:(g.zip ys)[j2]?=some (c2,x2):=by rw[ACD zG,zH]
     obtain⟨g1,g2⟩:=List.getElem?_zip_eq_some.mp gY
     exact((oc j2 c2 x2 g1 g2).root (p:=(c2,x2)) e2).1 (fc y e')
    ·have ez:(g++[c]).zip ys=g.zip ys++[(c,x)]:=HH lc hx
     rw[ez,BH]at Y
     rcases List.mem_append.mp Y with Y|Y
     ·exact rf U Y
     ·obtain⟨p',cu,e'⟩:=BU.mp Y
      rw[List.mem_singleton.mp cu]at e'
      have h0:=fc U e'
      cases q2:H2 U with
      |none=>rfl
      |some o=>
       have:=kp U o (cL U e').1 (cL U e').2 q2
       rw[h0]at this
       cases this
   ·rintro σ X ⟨g,Z,B,rfl,lc,ml,lv,N,ZA,Ov,oc,kp,rn,rf⟩
    rw[ll]at lc Ov
    have mz:(g.zip ys).map (·.1)=g:=List.map_fst_zip (by lia)
    have iI:(g.zip ys).map (·.2)=ys:=List.map_snd_zip (by lia)
    have iJ:∀p∈g.zip ys,∃j:Nat,g[j]?=some p.1/\ys[j]?=some p.2:=fun p hp=>by
     obtain⟨j,hj,e⟩:=List.mem_iff_getElem.mp hp
     exact⟨j,List.getElem?_zip_eq_some.mp (by rw[ACD hj,e])⟩
    have aD:∀b o,b≠L->Hw b=some o->H2 b=some o:=fun b o hb h=>s2 _ _ (by rw[AR hb];exact h)
    have C2:=C.step (H2:=X) (g.zip ys) (fun b' o D O h3=>kp b' o D O (aD b' o O h3)) (by rw[ZA,List.map_append,mz]) (fun p hp=>let⟨j,g1,g2⟩:=iJ p hp;oc j _ _ g1 g2)
     (fun p hp=>let⟨j,g1,g2⟩:=iJ p hp;⟨Dc.CV cv _ (yp.mem_iff.mp (ACG g2)),Dc.Ec fG.2 _ (yp.mem_iff.mp (ACG g2))⟩) rn
     (fun c hc=>by
      cases q2:Hw c with
      |none=>rfl
      |some o=>
       have h0:=rf c hc
       by_cases iK:c=L
       ·rw[iK,cj]at h0;cases h0
       ·rw[aD c o iK q2]at h0;cases h0) (by rw[N];simp) (fun ob u z=>by rw[N]at z;cases z)
     (fun ec H' dn at' Qa=>by
      have dv:=dn.vals
      rw[mz]at dv
      have dk:=dn.VR
      rw[iI]at dk
      have el:ec.length=ss.length:=by have:=congrArg List.length dv;rw[List.length_map]at this;lia
      obtain⟨es,ep,zI,wq⟩:=reorder perm snd el
      have ev:es.map Dc.val=Z:=by
       refine List.ext_getElem? fun j=>?_
       cases hk:ks[j]? with
       |none=>
        have D:=List.getElem?_eq_none_iff.mp hk
        rw[List.getElem?_eq_none_iff.mpr (by rw[List.length_map];lia),List.getElem?_eq_none_iff.mpr (by lia)]
       |some k=>
        obtain⟨t,ht⟩:=pos j k hk
        have tl:=(ACE ht).1
        rw[List.getElem?_map,wq j t k hk ht,Ov j t k hk ht,if_pos tl,<-dv,List.getElem?_map]
      refine⟨.tab a ks es,rfl,?_,?_,?_⟩
      ·simp only[Dc.BA]
       refine⟨trivial,OC (by lia) fun j x e D O=>?_⟩
       obtain⟨k,hk⟩:∃k,ks[j]?=some k:=⟨_,ACD (by rw[kB];exact(ACE D).1)⟩
       obtain⟨t,ht⟩:=pos j k hk
       have e1:=wk t j k ht hk
       rw[D]at e1
       obtain⟨e',g1,g2⟩:=Dc.LO dk t x e1
       rw[wq j t k hk ht,g1]at O
       cases O
       exact g2
      ·simp only[Dc.At]
       exact⟨.inl (by rw[Qa,N,OB,ev]),zI.symm,knd,VU ep at'⟩
      ·simp only[Dc.addrs]
       exact(IM ep).cons _)
    have zE:Dc.Ab ((R++g.zip ys).map (·.2))=Dc.Ab (R.map (·.2))+Dc.Ab xs:=by rw[List.map_append,Dc.Bq,iI,Dc.Pf yp]
    exact⟨Dc.Ab ((R++g.zip ys).map (·.2)),by lia,R++g.zip ys,_,_,_,rfl,C2,by lia,rfl⟩
end
end Bu
namespace Bu
open PySem L2
section
variable{P:Program} {w:World} {K:ACH} [An K] {mg:Str->Option Value} {base:Heap}
theorem Og:Aa ["one","other"] ["one","other"] (AH GN):=⟨rfl,rfl,rfl,by decide+kernel,rfl,by decide+kernel,by decide+kernel⟩
def Fy:Sp:=fun e H Q _=>∃(a b:Addr) (xs c:List V),e=[.ref a,.ref b]/\H a=some (.tup xs)/\H b=some (.tup c)/\(∀z∈xs,Bg z=true)/\(∀z∈c,Bg z=true)/\∀d,AJ H d->Q (.bl (BB (c.take xs.length) xs)) d
theorem Tb {f:Addr} {d:FuncData} (F:DW K "begins" "begins" GN f d) (T:Txt mg):BG P w K mg base DC 1 f d ["one","other"] Fy:=by
 refine F.ok Og (fun n H Q E h=>?_) (fun o A outer s H n Q E e h=>?_)
 ·obtain⟨a,b,xs,g,rfl,c,i,j,k,q⟩:=h
  rfl
 ·obtain⟨a,b,xs,g,rfl,c,i,j,k,q⟩:=h
  have nd:=Og.nd
  have u:=BC e
  refine⟨_,(AI (AL (CU (Pa (Ac.GX e)) (BK CD (pv 1) Bn (BZ (Ad Aq rfl T.len PySem.boot_len (AA (pv 0) AB)))) (pv 0) (AX _)))),?_⟩
  refine⟨_,rfl,_,rfl,a,_,rfl,.inr (Ah.of c),_,rfl,b,g,rfl,i,fun p r l m=>?_⟩
  rw[Qv]at m
  exact⟨_,rfl,p,a,_,_,rfl,rfl,Ah.of m,Ah.of (l _ _ c),fun z t=>k z (List.mem_of_mem_take t),j,q r l⟩
end
end Bu
namespace Bu
open PySem L2
section
variable{P:Program} {w:World} {K:ACH} [An K] {mg:Str->Option Value} {base:Heap}
theorem Oh:Aa ["row"] ["row"] (AH GO):=⟨rfl,rfl,rfl,by decide+kernel,rfl,by decide+kernel,by decide+kernel⟩
theorem Tc {f:Addr} {e:FuncData} (F:DW K "gone_by" "gone_by" GO f e) (T:Txt mg):BG P w K mg base DC 1 f e ["row"] (Fm [.str "take",.str "change"]):=by
 refine F.ok Oh (fun j H Q E h=>?_) (fun k A outer s H j Q E l h=>?_)
 ·obtain⟨r,g,xs,zs,p,rfl,R,q⟩:=h
  rfl
 ·obtain⟨r,g,xs,zs,p,rfl,R,q⟩:=h
  have nd:=Oh.nd
  have n:=BC l
  refine⟨_,(AE (Ag (AS (DA:Dy _ _ (SE K false)) (AO (r:=Af K) AM (pv 0) AD (fun _ _=>rfl)) (A' (AA Ax (AA Ax AB))) rfl) (AI (AL (AO (r:=Af K) AM (pv 0) AD (fun _ _=>rfl)))) AQ)
   (AI (AL BE))),?_⟩
  obtain⟨a,rest,rfl,i,m⟩:=R.ex
  refine⟨_,rfl,a,_,0,.str g,rfl,rfl,Ah.of i,FU,Am,fun t c=>⟨t,_,rfl,.inr (Ah.of AF),rfl,rfl,_,rfl,?_⟩⟩
  refine Jz (fun h=>?_) (fun h=>?_)
  ·have d:∀b,AJ H b->Q (.ref p) b:=fun b s=>by
    have:=q b s
    rw[if_pos h]at this
    exact this
   exact⟨_,rfl,a,_,1,_,rfl,rfl,Ah.of (AJ.new c _ _ i),EM,d _ (AJ.new c)⟩
  ·have d:∀b,AJ H b->Q .Ao b:=fun b s=>by
    have:=q b s
    rw[h,if_neg Bool.false_ne_true]at this
    exact this
   exact d _ (AJ.new c)
end
end Bu
namespace Bu
open PySem L2
section
variable{P:Program} {w:World} {K:ACH} [An K] {mg:Str->Option Value} {base:Heap}
theorem Lr:Aa ["row"] ["row"] (AH Es):=⟨rfl,rfl,rfl,by decide+kernel,rfl,by decide+kernel,by decide+kernel⟩
theorem Qb {f:Addr} {b:FuncData} (F:DW K "moved_by" "moved_by" Es f b) (T:Txt mg):BG P w K mg base DC 1 f b ["row"] GH:=by
 refine F.ok Lr (fun e H Q E h=>?_) (fun g A outer s H e Q E i h=>?_)
 ·obtain⟨r,c,xs,zs,p,rfl,R,q⟩:=h
  rfl
 ·obtain⟨r,c,xs,zs,p,rfl,R,q⟩:=h
  have nd:=Lr.nd
  have k:=BC i
  refine⟨_,(AE (Ag (AS CP (AO (r:=Af K) AM (pv 0) AD (fun _ _=>rfl)) Ax (AX _)) (AI (AL (AO (r:=Af K) AM (pv 0) AD (fun _ _=>rfl)))) AQ)
   (AI (AL BE))),?_⟩
  obtain⟨a,rest,rfl,d,j⟩:=R.ex
  refine⟨_,rfl,a,_,0,.str c,rfl,rfl,Ah.of d,FU,rfl,_,rfl,?_⟩
  refine DZ (fun h=>?_) (fun h=>?_)
  ·rw[if_pos h]at q
   exact⟨_,rfl,a,_,1,_,rfl,rfl,Ah.of d,EM,q⟩
  ·rw[if_neg h]at q
   exact q
end
end Bu
namespace Bu
open PySem L2
section
variable{P:Program} {w:World} {K:ACH} [An K] {mg:Str->Option Value} {base:Heap}
theorem RZ:Aa ["row"] ["row"] (AH IB):=⟨rfl,rfl,rfl,by decide+kernel,rfl,by decide+kernel,by decide+kernel⟩
theorem Wr {f:Addr} {e:FuncData} (F:DW K "reads" "reads" IB f e) (T:Txt mg):BG P w K mg base DC 1 f e ["row"] (Fm [.str "ask",.str "copy"]):=by
 refine F.ok RZ (fun j H Q E h=>?_) (fun k A outer s H j Q E l h=>?_)
 ·obtain⟨r,g,xs,zs,p,rfl,R,q⟩:=h
  rfl
 ·obtain⟨r,g,xs,zs,p,rfl,R,q⟩:=h
  have nd:=RZ.nd
  have n:=BC l
  refine⟨_,(AE (Ag (AS (DA:Dy _ _ (SE K false)) (AO (r:=Af K) AM (pv 0) AD (fun _ _=>rfl)) (A' (AA Ax (AA Ax AB))) rfl) (AI (AL (AO (r:=Af K) AM (pv 0) AD (fun _ _=>rfl)))) AQ)
   (AI (AL BE))),?_⟩
  obtain⟨a,rest,rfl,i,m⟩:=R.ex
  refine⟨_,rfl,a,_,0,.str g,rfl,rfl,Ah.of i,FU,Am,fun t c=>⟨t,_,rfl,.inr (Ah.of AF),rfl,rfl,_,rfl,?_⟩⟩
  refine Jz (fun h=>?_) (fun h=>?_)
  ·have d:∀b,AJ H b->Q (.ref p) b:=fun b s=>by
    have:=q b s
    rw[if_pos h]at this
    exact this
   exact⟨_,rfl,a,_,1,_,rfl,rfl,Ah.of (AJ.new c _ _ i),EM,d _ (AJ.new c)⟩
  ·have d:∀b,AJ H b->Q .Ao b:=fun b s=>by
    have:=q b s
    rw[h,if_neg Bool.false_ne_true]at this
    exact this
   exact d _ (AJ.new c)
end
end Bu
namespace Bu
open PySem L2
section
variable{P:Program} {w:World} {K:ACH} [An K] {mg:Str->Option Value} {base:Heap}
theorem Ls:Aa ["step"] ["step"] (AH Et):=⟨rfl,rfl,rfl,by decide+kernel,rfl,by decide+kernel,by decide+kernel⟩
theorem Qc {f:Addr} {a:FuncData} (F:DW K "is_place" "is_place" Et f a) (T:Txt mg):BG P w K mg base DC 1 f a ["step"] Dg:=by
 refine F.ok Ls (fun c H Q E h=>?_) (fun d A outer s H c Q E e h=>?_)
 ·obtain⟨z,rfl,b,q⟩:=h
  rfl
 ·obtain⟨z,rfl,b,q⟩:=h
  have nd:=Ls.nd
  have g:=BC e
  refine⟨_,(AI (AL (Ox (Ad BR rfl T.isinstance Ar (AA (pv 0) (AA (CL (v:=.ty "str") rfl T.str Qy rfl) AB)))))),?_⟩
  rcases b with⟨i,rfl⟩|⟨k,rfl,_⟩
  ·exact⟨_,rfl,_,"str","int",rfl,rfl,.int _,_,rfl,q⟩
  ·exact⟨_,rfl,_,"str","str",rfl,rfl,.str _,_,rfl,q⟩
end
end Bu
namespace Bu
open PySem L2
section
variable{P:Program} {w:World} {K:ACH} [An K] {mg:Str->Option Value} {base:Heap}
theorem Ia:Aa ["path","holder"] ["path","holder"] (AH DJ):=⟨rfl,rfl,rfl,by decide+kernel,rfl,by decide+kernel,by decide+kernel⟩
theorem My {f:Addr} {Y:FuncData} (F:DW K "place_into" "place_into" DJ f Y) (T:Txt mg) (l:Df P w K mg base "begins" ["one","other"] 1 Fy) (b:Df P w K mg base "is_place" ["step"] 1 Dg):BG P w K mg base DC 2 f Y ["path","holder"] MX:=by
 obtain⟨D,G,m,n,o,t⟩:=l.ex
 obtain⟨x,y,c,d,g,i⟩:=b.ex
 refine F.ok Ia (fun vs H Q E h=>?_) (fun Iq A outer s H vs Q E L h=>?_)
 ·obtain⟨p,h,k,xs,rfl,M,N,O,Z,q⟩:=h
  rfl
 ·obtain⟨p,h,k,xs,rfl,M,N,O,Z,q⟩:=h
  have nd:=Ia.nd
  have hu:=BC L
  have j:Ac 1 _:=L.mono (by first|decide|omega)
  have a:Ac 1 _:=L.mono (by first|decide|omega)
  refine⟨_,(AE (Ag (PW.pt (pw_and (Aw (AG t j rfl o m n .nil AN (AA (pv 1) (AA (pv 0) AB)))) (pw_and (AS NS (Ad Aq rfl T.len PySem.boot_len (AA (pv 1) AB)) (Ad Aq rfl T.len PySem.boot_len (AA (pv 0) AB)) (AX _)) (pw_and1 (Aw (AG i a rfl g c d .nil AN (AA (AO (r:=Af K) AM (pv 0) (Ad Aq rfl T.len PySem.boot_len (AA (pv 1) AB)) (fun _ _=>rfl)) AB))))))) (AI (AL (AO (r:=Af K) AM (pv 0) (Ad Aq rfl T.len PySem.boot_len (AA (pv 1) AB)) (fun _ _=>rfl)))) AQ)
   (AI (AL BE))),?_⟩
  have fx:∀z∈xs,Bg z=true:=fun z R=>(Z z R).flat
  have fy:∀z∈k,Bg z=true:=fun z R=>(O z R).flat
  have no:∀I,AJ H I->(BB (k.take xs.length) xs&&decide (xs.length<k.length)&&Ot (k.getD xs.length .Ao))=false->Q .Ao I:=fun I s e=>by
   have:=q I s
   unfold J' at this
   rw[e,if_neg Bool.false_ne_true]at this
   exact this
  refine⟨_,rfl,_,rfl,h,p,xs,k,rfl,N,M,fx,fy,fun J B=>⟨_,rfl,?_⟩⟩
  have u:=B _ _ N
  have v:=B _ _ M
  refine DZ (fun S=>?_) (fun S=>BO (no J B (by rw[Bool.eq_false_iff.mpr S];rfl)))
  refine⟨_,rfl,h,_,rfl,.inr (Ah.of u),_,rfl,p,_,rfl,.inr (Ah.of v),_,_,rfl,rfl,_,rfl,?_⟩
  refine DZ (fun U=>?_) (fun U=>BO (no J B ?_))
  ·have C:xs.length<k.length:=by have:=of_decide_eq_true U;omega
   have V:k[xs.length]?=some k[xs.length]:=ACD C
   have gd:k.getD xs.length .Ao=k[xs.length]:=by rw[List.getD_eq_getElem?_getD,V];rfl
   refine⟨_,rfl,_,rfl,h,_,rfl,.inr (Ah.of u),p,_,_,_,rfl,rfl,Ah.of v,CM V,_,rfl,O _ (List.getElem_mem C),_,rfl,?_⟩
   refine DZ (fun X=>?_) (fun X=>no J B ?_)
   ·refine⟨_,rfl,_,rfl,h,_,rfl,.inr (Ah.of u),p,_,_,_,rfl,rfl,Ah.of v,CM V,?_⟩
    have:=q J B
    unfold J' at this
    rw[gd,S,decide_eq_true C,X,Bool.and_self,Bool.and_self,if_pos rfl]at this
    exact this
   ·rw[gd,Bool.eq_false_iff.mpr X,Bool.and_false]
  ·have C:¬xs.length<k.length:=fun C=>U (decide_eq_true (by omega))
   rw[decide_eq_false C,Bool.and_false,Bool.false_and]
end
end Bu
namespace Bu
open PySem L2
section
variable{P:Program} {w:World} {K:ACH} [An K] {mg:Str->Option Value} {base:Heap}
theorem Ib:Aa ["path","holder","place"] ["path","holder","place"] (AH DK):=⟨rfl,rfl,rfl,by decide+kernel,rfl,by decide+kernel,by decide+kernel⟩
theorem Mz {f:Addr} {l:FuncData} (F:DW K "with_place" "with_place" DK f l) (T:Txt mg):BG P w K mg base DC 1 f l ["path","holder","place"] MY:=by
 refine F.ok Ib (fun r H Q E h=>?_) (fun u A outer s H r Q E v h=>?_)
 ·obtain⟨p,h,b,xs,i,rfl,m,d,x,y,q⟩:=h
  rfl
 ·obtain⟨p,h,b,xs,i,rfl,m,d,x,y,q⟩:=h
  have nd:=Ib.nd
  have J:=BC v
  refine⟨_,(AI (AL (AZ FA (AZ FA (pv 1) (A' (AA (pv 2) AB))) (BK CD (pv 0) (BZ (AZ BY (Ad Aq rfl T.len PySem.boot_len (AA (pv 1) AB)) AD)) Bn)))),?_⟩
  refine⟨_,rfl,_,rfl,Fi,fun t z=>?_⟩
  have c:=AJ.new (o:=.tup [.int i]) z
  refine⟨h,t,_,_,rfl,rfl,c _ _ d,AF,Az (show xs.length+1<=1000 by omega),fun B L g j=>?_⟩
  refine⟨_,rfl,_,rfl,h,_,rfl,.inr (Ah.of (g _ _ (c _ _ d))),_,_,rfl,rfl,_,rfl,p,_,rfl,g _ _ (c _ _ m),fun C M n a=>?_⟩
  have e:FY b (some ((xs.length:Int)+1)) none=b.drop (xs.length+1):=by
   have:=Hn b (xs.length+1)
   simpa using this
  rw[e]at a
  refine⟨B,C,_,_,rfl,rfl,n _ _ j,a,Az (by simp only[List.length_append,List.length_cons,List.length_nil,List.length_drop];omega),fun D G I k=>q D G (((c.trans g).trans n).trans I) k⟩
end
end Bu
namespace Bu
open PySem L2
section
variable{P:Program} {w:World} {K:ACH} [An K] {mg:Str->Option Value} {base:Heap}
theorem FR:Aa ["to","path","holder","place"] ["to","path"] (AH B'):=⟨rfl,rfl,rfl,by decide+kernel,rfl,by decide+kernel,by decide+kernel⟩
theorem IH {f:Addr} {fd:FuncData} (F:DW K "ahead_of_taking" "ahead_of_taking" B' f fd) (T:Txt mg) (G:Df P w K mg base "is_place" ["step"] 1 Dg) (l:Df P w K mg base "place_into" ["path","holder"] 2 MX) (m:Df P w K mg base "with_place" ["path","holder","place"] 1 MY):BG P w K mg base DC 3 f fd ["to","path"] KD:=by
 obtain⟨Z,Oi,I,J,L,M⟩:=G.ex
 obtain⟨S,U,n,o,u,v⟩:=l.ex
 obtain⟨X,Y,x,y,B,C⟩:=m.ex
 refine F.ok FR (fun vs H Q E h=>?_) (fun Iq A outer s H vs Q E hr h=>?_)
 ·obtain⟨t,p,zs,xs,rfl,ht,hp,nx,sz,sx,lz,lx,q⟩:=h
  rfl
 ·obtain⟨t,p,zs,xs,rfl,ht,hp,nx,sz,sx,lz,lx,q⟩:=h
  have nd:=FR.nd
  have hu:=BC hr
  have D:Ac 1 _:=hr.mono (by first|decide|omega)
  have a:Ac 2 _:=hr.mono (by first|decide|omega)
  have b:Ac 1 _:=hr.mono (by first|decide|omega)
  refine⟨_,(AE (AV (i:=2) nd rfl (Or.inl rfl) (BK CD (pv 1) Bn (BZ (CG BV AD))))
   (AE (AV (i:=3) nd rfl (Or.inl rfl) (AG v a rfl u n o .nil AN (AA (pv 0) (AA (pv 2) AB))))
   (AE (Ag (PW.pt (pw_or (AS GV (pv 3) BE (AX _)) (pw_or (E_ (Aw (AG M D rfl L I J .nil AN (AA (AO (r:=Af K) AM (pv 1) (CG BV AD) (fun _ _=>rfl)) AB)))) (pw_or1 (AS NS (pv 3) (AO (r:=Af K) AM (pv 1) (CG BV AD) (fun _ _=>rfl)) (AX _)))))) (AI (AL (pv 0))) AQ)
   (AE (Ag (PW.pt (pw_and (AS CP (pv 3) (AO (r:=Af K) AM (pv 1) (CG BV AD) (fun _ _=>rfl)) (AX _)) (pw_and1 (AS CP (Ad Aq rfl T.len PySem.boot_len (AA (pv 0) AB)) (Ad Aq rfl T.len PySem.boot_len (AA (pv 1) AB)) (AX _))))) (AI (AL (pv 0))) AQ)
   (AI (AL (AG C b rfl B x y .nil AN (AA (pv 0) (AA (pv 2) (AA (AZ BY (pv 3) AD) AB)))))))))),?_⟩
  obtain⟨d,lv,rfl⟩:∃d lv,xs=d++[lv]:=⟨xs.dropLast,xs.getLast nx,(List.dropLast_concat_getLast nx).symm⟩
  have su:steps d:=fun z hz=>sx z (List.mem_append_left _ hz)
  have sl:Dc.As lv:=sx lv (by simp)
  refine⟨_,rfl,_,rfl,_,rfl,p,_,rfl,hp,fun h H1 s1 hh=>?_⟩
  rw[By]at hh
  refine⟨_,rfl,_,rfl,t,h,zs,d,rfl,s1 _ _ ht,hh,sz,su,fun H2 s2=>?_⟩
  have N:=s1.trans s2
  have O:=N _ _ ht
  have R:=N _ _ hp
  have kC:=s2 _ _ hh
  have lu:d.length<=400:=by simp only[List.length_append,List.length_cons,List.length_nil]at lx;omega
  have keep:CQ zs (d++[lv])=zs->Q (.ref t) H2:=fun e=>q t H2 N (by rw[e];exact O)
  cases hb:(BB (zs.take d.length) d&&decide (d.length<zs.length)&&Ot (zs.getD d.length .Ao))with
  |false=>
   rw[LY hb]
   exact⟨_,rfl,rfl,_,rfl,Bj rfl (BF ⟨_,rfl,keep (KC hb)⟩)⟩
  |true=>
  obtain⟨i,g,e,b1,b2⟩:=LX sz hb
  rw[e]
  refine⟨_,rfl,rfl,_,rfl,BM rfl ?_⟩
  refine⟨_,rfl,_,rfl,p,_,_,_,rfl,rfl,Ah.of R,Bo d lv,_,rfl,sl,_,rfl,?_⟩
  rcases sl with⟨j,rfl⟩|⟨k,rfl,_⟩
  ·refine BO ?_
   refine⟨_,rfl,_,rfl,_,rfl,p,_,_,_,rfl,rfl,Ah.of R,Bo d _,_,_,rfl,rfl,_,rfl,?_⟩
   have ea:=LZ (j:=(j:Int)) g b1
   refine DZ (fun c1=>⟨_,rfl,keep (by rw[ea];exact if_neg (by have:=of_decide_eq_true c1;omega))⟩) (fun c1=>?_)
   have n1:¬(i:Int)<(j:Int):=fun z=>c1 (decide_eq_true z)
   have go:((j:Int)<(i:Int)∨((i:Int)=(j:Int)/\d.length+1<zs.length))->∀q' H3,AJ H2 H3->H3 q'=some (.tup (d++[.int ((i:Int)+1)]++zs.drop (d.length+1)))->Q (.ref q') H3:=fun c q' H3 s3 hq=>by
    refine q q' H3 (N.trans s3) ?_
    rw[ea,if_pos c,<-CW (Eh (fun z hz=>sz z (List.mem_of_mem_take hz)) su b1) b2]
    exact hq
   refine⟨_,rfl,_,rfl,_,rfl,p,_,_,_,rfl,rfl,Ah.of R,Bo d _,rfl,_,rfl,?_⟩
   refine DZ (fun c2=>?_) (fun c2=>BO ?_)
   ·have e2:(i:Int)=(j:Int):=by have:=of_decide_eq_true c2;exact V.int.inj this
    refine⟨_,rfl,t,_,rfl,.inr (Ah.of O),_,rfl,p,_,rfl,.inr (Ah.of R),rfl,_,rfl,?_⟩
    refine DZ (fun c3=>⟨_,rfl,keep ?_⟩) (fun c3=>?_)
    ·have:=V.int.inj (of_decide_eq_true c3)
     simp only[List.length_append,List.length_cons,List.length_nil]at this
     rw[ea]
     exact if_neg (by omega)
    ·refine⟨_,rfl,_,rfl,_,rfl,_,_,rfl,rfl,t,h,zs,d,_,rfl,O,kC,lz,lu,go (.inr ⟨e2,?_⟩)⟩
     have:¬((zs.length:Nat):Int)=(((d++[V.int (j:Int)]).length:Nat):Int):=fun z=>c3 (decide_eq_true (congrArg V.int z))
     simp only[List.length_append,List.length_cons,List.length_nil]at this
     omega
   ·have n2:¬(i:Int)=(j:Int):=fun z=>c2 (decide_eq_true (congrArg V.int z))
    exact⟨_,rfl,_,rfl,_,rfl,_,_,rfl,rfl,t,h,zs,d,_,rfl,O,kC,lz,lu,go (.inl (by omega))⟩
  ·exact BF (BF ⟨_,rfl,keep Sz⟩)
end
end Bu
namespace Bu
open PySem L2
section
variable{P:Program} {w:World} {K:ACH} [An K] {mg:Str->Option Value} {base:Heap}
theorem Lu:Aa ["row","to"] ["row"] (AH Eu):=⟨rfl,rfl,rfl,by decide+kernel,rfl,by decide+kernel,by decide+kernel⟩
theorem Qd {tC:Addr} {f:Addr} {Z:FuncData} (F:DW K "comes_to" "comes_to" Eu f Z) (T:Txt mg) (c:Df P w K mg base "ahead_of_taking" ["to","path"] 3 KD) (mC:mg "WORDS_OF_COMING"=some (.ref tC)) (hC:Pw K tC HL=true):BG P w K mg base DC 4 f Z ["row"] FE:=by
 obtain⟨n,o,d,g,j,k⟩:=c.ex
 refine F.ok Lu (fun vs H Q E h=>?_) (fun Iq A outer s H vs Q E hr h=>?_)
 ·obtain⟨r,L,xs,zs,p,rfl,R,q⟩:=h
  rfl
 ·obtain⟨r,L,xs,zs,p,rfl,R,q⟩:=h
  have nd:=Lu.nd
  have hu:=BC hr
  have b:Ac 3 _:=hr.mono (by first|decide|omega)
  refine⟨_,(AE (Ag (AS (E':Dy _ _ (SE K true)) (AO (r:=Af K) AM (pv 0) AD (fun _ _=>rfl)) (L' (v:=.ref tC) rfl mC rfl) rfl) (AI (AL BE)) AQ)
   (AE (AV (i:=1) nd rfl (Or.inl rfl) (AO (r:=Af K) AM (pv 0) AD (fun _ _=>rfl)))
   (AE (Ag (AS CP (AO (r:=Af K) AM (pv 0) AD (fun _ _=>rfl)) Ax (AX _)) (AI (AV (i:=1) nd rfl (Or.inl rfl) (AO (r:=Af K) AM (pv 0) AD (fun _ _=>rfl)))) AQ)
   (AE (Ag (AS CP (AO (r:=Af K) AM (pv 0) AD (fun _ _=>rfl)) Ax (AX _)) (AI (AV (i:=1) nd rfl (Or.inl rfl) (AG k b rfl j d g .nil AN (AA (AO (r:=Af K) AM (pv 0) AD (fun _ _=>rfl)) (AA (AO (r:=Af K) AM (pv 0) AD (fun _ _=>rfl)) AB))))) AQ)
   (AI (AL (A' (AA (BK CD (pv 1) Bn (BZ (CG BV AD))) (AA (AO (r:=Af K) AM (pv 1) (CG BV AD) (fun _ _=>rfl)) AB))))))))),?_⟩
  obtain⟨a,rest,rfl,u,M⟩:=R.ex
  refine⟨_,rfl,a,_,0,.str L,rfl,rfl,Ah.of u,FU,tC,_,rfl,.inr (Ah.mI hC H),rfl,rfl,_,rfl,?_⟩
  refine gp (fun h=>?_) (fun h=>?_)
  ·refine q .Ao H (AJ.refl _) ?_
   unfold OI
   rw[if_neg (by rw[Bool.not_eq_true']at h;rw[h];exact Bool.false_ne_true)]
  have hc:Cs (.str L) Bv=true:=by
   cases hh:Cs (.str L) Bv with
   |true=>rfl
   |false=>rw[hh]at h;cases h
  have fin:∀(O:Hp),AJ H O->∀x B,AJ O x->x B=some (.tup (Cr L xs zs).dropLast)->∀t,x t=none->∀l,(Cr L xs zs).getLast?=some l->Q (.ref t) (upd x t (.tup [.ref B,l])):=fun O U x B C h2 t G l X=>by
   refine q _ _ ((U.trans C).trans (AJ.new G)) ?_
   unfold OI
   rw[if_pos hc]
   exact⟨t,B,l,rfl,AF,AJ.new G _ _ h2,X⟩
  have J:∀N:List V,N≠[]->∃D l,N=D++[l]:=fun N h=>⟨N.dropLast,N.getLast h,(List.dropLast_concat_getLast h).symm⟩
  refine⟨_,rfl,a,_,1,_,rfl,rfl,Ah.of u,EM,?_⟩
  rcases yd hc with rfl|rfl|rfl
  ·have eP:Cr "put" xs zs=xs:=rfl
   obtain⟨D,l,e⟩:=J xs (R.nx (.inl rfl))
   have I:Cr "put" xs zs=D++[l]:=eP.trans e
   have hp:=R.hp
   rw[e]at hp
   exact⟨_,rfl,a,_,0,_,rfl,rfl,Ah.of u,FU,rfl,_,rfl,BM (by decide) ⟨_,rfl,a,_,0,_,rfl,rfl,Ah.of u,FU,rfl,_,rfl,BM (by decide) ⟨_,rfl,_,rfl,_,rfl,p,_,rfl,hp,fun B x C m=>⟨_,rfl,_,rfl,p,_,_,_,rfl,rfl,Ah.of (C _ _ hp),Bo D l,Am,fun t G=>fin _ (AJ.refl _) x B C (by rw[By]at m;rw[I,List.dropLast_concat];exact m) t G l (by rw[I];simp)⟩⟩⟩⟩
  ·obtain⟨S,rfl,y⟩:=M (.inl rfl)
   have eP:Cr "copy" xs zs=zs:=rfl
   obtain⟨D,l,e⟩:=J zs (R.nz (.inl rfl))
   have I:Cr "copy" xs zs=D++[l]:=eP.trans e
   rw[e]at y
   exact⟨_,rfl,a,_,0,_,rfl,rfl,Ah.of u,FU,rfl,_,rfl,Bj (by decide) ⟨_,rfl,a,_,2,_,rfl,rfl,Ah.of u,at2,⟨_,rfl,a,_,0,_,rfl,rfl,Ah.of u,FU,rfl,_,rfl,BM (by decide) ⟨_,rfl,_,rfl,_,rfl,S,_,rfl,y,fun B x C m=>⟨_,rfl,_,rfl,S,_,_,_,rfl,rfl,Ah.of (C _ _ y),Bo D l,Am,fun t G=>fin _ (AJ.refl _) x B C (by rw[By]at m;rw[I,List.dropLast_concat];exact m) t G l (by rw[I];simp)⟩⟩⟩⟩⟩
  ·obtain⟨S,rfl,y⟩:=M (.inr rfl)
   have eP:Cr "move" xs zs=CQ zs xs:=rfl
   have lz:=R.lz
   have lx:=R.lx
   obtain⟨D,l,e⟩:=J (CQ zs xs) (fun z=>R.nz (.inr rfl) (List.eq_nil_of_length_eq_zero (by rw[<-Cv zs xs,z];rfl)))
   have I:Cr "move" xs zs=D++[l]:=eP.trans e
   refine⟨_,rfl,a,_,0,_,rfl,rfl,Ah.of u,FU,rfl,_,rfl,BM (by decide) ⟨_,rfl,a,_,0,_,rfl,rfl,Ah.of u,FU,rfl,_,rfl,Bj (by decide) ⟨_,rfl,a,_,2,_,rfl,rfl,Ah.of u,at2,_,rfl,a,_,1,_,rfl,rfl,Ah.of u,EM,S,p,zs,xs,rfl,y,R.hp,R.nx (.inr (.inr (.inr rfl))),R.sz,R.sx,by omega,by omega,fun q1 O U Y=>?_⟩⟩⟩
   rw[e]at Y
   exact⟨_,rfl,_,rfl,_,rfl,q1,_,rfl,Y,fun B x C m=>⟨_,rfl,_,rfl,q1,_,_,_,rfl,rfl,Ah.of (C _ _ Y),Bo D l,Am,fun t G=>fin _ U x B C (by rw[By]at m;rw[I,List.dropLast_concat];exact m) t G l (by rw[I];simp)⟩⟩
end
end Bu
namespace Bu
open PySem L2
section
variable{P:Program} {w:World} {K:ACH} [An K] {mg:Str->Option Value} {base:Heap}
theorem Ra:Aa ["row","told"] ["row"] (AH IC):=⟨rfl,rfl,rfl,by decide+kernel,rfl,by decide+kernel,by decide+kernel⟩
theorem Ws {tC L:Addr} {f:Addr} {Z:FuncData} (F:DW K "needs" "needs" IC f Z) (T:Txt mg) (c:Df P w K mg base "comes_to" ["row"] 4 FE) (mC:mg "WORDS_OF_COMING"=some (.ref tC)) (hC:Pw K tC HL=true) (mP:mg "WORDS_OF_PARTS"=some (.ref L)) (hP:Pw K L MZ=true):BG P w K mg base DC 5 f Z ["row"] JD:=by
 obtain⟨u,x,d,g,j,k⟩:=c.ex
 refine F.ok Ra (fun vs H Q E h=>?_) (fun Iq A outer s H vs Q E hr h=>?_)
 ·obtain⟨r,m,xs,zs,p,rfl,R,q⟩:=h
  rfl
 ·obtain⟨r,m,xs,zs,p,rfl,R,q⟩:=h
  have nd:=Ra.nd
  have hu:=BC hr
  have b:Ac 4 _:=hr.mono (by first|decide|omega)
  refine⟨_,(AE (AV (i:=1) nd rfl (Or.inl rfl) (EI AB))
   (AE (Ag (AS (DA:Dy _ _ (SE K false)) (AO (r:=Af K) AM (pv 0) AD (fun _ _=>rfl)) (L' (v:=.ref L) rfl mP rfl) rfl) (AI (Dw (Fb PySem.F.plainAttrs_list PySem.F.slot_list_append PySem.F.type_list_append Ce (pv 1) (AA (AO (r:=Af K) AM (pv 0) AD (fun _ _=>rfl)) AB)))) AQ)
   (AE (Ag (AS CP (AO (r:=Af K) AM (pv 0) AD (fun _ _=>rfl)) Ax (AX _)) (AI (Dw (Fb PySem.F.plainAttrs_list PySem.F.slot_list_append PySem.F.type_list_append Ce (pv 1) (AA (BK CD (AO (r:=Af K) AM (pv 0) AD (fun _ _=>rfl)) Bn (BZ (CG BV AD))) AB)))) AQ)
   (AE (Ag (AS (DA:Dy _ _ (SE K false)) (AO (r:=Af K) AM (pv 0) AD (fun _ _=>rfl)) (L' (v:=.ref tC) rfl mC rfl) rfl) (AI (Dw (Fb PySem.F.plainAttrs_list PySem.F.slot_list_append PySem.F.type_list_append Ce (pv 1) (AA (AO (r:=Af K) AM (AG k b rfl j d g .nil AN (AA (pv 0) AB)) AD (fun _ _=>rfl)) AB)))) AQ)
   (AI (AL (pv 1))))))),?_⟩
  obtain⟨a,rest,rfl,M,cw⟩:=R.ex
  refine⟨Nat.zero_le _,fun l hl=>?_⟩
  have y:Nd H (upd H l (.lst [])) l [] []:=⟨AJ.new hl,hl,AF,.nil⟩
  dsimp only[Dm]
  refine VC (t:=NQ _ _ _) (fun N=>∃B,Nd H N l B (nA m xs)) (fun H1 ⟨B,C⟩=>?_) (fun n=>?_)
  rotate_left
  ·have D:=y.same _ _ M
   refine⟨_,rfl,a,_,0,.str m,rfl,rfl,Ah.of D,FU,L,_,rfl,.inr (Ah.mI hP _),rfl,rfl,_,rfl,?_⟩
   refine Jz (fun h=>?_) (fun h=>n _ ⟨[],by unfold nA;rw[h,if_neg Bool.false_ne_true];exact y⟩)
   refine⟨_,rfl,.inl ⟨rfl,_,Bd.of y.hl⟩,_,rfl,a,_,1,_,rfl,rfl,Ah.of D,EM,l,_,_,rfl,rfl,y.hl,by decide,n _ ⟨[p],?_⟩⟩
   unfold nA
   rw[h,if_pos rfl]
   exact y.push (y.same _ _ R.hp)
  refine VC (t:=NQ _ _ _) (fun N=>∃B,Nd H N l B (nA m xs++nB m xs)) (fun H2 ⟨G,o⟩=>?_) (fun n=>?_)
  rotate_left
  ·have I:=C.same _ _ M
   have lA:(nA m xs).length<=1:=by unfold nA;split<;>simp
   have lp:=C.tu.length
   refine⟨_,rfl,a,_,0,.str m,rfl,rfl,Ah.of I,FU,rfl,_,rfl,?_⟩
   refine DZ (fun h=>?_) (fun h=>n _ ⟨B,by unfold nB;rw[if_neg (fun z=>h (by rw[z];rfl)),List.append_nil];exact C⟩)
   have hw:m="lacks":=V.str.inj (of_decide_eq_true h)
   obtain⟨O,S,e⟩:∃O S,xs=O++[S]:=⟨xs.dropLast,xs.getLast (R.nx (.inr (.inl hw))),(List.dropLast_concat_getLast _).symm⟩
   refine⟨_,rfl,.inl ⟨rfl,_,Bd.of C.hl⟩,_,rfl,a,_,1,_,rfl,rfl,Ah.of I,EM,_,rfl,_,rfl,p,_,rfl,C.same _ _ R.hp,fun p2 H2 s2 J=>?_⟩
   have o:=C.up s2
   rw[e,By]at J
   refine⟨l,_,_,rfl,rfl,o.hl,BQ (by rw[List.length_map];omega),n _ ⟨B++[p2],?_⟩⟩
   have eb:nB m xs=[O]:=by unfold nB;rw[if_pos hw,e,List.dropLast_concat]
   rw[eb]
   exact o.push J
  have U:=o.same _ _ M
  have R2:=R.up o.same
  have lA:(nA m xs++nB m xs).length<=2:=by
   rw[List.length_append]
   unfold nA nB
   split<;>split<;>simp
  have lp:=o.tu.length
  refine⟨_,rfl,a,_,0,.str m,rfl,rfl,Ah.of U,FU,tC,_,rfl,.inr (Ah.mI hC _),rfl,rfl,_,rfl,?_⟩
  refine Jz (fun h=>?_) (fun h=>⟨_,rfl,q l G H2 o.same hl o.hl (by unfold CK nC;rw[h,if_neg Bool.false_ne_true,List.append_nil];exact o.tu)⟩)
  refine⟨_,rfl,.inl ⟨rfl,_,Bd.of o.hl⟩,_,rfl,_,m,xs,zs,p,rfl,R2,fun v H3 s3 X=>?_⟩
  unfold OI at X
  rw[if_pos h]at X
  obtain⟨t,h3,S,rfl,ht,hh,_⟩:=X
  have N3:=o.up s3
  refine⟨t,_,0,_,rfl,rfl,Ah.of ht,FU,l,_,_,rfl,rfl,N3.hl,BQ (by rw[List.length_map];omega),_,rfl,?_⟩
  have Y:=N3.push hh
  refine q l (G++[h3]) _ Y.same hl Y.hl ?_
  unfold CK nC
  rw[h,if_pos rfl]
  exact Y.tu
end
end Bu
namespace Bu
open PySem L2
section
variable{P:Program} {w:World} {K:ACH} [An K] {mg:Str->Option Value} {base:Heap}
theorem Wt:Aa ["row","coming"] ["row"] (AH Lk):=⟨rfl,rfl,rfl,by decide+kernel,rfl,by decide+kernel,by decide+kernel⟩
theorem ZC {f:Addr} {fd:FuncData} (F:DW K "bars" "bars" Lk f fd) (T:Txt mg) (d:Df P w K mg base "is_place" ["step"] 1 Dg) (g:Df P w K mg base "comes_to" ["row"] 4 FE):BG P w K mg base DC 5 f fd ["row"] Ma:=by
 obtain⟨G,I,j,k,l,o⟩:=d.ex
 obtain⟨J,L,u,x,y,B⟩:=g.ex
 refine F.ok Wt (fun vs H Q E h=>?_) (fun Iq A outer s H vs Q E U h=>?_)
 ·obtain⟨r,C,xs,zs,p,rfl,R,q⟩:=h
  rfl
 ·obtain⟨r,C,xs,zs,p,rfl,R,q⟩:=h
  have nd:=Wt.nd
  have hu:=BC U
  have b:Ac 1 _:=U.mono (by first|decide|omega)
  have c:Ac 4 _:=U.mono (by first|decide|omega)
  refine⟨_,(AE (Ag (AS CP (AO (r:=Af K) AM (pv 0) AD (fun _ _=>rfl)) Ax (AX _)) (AI (AL (A' (AA (BK CD (AO (r:=Af K) AM (pv 0) AD (fun _ _=>rfl)) Bn (BZ (CG BV AD))) (AA (AO (r:=Af K) AM (AO (r:=Af K) AM (pv 0) AD (fun _ _=>rfl)) (CG BV AD) (fun _ _=>rfl)) AB))))) AQ)
   (AE (AV (i:=1) nd rfl (Or.inl rfl) (AG B c rfl y u x .nil AN (AA (pv 0) AB)))
   (AE (Ag (PW.pt (pw_or (AS GV (pv 1) BE (AX _)) (pw_or1 (Aw (AG o b rfl l j k .nil AN (AA (AO (r:=Af K) AM (pv 1) AD (fun _ _=>rfl)) AB)))))) (AI (AL BE)) AQ)
   (AI (AL (pv 1)))))),?_⟩
  obtain⟨a,rest,rfl,X,cw⟩:=R.ex
  refine⟨_,rfl,a,_,0,.str C,rfl,rfl,Ah.of X,FU,rfl,_,rfl,?_⟩
  refine DZ (fun h=>?_) (fun h=>?_)
  ·have hw:C="lacks":=V.str.inj (of_decide_eq_true h)
   obtain⟨Y,D,e⟩:∃Y D,xs=Y++[D]:=⟨xs.dropLast,xs.getLast (R.nx (.inr (.inl hw))),(List.dropLast_concat_getLast _).symm⟩
   have hp:=R.hp
   rw[e]at hp
   refine⟨_,rfl,a,_,1,_,rfl,rfl,Ah.of X,EM,_,rfl,_,rfl,p,_,rfl,hp,fun p2 H2 Z M=>?_⟩
   rw[By]at M
   refine⟨_,rfl,a,_,1,_,rfl,rfl,Ah.of (Z _ _ X),EM,_,rfl,p,_,_,_,rfl,rfl,Ah.of (Z _ _ hp),Bo Y D,Am,fun t N=>q _ _ (Z.trans (AJ.new N)) ?_⟩
   unfold S_
   rw[if_pos hw]
   exact⟨t,p2,D,rfl,AF,by rw[e,List.dropLast_concat];exact AJ.new N _ _ M,by rw[e];simp⟩
  have nw:¬C="lacks":=fun z=>h (by rw[z];rfl)
  refine⟨_,rfl,_,C,xs,zs,p,rfl,R,fun v H3 s3 O=>?_⟩
  unfold OI at O
  have no:∀(Hx:Hp),AJ H Hx->¬(Cs (.str C) Bv=true/\Ot ((Cr C xs zs).getLastD .Ao)=false)->Q .Ao Hx:=fun Hx sx n=>q _ _ sx (by unfold S_;rw[if_neg nw,if_neg n])
  by_cases S:Cs (.str C) Bv=true
  ·rw[if_pos S]at O
   obtain⟨t,h3,D,rfl,N,hh,hg⟩:=O
   have gl:(Cr C xs zs).getLastD .Ao=D:=by rw[List.getLastD_eq_getLast?,hg];rfl
   have sv:Dc.As D:=by
    have m:D∈Cr C xs zs:=List.mem_of_getLast? hg
    unfold Cr at m
    split at m
    ·exact R.sz _ m
    ·split at m
     ·exact IT R.sz _ m
     ·exact R.sx _ m
   refine⟨_,rfl,rfl,_,rfl,BM rfl ⟨_,rfl,t,_,1,_,rfl,rfl,Ah.of N,EM,_,rfl,sv,_,rfl,?_⟩⟩
   refine gq (fun pl=>no H3 s3 (fun z=>by rw[gl,pl]at z;cases z.2)) (fun pl=>⟨_,rfl,q _ _ s3 ?_⟩)
   unfold S_
   rw[if_neg nw,if_pos ⟨S,by rw[gl];exact pl⟩]
   exact⟨t,h3,D,rfl,N,hh,hg⟩
  ·rw[if_neg S]at O
   subst O
   exact⟨_,rfl,rfl,_,rfl,Bj rfl (BF (no H3 s3 fun z=>S z.1))⟩
end
end Bu
namespace Bu
open PySem L2
section
variable{P:Program} {w:World} {K:ACH} [An K] {mg:Str->Option Value} {base:Heap}
theorem Oj:Aa ["row"] ["row"] (AH GP):=⟨rfl,rfl,rfl,by decide+kernel,rfl,by decide+kernel,by decide+kernel⟩
theorem Td {f:Addr} {e:FuncData} (F:DW K "leaves" "leaves" GP f e) (T:Txt mg):BG P w K mg base DC 1 f e ["row"] (Fm [.str "take",.str "move"]):=by
 refine F.ok Oj (fun j H Q E h=>?_) (fun k A outer s H j Q E l h=>?_)
 ·obtain⟨r,g,xs,zs,p,rfl,R,q⟩:=h
  rfl
 ·obtain⟨r,g,xs,zs,p,rfl,R,q⟩:=h
  have nd:=Oj.nd
  have n:=BC l
  refine⟨_,(AE (Ag (AS (DA:Dy _ _ (SE K false)) (AO (r:=Af K) AM (pv 0) AD (fun _ _=>rfl)) (A' (AA Ax (AA Ax AB))) rfl) (AI (AL (AO (r:=Af K) AM (pv 0) AD (fun _ _=>rfl)))) AQ)
   (AI (AL BE))),?_⟩
  obtain⟨a,rest,rfl,i,m⟩:=R.ex
  refine⟨_,rfl,a,_,0,.str g,rfl,rfl,Ah.of i,FU,Am,fun t c=>⟨t,_,rfl,.inr (Ah.of AF),rfl,rfl,_,rfl,?_⟩⟩
  refine Jz (fun h=>?_) (fun h=>?_)
  ·have d:∀b,AJ H b->Q (.ref p) b:=fun b s=>by
    have:=q b s
    rw[if_pos h]at this
    exact this
   exact⟨_,rfl,a,_,1,_,rfl,rfl,Ah.of (AJ.new c _ _ i),EM,d _ (AJ.new c)⟩
  ·have d:∀b,AJ H b->Q .Ao b:=fun b s=>by
    have:=q b s
    rw[h,if_neg Bool.false_ne_true]at this
    exact this
   exact d _ (AJ.new c)
end
end Bu
namespace Bu
open PySem L2
section
variable{P:Program} {w:World} {K:ACH} [An K] {mg:Str->Option Value} {base:Heap}
theorem GS:Aa ["holder","place","row","ahead","told","gone","coming"] ["holder","place","row","ahead"] (AH CY):=⟨rfl,rfl,rfl,by decide+kernel,rfl,by decide+kernel,by decide+kernel⟩
theorem Kf {f:Addr} {fd:FuncData} (F:DW K "place_behind" "place_behind" CY f fd) (T:Txt mg) (u:Df P w K mg base "is_place" ["step"] 1 Dg) (x:Df P w K mg base "comes_to" ["row"] 4 FE) (J:Df P w K mg base "leaves" ["row"] 1 (Fm [.str "take",.str "move"])):BG P w K mg base DC 5 f fd ["holder","place","row","ahead"] JF:=by
 obtain⟨Wu,Oi,b,d,l,m⟩:=u.ex
 obtain⟨Wv,Ww,y,B,C,D⟩:=x.ex
 obtain⟨kD,kE,L,M,N,O⟩:=J.ex
 refine F.ok GS (fun vs H Q E h=>?_) (fun Iq A outer s H vs Q E hr h=>?_)
 ·obtain⟨h,I,i,r,n,xs,zs,p,ah,rfl,hh,sh,R,q⟩:=h
  rfl
 ·obtain⟨h,I,i,r,n,xs,zs,p,ah,rfl,hh,sh,R,q⟩:=h
  have nd:=GS.nd
  have hu:=BC hr
  have a:Ac 1 _:=hr.mono (by first|decide|omega)
  have o:Ac 4 _:=hr.mono (by first|decide|omega)
  have G:Ac 1 _:=hr.mono (by first|decide|omega)
  refine⟨_,(AE (AV (i:=4) nd rfl (Or.inl rfl) (pv 1))
   (AE (AV (i:=5) nd rfl (Or.inl rfl) (AG O G rfl N L M .nil AN (AA (pv 2) AB)))
   (AE (Ag (PW.pt (pw_and (AS D_ (pv 5) BE (AX _)) (pw_and (AS (Pa (Ac.GX hr)) (BK CD (pv 5) Bn (BZ (CG BV AD))) (pv 0) (AX _)) (pw_and (Aw (AG m a rfl l b d .nil AN (AA (AO (r:=Af K) AM (pv 5) (CG BV AD) (fun _ _=>rfl)) AB))) (pw_and1 (AS NS (AO (r:=Af K) AM (pv 5) (CG BV AD) (fun _ _=>rfl)) (pv 1) (AX _))))))) (AI (AV (i:=4) nd rfl (Or.inl rfl) (AZ JQ (pv 4) AD))) AQ)
   (AE (AV (i:=6) nd rfl (Or.inl rfl) (AG D o rfl C y B .nil AN (AA (pv 2) AB)))
   (AE (Ag (PW.pt (pw_or (AS GV (pv 6) BE (AX _)) (pw_or (AS (Vc (Ac.GX hr)) (AO (r:=Af K) AM (pv 6) AD (fun _ _=>rfl)) (pv 0) (AX _)) (pw_or1 (E_ (Aw (AG m a rfl l b d .nil AN (AA (AO (r:=Af K) AM (pv 6) AD (fun _ _=>rfl)) AB)))))))) (AI (AL (pv 4))) AQ)
   (AE (Ag (PW.pt (pw_or (AS NS (AO (r:=Af K) AM (pv 6) AD (fun _ _=>rfl)) (pv 1) (AX _)) (pw_or1 (PW.pt (pw_and (Aw (pv 3)) (pw_and1 (AS CP (AO (r:=Af K) AM (pv 6) AD (fun _ _=>rfl)) (pv 1) (AX _)))))))) (AI (AL (AZ BY (pv 4) AD))) AQ)
   (AI (AL (pv 4))))))))),?_⟩
  refine⟨_,rfl,_,rfl,r,n,xs,zs,p,rfl,R,fun H1 s1=>?_⟩
  have R1:=R.up s1
  have zJ:=s1 _ _ hh
  dsimp only[Dm]
  refine J_ (t:=NQ _ _ _) (fun σ H'=>AJ H H'/\∃g,σ=[some (.ref h),some (.int i),some r,some (.bl ah),some (.int (CI I i n xs)),g,none]) (fun σ' H' z=>?_) (fun k=>?_)
  ·obtain⟨S,g,rfl⟩:=z
   refine⟨_,rfl,r,n,xs,zs,p,rfl,R.up S,fun v H3 s3 cm=>?_⟩
   have zK:=s3 _ _ (S _ _ hh)
   unfold OI at cm
   have no:∀Z,AJ H Z->Cg I i n xs zs ah=0->Q (.int (CI I i n xs)) Z:=fun Z sx e=>by
    have:=q Z sx
    rw[e,Int.add_zero]at this
    exact this
   by_cases hc:Cs (.str n) Bv=true
   ·rw[if_pos hc]at cm
    obtain⟨t,h3,X,rfl,ht,hh,hg⟩:=cm
    have st:=DH (w:=n) R.sx R.sz
    have sv:Dc.As X:=st X (List.mem_of_getLast? hg)
    have sd:steps (Cr n xs zs).dropLast:=fun z U=>st z (List.dropLast_subset _ U)
    refine⟨_,rfl,rfl,_,rfl,BM rfl ⟨_,rfl,t,_,0,_,rfl,rfl,Ah.of ht,FU,_,rfl,h3,h,_,I,rfl,rfl,Ah.of hh,Ah.of zK,(fun z U=>(sd z U).flat),(fun z U=>(sh z U).flat),_,rfl,?_⟩⟩
    cases ce:BB (Cr n xs zs).dropLast I with
    |false=>exact BF (BF ⟨_,rfl,no _ (S.trans s3) (Yq ce)⟩)
    |true=>
     refine BO ⟨_,rfl,t,_,1,_,rfl,rfl,Ah.of ht,EM,_,rfl,sv,_,rfl,?_⟩
     rcases sv with⟨j,rfl⟩|⟨kk,rfl,_⟩
     ·refine BO ⟨_,rfl,t,_,1,_,rfl,rfl,Ah.of ht,EM,_,rfl,_,_,rfl,rfl,_,rfl,?_⟩
      have mo:=ON (i:=i) (ah:=ah) hg hc ce
      have yes:((j:Int)<i∨(ah=true/\(j:Int)=i))->Q (.int (CI I i n xs+1)) H3:=fun c=>by
       have:=q H3 (S.trans s3)
       rw[mo,if_pos c]at this
       exact this
      have nay:¬((j:Int)<i∨(ah=true/\(j:Int)=i))->Q (.int (CI I i n xs)) H3:=fun c=>no H3 (S.trans s3) (by rw[mo,if_neg c])
      refine DZ (fun c=>BF ⟨_,rfl,_,_,rfl,rfl,yes (.inl (of_decide_eq_true c))⟩) (fun c=>?_)
      have nc:¬(j:Int)<i:=fun z=>c (decide_eq_true z)
      refine⟨_,rfl,_,rfl,?_⟩
      cases ah with
      |false=>exact BO (BO ⟨_,rfl,nay (fun z=>z.elim nc fun z=>Bool.false_ne_true z.1)⟩)
      |true=>
       refine BF ⟨_,rfl,t,_,1,_,rfl,rfl,Ah.of ht,EM,_,rfl,rfl,_,rfl,?_⟩
       refine DZ (fun c2=>⟨_,rfl,_,_,rfl,rfl,yes (.inr ⟨rfl,V.int.inj (of_decide_eq_true c2)⟩)⟩) (fun c2=>⟨_,rfl,nay (fun z=>z.elim nc fun z=>c2 (decide_eq_true (congrArg V.int z.2)))⟩)
     ·exact BF ⟨_,rfl,no _ (S.trans s3) (V' hg)⟩
   ·rw[if_neg hc]at cm
    subst cm
    exact⟨_,rfl,rfl,_,rfl,Bj rfl (BF ⟨_,rfl,no _ (S.trans s3) (cK hc)⟩)⟩
  have fin:∀(g:Option V) Z,AJ H Z->CI I i n xs=i->(AJ H Z/\∃g',[some (V.ref h),some (V.int i),some r,some (V.bl ah),some (V.int i),g,none]=[some (V.ref h),some (V.int i),some r,some (V.bl ah),some (V.int (CI I i n xs)),g',none]):=fun g Z sx e=>⟨sx,g,by rw[e]⟩
  by_cases hw:Cs (.str n) [.str "take",.str "move"]=true
  ·rw[if_pos hw]
   have nx:=R.nx (.inr (.inr (mZ.mp hw)))
   obtain⟨us,X,e⟩:∃us X,xs=us++[X]:=⟨xs.dropLast,xs.getLast nx,(List.dropLast_concat_getLast nx).symm⟩
   have Xb:=R1.hp
   rw[e]at Xb
   have sd:steps us:=fun z U=>R.sx z (by rw[e];exact List.mem_append_left _ U)
   have sl:Dc.As X:=R.sx X (by rw[e];simp)
   have ed:xs.dropLast=us:=by rw[e,List.dropLast_concat]
   have gl:xs.getLast?=some X:=by rw[e];simp
   refine⟨_,rfl,rfl,_,rfl,Bj rfl ⟨_,rfl,_,rfl,_,rfl,p,_,rfl,Xb,fun p1 H2 S Ta=>?_⟩⟩
   rw[By]at Ta
   have aE:=S _ _ Xb
   have Y:=s1.trans S
   refine⟨_,rfl,p1,h,us,I,rfl,rfl,Ah.of Ta,Ah.of (S _ _ zJ),(fun z U=>(sd z U).flat),(fun z U=>(sh z U).flat),_,rfl,?_⟩
   cases ce:BB us I with
   |false=>exact BO (BO (k _ _ (fin _ _ Y (RI (by rw[ed];exact ce)))))
   |true=>
    refine BF ⟨_,rfl,_,rfl,p,_,_,_,rfl,rfl,Ah.of aE,Bo us X,_,rfl,sl,_,rfl,?_⟩
    rcases sl with⟨j,rfl⟩|⟨kk,rfl,_⟩
    ·have le:=less_int (i:=i) gl hw (by rw[ed];exact ce)
     refine BF ⟨_,rfl,_,rfl,p,_,_,_,rfl,rfl,Ah.of aE,Bo us _,_,rfl,_,_,rfl,rfl,_,rfl,?_⟩
     refine DZ (fun c=>⟨_,rfl,_,_,rfl,rfl,k _ _ ⟨Y,some (.ref p),?_⟩⟩) (fun c=>k _ _ (fin _ _ Y ?_))
     ·rw[le,if_pos (of_decide_eq_true c)];rfl
     ·rw[le,if_neg fun z=>c (decide_eq_true z)]
    ·exact BO (BO (k _ _ (fin _ _ Y (WA gl))))
  ·rw[if_neg hw]
   exact⟨_,rfl,rfl,_,rfl,BM rfl (BO (k _ _ (fin _ _ s1 (QB hw))))⟩
end
end Bu
namespace Bu
open PySem L2
section
variable{P:Program} {w:World} {K:ACH} [An K] {mg:Str->Option Value} {base:Heap}
theorem HX:Aa ["holder","step","row"] ["holder","step","row"] (AH Ck):=⟨rfl,rfl,rfl,by decide+kernel,rfl,by decide+kernel,by decide+kernel⟩
theorem Kt {f:Addr} {D:FuncData} (F:DW K "step_behind" "step_behind" Ck f D) (T:Txt mg) (l:Df P w K mg base "is_place" ["step"] 1 Dg) (b:Df P w K mg base "place_behind" ["holder","place","row","ahead"] 5 JF):BG P w K mg base DC 6 f D ["holder","step","row"] Me:=by
 obtain⟨x,y,m,n,o,t⟩:=l.ex
 obtain⟨u,v,c,d,e,g⟩:=b.ex
 refine F.ok HX (fun M H Q E h=>?_) (fun N A outer s H M Q E B h=>?_)
 ·obtain⟨h,G,z,r,I,xs,zs,p,rfl,J,L,C,R,q⟩:=h
  rfl
 ·obtain⟨h,G,z,r,I,xs,zs,p,rfl,J,L,C,R,q⟩:=h
  have nd:=HX.nd
  have O:=BC B
  have j:Ac 1 _:=B.mono (by first|decide|omega)
  have a:Ac 5 _:=B.mono (by first|decide|omega)
  refine⟨_,(AE (Ag (Aw (AG t j rfl o m n .nil AN (AA (pv 1) AB))) (AI (AL (AG g a rfl e c d .nil AN (AA (pv 0) (AA (pv 1) (AA (pv 2) (AA IJ AB))))))) AQ)
   (AI (AL (pv 1)))),?_⟩
  refine⟨_,rfl,z,rfl,C,_,rfl,?_⟩
  rcases C with⟨i,rfl⟩|⟨k,rfl,_⟩
  ·exact BF ⟨_,rfl,_,rfl,_,rfl,h,G,_,r,I,xs,zs,p,true,rfl,J,L,R,q⟩
  ·exact BO ⟨_,rfl,q H (AJ.refl _)⟩
end
end Bu
namespace Bu
open PySem L2
section
variable{P:Program} {w:World} {K:ACH} [An K] {mg:Str->Option Value} {base:Heap}
theorem Rb:Aa ["path","row","gone","taken"] ["path","row"] (AH ID):=⟨rfl,rfl,rfl,by decide+kernel,rfl,by decide+kernel,by decide+kernel⟩
theorem Wx {f:Addr} {fd:FuncData} (F:DW K "after" "after" ID f fd) (T:Txt mg) (Y:Df P w K mg base "begins" ["one","other"] 1 Fy) (Z:Df P w K mg base "gone_by" ["row"] 1 (Fm [.str "take",.str "change"])) (L:Df P w K mg base "moved_by" ["row"] 1 GH) (e:Df P w K mg base "step_behind" ["holder","step","row"] 6 Me) (Wy:mg "enumerate"=none):BG P w K mg base DC 7 f fd ["path","row"] JG:=by
 obtain⟨kF,kG,v,B,G,I⟩:=Y.ex
 obtain⟨Rc,Rf,M_,M',NA,NB⟩:=Z.ex
 obtain⟨Wz,W_,M,N,O,S⟩:=L.ex
 obtain⟨aF,aG,j,m,n,o⟩:=e.ex
 refine F.ok Rb (fun vs H Q E h=>?_) (fun Iq A outer s H vs Q E hr h=>?_)
 ·obtain⟨t,u,r,X,xs,zs,p,rfl,ht,sq,lq,R,q⟩:=h
  rfl
 ·obtain⟨t,u,r,X,xs,zs,p,rfl,ht,sq,lq,R,q⟩:=h
  have nd:=Rb.nd
  have hu:=BC hr
  have d:Ac 1 _:=hr.mono (by first|decide|omega)
  have U:Ac 1 _:=hr.mono (by first|decide|omega)
  have J:Ac 1 _:=hr.mono (by first|decide|omega)
  have c:Ac 6 _:=hr.mono (by first|decide|omega)
  refine⟨_,(AE (AV (i:=2) nd rfl (Or.inl rfl) (AG NB U rfl NA M_ M' .nil AN (AA (pv 1) AB)))
   (AE (Ag (PW.pt (pw_and (AS D_ (pv 2) BE (AX _)) (pw_and1 (Aw (AG I d rfl G v B .nil AN (AA (pv 2) (AA (pv 0) AB))))))) (AI (AL BE)) AQ)
   (AE (AV (i:=3) nd rfl (Or.inl rfl) (AG S J rfl O M N .nil AN (AA (pv 1) AB)))
   (AE (Ag (PW.pt (pw_and (AS D_ (pv 3) BE (AX _)) (pw_and1 (Aw (AG I d rfl G v B .nil AN (AA (pv 3) (AA (pv 0) AB))))))) (AI (AL (AZ FA (AO (r:=Af K) AM (pv 1) AD (fun _ _=>rfl)) (BK CD (pv 0) (BZ (Ad Aq rfl T.len PySem.boot_len (AA (pv 3) AB))) Bn)))) AQ)
   (AI (AL (C' Kk rfl T.tuple YJ (AA (Vx (fv:=["row","path"]) (fs:=[1,0]) rfl (.of (by rfl)) (Yp rfl Wy OM (AA (pv 0) AB)) (fun _ _ _ _=>GA) (fun C s0 H0 fp=>(AG o c rfl n j m .nil AN (AA (BK CD (pv 3) Bn (BZ (pv 0))) (AA (pv 1) (AA (pv 2) AB)))))) AB)))))))),?_⟩
  have fx:∀z∈xs,Bg z=true:=fun z hz=>(R.sx z hz).flat
  have fq:∀z∈u,Bg z=true:=fun z hz=>(sq z hz).flat
  refine⟨_,rfl,r,X,xs,zs,p,rfl,R,fun H1 s1=>?_⟩
  dsimp only[Dm]
  have Xc:=s1 _ _ ht
  have R1:=R.up s1
  refine J_ (t:=NQ _ _ _) (fun σ H'=>AJ H H'/\(∃g,σ=[some (.ref t),some r,g,none])/\¬(Cs (.str X) [.str "take",.str "change"]=true/\xs<+:u)) (fun σ' H2 z=>?_) (fun k=>?_)
  ·obtain⟨s2,⟨g,rfl⟩,c1⟩:=z
   have R2:=R.up s2
   have W':=s2 _ _ ht
   refine⟨_,rfl,r,X,xs,zs,p,rfl,R2,?_⟩
   dsimp only[Dm]
   refine J_ (t:=NQ _ _ _) (fun σ H'=>AJ H H'/\(∃g g3,σ=[some (.ref t),some r,g,g3])/\¬(X="move"/\xs<+:u)) (fun σ' H3 z=>?_) (fun k=>?_)
   ·obtain⟨V,⟨g,g3,rfl⟩,c2⟩:=z
    have ZD:=V _ _ ht
    have ea:Ay X xs zs u=some (fC X xs zs [] u):=by
     unfold Ay
     rw[if_neg c1,if_neg c2,WH R.sx R.sz u [] (fun z hz=>nomatch hz) sq,HN,HN]
    refine⟨_,rfl,t,u,rfl,Ah.of ZD,?_⟩
    refine TK (fun i y=>∀s,u[i]?=some s->y=fB X xs zs (u.take i) s) (Ah.of ZD) (Az (by omega)) (fun i x H4 Rk hx s4 k=>?_) (fun D H4 ys hD s4 zL ly oy=>?_)
    ·refine⟨_,rfl,_,rfl,_,rfl,t,u,rfl,s4 _ _ ZD,fun p5 H5 s5 fH=>?_⟩
     rw[Qv]at fH
     have s45:=s4.trans s5
     refine⟨_,rfl,_,rfl,p5,u.take i,x,r,X,xs,zs,p,rfl,fH,(fun z hz=>sq z (List.mem_of_mem_take hz)),sq x (ACG hx),(R.up V).up s45,fun H6 s6=>k _ _ (s5.trans s6) fun s' wu=>?_⟩
     rw[hx]at wu
     cases wu
     cases x<;>rfl
    ·refine⟨D,ys,rfl,.inl ⟨Bd.of zL,fun l hl=>q _ _ ((V.trans s4).trans (AJ.new hl)) ?_⟩⟩
     rw[ea,<-go_eq u [] ys ly fun i y s h1 h2=>oy i y h1 s h2]
     exact⟨l,rfl,AF⟩
   ·by_cases hw:X="move"
    ·subst hw
     rw[if_pos (by decide)]
     obtain⟨a,rest,er,ha,cw⟩:=R2.ex
     obtain⟨p2,rfl,Ta⟩:=cw (.inr rfl)
     refine⟨_,rfl,rfl,_,rfl,Bj rfl ⟨_,rfl,_,rfl,p,t,xs,u,rfl,R2.hp,W',fx,fq,fun H3 V=>⟨_,rfl,?_⟩⟩⟩
     have ZD:=V _ _ W'
     refine DZ (fun b=>?_) (fun b=>k _ _ ⟨s2.trans V,⟨_,_,rfl⟩,fun z=>b ((pre_take R.sx sq).mpr z.2)⟩)
     have my:=(pre_take R.sx sq).mp b
     have l1:=R.lz
     refine⟨_,rfl,a,_,2,_,er,rfl,Ah.of (V _ _ ha),at2,?_⟩
     refine⟨_,rfl,_,rfl,p,_,rfl,.inr (Ah.of (V _ _ R2.hp)),_,rfl,t,_,rfl,ZD,fun p4 H4 s4 aH=>?_⟩
     rw[Hn]at aH
     refine⟨p2,p4,_,_,rfl,rfl,s4 _ _ (V _ _ Ta),aH,Az (by rw[List.length_drop];omega),fun p5 H5 s5 fH=>q _ _ (((s2.trans V).trans s4).trans s5) ?_⟩
     have ea:Ay "move" xs zs u=some (zs++u.drop xs.length):=by
      unfold Ay
      rw[if_neg c1,if_pos ⟨rfl,my⟩]
     rw[ea]
     exact⟨p5,rfl,fH⟩
    ·rw[if_neg (by simpa using hw)]
     exact⟨_,rfl,rfl,_,rfl,BM rfl (BO (k _ _ ⟨s2,⟨_,_,rfl⟩,fun z=>hw z.1⟩))⟩
  ·by_cases hw:Cs (.str X) [.str "take",.str "change"]=true
   ·rw[if_pos hw]
    refine⟨_,rfl,rfl,_,rfl,Bj rfl ⟨_,rfl,_,rfl,p,t,xs,u,rfl,R1.hp,Xc,fx,fq,fun H3 V=>⟨_,rfl,?_⟩⟩⟩
    refine DZ (fun b=>q _ _ (s1.trans V) ?_) (fun b=>k _ _ ⟨s1.trans V,⟨_,rfl⟩,fun z=>b ((pre_take R.sx sq).mpr z.2)⟩)
    have ea:Ay X xs zs u=none:=by
     unfold Ay
     rw[if_pos ⟨hw,(pre_take R.sx sq).mp b⟩]
    rw[ea]
    rfl
   ·rw[if_neg hw]
    exact⟨_,rfl,rfl,_,rfl,BM rfl (BO (k _ _ ⟨s1,⟨_,rfl⟩,fun z=>hw z.1⟩))⟩
end
end Bu
namespace Bu
open PySem L2
section
variable{P:Program} {w:World} {K:ACH} [An K] {mg:Str->Option Value} {base:Heap}
theorem Ic:Aa ["one","other"] ["one","other"] (AH DL):=⟨rfl,rfl,rfl,by decide+kernel,rfl,by decide+kernel,by decide+kernel⟩
theorem NC {f:Addr} {D:FuncData} (F:DW K "does_begin" "does_begin" DL f D) (T:Txt mg) (g:Df P w K mg base "begins" ["one","other"] 1 Fy):BG P w K mg base DC 2 f D ["one","other"] HQ:=by
 obtain⟨r,t,i,j,k,l⟩:=g.ex
 refine F.ok Ic (fun M H Q E h=>?_) (fun N A outer s H M Q E G h=>?_)
 ·obtain⟨u,v,a,b,rfl,m,n,I,J,q⟩:=h
  rfl
 ·obtain⟨u,v,a,b,rfl,m,n,I,J,q⟩:=h
  have nd:=Ic.nd
  have U:=BC G
  have d:Ac 1 _:=G.mono (by first|decide|omega)
  refine⟨_,(AI (AL (FV (CU D_ (pv 0) BE (AX _)) (FV (CU D_ (pv 1) BE (AX _)) (GU (AG l d rfl k i j .nil AN (AA (pv 0) (AA (pv 1) AB)))))))),?_⟩
  have L:=AJ.refl H
  cases a with
  |none=>
   rw[show u=V.Ao from m]
   exact⟨_,rfl,rfl,_,rfl,BO (q _ L)⟩
  |some xs=>
   obtain⟨p,rfl,O⟩:=m
   cases b with
   |none=>
    rw[show v=V.Ao from n]
    exact⟨_,rfl,rfl,_,rfl,BF ⟨_,rfl,rfl,_,rfl,BO (q _ L)⟩⟩
   |some o=>
    obtain⟨R,rfl,x⟩:=n
    have y:=I xs rfl
    have B:=J o rfl
    refine⟨_,rfl,rfl,_,rfl,BF ⟨_,rfl,rfl,_,rfl,BF ⟨_,rfl,_,rfl,p,R,xs,o,rfl,O,x,(fun z C=>(y z C).flat),(fun z C=>(B z C).flat),fun X S=>?_⟩⟩⟩
    have e:BB (o.take xs.length) xs=El (some xs) (some o):=by
     show _=decide (xs<+:o)
     by_cases c:xs<+:o
     ·rw[decide_eq_true c,(pre_take y B).mpr c]
     ·rw[decide_eq_false c]
      exact Bool.eq_false_iff.mpr fun z=>c ((pre_take y B).mp z)
    rw[e]
    exact q _ S
end
end Bu
namespace Bu
open PySem L2
section
variable{P:Program} {w:World} {K:ACH} [An K] {mg:Str->Option Value} {base:Heap}
theorem HY:Aa ["path","others"] ["path","others"] (AH Cm):=⟨rfl,rfl,rfl,by decide+kernel,rfl,by decide+kernel,by decide+kernel⟩
theorem Ku {f:Addr} {R:FuncData} (F:DW K "begins_some" "begins_some" Cm f R) (T:Txt mg) (c:Df P w K mg base "does_begin" ["one","other"] 2 HQ):BG P w K mg base DC 3 f R ["path","others"] GI:=by
 obtain⟨o,p,d,g,j,k⟩:=c.ex
 refine F.ok HY (fun vs H Q E h=>?_) (fun Iq A outer s H vs Q E S h=>?_)
 ·obtain⟨u,a,l,r,m,rfl,t,U,x,M,X,lx,q⟩:=h
  rfl
 ·obtain⟨u,a,l,r,m,rfl,t,U,x,M,X,lx,q⟩:=h
  have nd:=HY.nd
  have hu:=BC S
  have b:Ac 2 _:=S.mono (by first|decide|omega)
  refine⟨_,(AI (AL (Ad (Vl rfl) rfl T.any gS (AA (GB (fv:=["path"]) (fs:=[0]) rfl (.of (by rfl)) (Gw (pv 1)) (fun _ _ _ _=>GA) (fun C s0 H0 fp=>(AG k b rfl j d g .nil AN (AA (pv 1) (AA (pv 0) AB))))) AB)))),?_⟩
  have rd:Bd K H l (r.map V.ref):=Bd.of x
  have lp:=M.length
  refine⟨_,rfl,l,rfl,⟨_,rd⟩,?_⟩
  refine MS r.length (fun i=>(r.map V.ref).getD i .Ao) (fun D i Y=>AJ H Y/\Y D=some (.lst ((((m.take i).map fun y=>El a (some y)).map V.bl))))
   (fun D I=>⟨AJ.new I,AF⟩) (fun D i J N ⟨n,_⟩=>⟨_,_,Bd.of (n _ _ x),ACD (by simp;omega)⟩) (fun D i J v H' N ⟨n,_⟩ y=>?_) (fun D J ⟨n,_⟩=>⟨_,Bd.of (n _ _ x),by simp⟩) (fun D i J I N ⟨n,L⟩=>?_) (fun D J I ⟨n,L⟩=>?_)
  ·obtain⟨e,y⟩:=y
   refine⟨?_,e⟩
   rw[List.getD_eq_getElem?_getD,y _ (Bd.of (n _ _ x))]
   rfl
  ·obtain⟨z,B⟩:∃z,r[i]?=some z:=⟨_,ACD N⟩
   obtain⟨qj,G,O⟩:=M.get B
   have ek:(r.map V.ref).getD i .Ao=.ref z:=by rw[List.getD_eq_getElem?_getD,List.getElem?_map,B];rfl
   rw[ek]
   refine⟨_,rfl,_,rfl,u,.ref z,a,some qj,rfl,t.up n,⟨z,rfl,n _ _ O⟩,U,fun ys e=>by cases e;exact X _ (ACG G),fun H4 Z=>?_⟩
   refine⟨_,Z _ _ L,BQ (by simp;omega),(n.trans Z).put I,?_⟩
   rw[AF,List.take_add_one,G]
   simp
  ·rw[lp,List.take_length]at L
   refine⟨D,m.map fun y=>El a (some y),rfl,Bd.of L,?_⟩
   have e:(m.map fun y=>El a (some y)).any id=CO a m:=by unfold CO;rw[List.any_map];rfl
   rw[e]
   exact q _ n
end
end Bu
namespace Bu
open PySem L2
section
variable{P:Program} {w:World} {K:ACH} [An K] {mg:Str->Option Value} {base:Heap}
theorem Ex:Aa ["row","coming"] ["row"] (AH Bm):=⟨rfl,rfl,rfl,by decide+kernel,rfl,by decide+kernel,by decide+kernel⟩
theorem HZ {f:Addr} {o:FuncData} (F:DW K "holder_of_coming" "holder_of_coming" Bm f o) (T:Txt mg) (b:Df P w K mg base "comes_to" ["row"] 4 FE):BG P w K mg base DC 5 f o ["row"] Mm:=by
 obtain⟨k,l,c,d,g,j⟩:=b.ex
 refine F.ok Ex (fun z H Q E h=>?_) (fun B A outer s H z Q E u h=>?_)
 ·obtain⟨r,m,xs,zs,p,rfl,R,q⟩:=h
  rfl
 ·obtain⟨r,m,xs,zs,p,rfl,R,q⟩:=h
  have nd:=Ex.nd
  have I:=BC u
  have a:Ac 4 _:=u.mono (by first|decide|omega)
  refine⟨_,(AE (AV (i:=1) nd rfl (Or.inl rfl) (AG j a rfl g c d .nil AN (AA (pv 0) AB)))
   (AE (Ag (AS GV (pv 1) BE (AX _)) (AI (AL BE)) AQ)
   (AI (AL (AO (r:=Af K) AM (pv 1) AD (fun _ _=>rfl)))))),?_⟩
  refine⟨_,rfl,r,m,xs,zs,p,rfl,R,fun v J x n=>?_⟩
  unfold OI at n
  have e:FQ m xs zs=if Cs (.str m) Bv=true then some (Cr m xs zs).dropLast else none:=rfl
  by_cases y:Cs (.str m) Bv=true
  ·rw[if_pos y]at n e
   obtain⟨t,C,L,rfl,D,G,M⟩:=n
   refine⟨_,rfl,rfl,_,rfl,BO ⟨_,rfl,t,_,0,_,rfl,rfl,Ah.of D,FU,q _ _ x ?_⟩⟩
   rw[e]
   exact⟨C,rfl,G⟩
  ·rw[if_neg y]at n e
   subst n
   refine⟨_,rfl,rfl,_,rfl,BF (q _ _ x ?_)⟩
   rw[e]
   rfl
end
end Bu
namespace Bu
open PySem L2
section
variable{P:Program} {w:World} {K:ACH} [An K] {mg:Str->Option Value} {base:Heap}
theorem Ha:Aa ["one","other","path","moved"] ["one","other"] (AH Cn):=⟨rfl,rfl,rfl,by decide+kernel,rfl,by decide+kernel,by decide+kernel⟩
theorem Kv {f:Addr} {fd:FuncData} (F:DW K "spoils_read" "spoils_read" Cn f fd) (T:Txt mg) (O:Df P w K mg base "gone_by" ["row"] 1 (Fm [.str "take",.str "change"])) (C:Df P w K mg base "moved_by" ["row"] 1 GH) (cx:Df P w K mg base "reads" ["row"] 1 (Fm [.str "ask",.str "copy"])) (x:Df P w K mg base "does_begin" ["one","other"] 2 HQ) (l:Df P w K mg base "holder_of_coming" ["row"] 5 Mm):BG P w K mg base DC 6 f fd ["one","other"] (Cb Fq):=by
 obtain⟨Rc,Rf,S,U,X,Y⟩:=O.ex
 obtain⟨Wz,W_,D,G,I,J⟩:=C.ex
 obtain⟨m_,nE,cy,cz,c_,c'⟩:=cx.ex
 obtain⟨dA,dB,d,e,g,j⟩:=x.ex
 obtain⟨L,M,m,n,o,t⟩:=l.ex
 refine F.ok Ha (fun vs H Q E h=>?_) (fun Iq A outer s H vs Q E hr h=>?_)
 ·obtain⟨r,v,xs,zs,p,r2,u,b,y,p2,rfl,R,R2,q⟩:=h
  rfl
 ·obtain⟨r,v,xs,zs,p,r2,u,b,y,p2,rfl,R,R2,q⟩:=h
  have nd:=Ha.nd
  have hu:=BC hr
  have N:Ac 1 _:=hr.mono (by first|decide|omega)
  have B:Ac 1 _:=hr.mono (by first|decide|omega)
  have Z:Ac 1 _:=hr.mono (by first|decide|omega)
  have a:Ac 2 _:=hr.mono (by first|decide|omega)
  have k:Ac 5 _:=hr.mono (by first|decide|omega)
  refine⟨_,(AE (AV (i:=2) nd rfl (Or.inl rfl) (AG c' Z rfl c_ cy cz .nil AN (AA (pv 0) AB)))
   (AE (AV (i:=3) nd rfl (Or.inl rfl) (AG J B rfl I D G .nil AN (AA (pv 1) AB)))
   (AE (Ag (PW.pt (pw_or (Aw (AG j a rfl g d e .nil AN (AA (pv 2) (AA (AG Y N rfl X S U .nil AN (AA (pv 1) AB)) AB)))) (pw_or1 (Aw (AG j a rfl g d e .nil AN (AA (pv 2) (AA (AG t k rfl o m n .nil AN (AA (pv 1) AB)) AB))))))) (AI (AL IJ)) AQ)
   (AI (AL (FV (AG j a rfl g d e .nil AN (AA (pv 2) (AA (pv 3) AB))) (GU (CU (Vc (Ac.GX hr)) (pv 2) (pv 3) (AX _))))))))),?_⟩
  refine⟨_,rfl,r,v,xs,zs,p,rfl,R,fun H1 s1=>?_⟩
  have a1:=QE (w:=v) (ws:=[.str "ask",.str "copy"]) (s1 _ _ R.hp)
  have eR:(if Cs (.str v) [.str "ask",.str "copy"]=true then some xs else none)=Bw v xs:=rfl
  rw[eR]at a1
  have sR:=Ml (w:=v) R.sx
  generalize(if Cs (.str v) [.str "ask",.str "copy"]=true then V.ref p else V.Ao)=pv at a1⊢
  have aI:=R2.up s1
  refine⟨_,rfl,r2,u,b,y,p2,rfl,aI,?_⟩
  have a2:=HP (w:=u) aI.hp
  have sM:=Di (w:=u) R2.sx
  generalize(if decide (V.str u=.str "move")=true then V.ref p2 else V.Ao)=mv at a2⊢
  refine⟨_,rfl,_,rfl,r2,u,b,y,p2,rfl,aI,fun H2 s2=>?_⟩
  have a3:=QE (w:=u) (ws:=[.str "take",.str "change"]) (aI.up s2).hp
  have sG:=IV (w:=u) R2.sx
  have eG:(if Cs (.str u) [.str "take",.str "change"]=true then some b else none)=DY u b:=rfl
  rw[eG]at a3
  refine⟨_,_,Bw v xs,DY u b,rfl,a1.up s2,a3,sR,sG,fun H3 s3=>⟨_,rfl,?_⟩⟩
  have s13:=s1.trans (s2.trans s3)
  have eS:Fq v xs zs u b y=(El (Bw v xs) (DY u b)||El (Bw v xs) (FQ u b y)||(El (Bw v xs) (Bb u b)&& !decide (Bw v xs=Bb u b))):=rfl
  cases c1:El (Bw v xs) (DY u b)with
  |true=>
   refine BF (BF ?_)
   have:=q H3 s13
   rw[eS,c1]at this
   exact this
  |false=>
  refine BO ⟨_,rfl,_,rfl,r2,u,b,y,p2,rfl,(aI.up s2).up s3,fun hv H4 s4 ah=>?_⟩
  have s24:=s2.trans (s3.trans s4)
  refine⟨_,_,Bw v xs,FQ u b y,rfl,a1.up s24,ah,sR,IW R2.sx R2.sz,fun H5 s5=>⟨_,rfl,?_⟩⟩
  have s25:=s24.trans s5
  have s15:=s1.trans s25
  cases c2:El (Bw v xs) (FQ u b y)with
  |true=>
   refine BF ?_
   have:=q H5 s15
   rw[eS,c1,c2]at this
   exact this
  |false=>
  refine BO ⟨_,rfl,_,rfl,_,_,Bw v xs,Bb u b,rfl,a1.up s25,a2.up s25,sR,sM,fun H6 s6=>?_⟩
  have s16:=s15.trans s6
  have q6:=q H6 s16
  rw[eS,c1,c2]at q6
  cases c3:El (Bw v xs) (Bb u b)with
  |false=>
   rw[c3]at q6
   exact⟨_,rfl,BO q6⟩
  |true=>
   rw[c3]at q6
   refine⟨_,rfl,BF ?_⟩
   have a16:=a1.up (s25.trans s6)
   have a26:=a2.up (s25.trans s6)
   cases e1:Bw v xs with
   |none=>rw[e1]at c3;cases c3
   |some ys=>
    cases e2:Bb u b with
    |none=>rw[e1,e2]at c3;cases c3
    |some us=>
     rw[e1]at a16
     rw[e2]at a26
     obtain⟨p5,rfl,h5⟩:=a16
     obtain⟨p6,rfl,h6⟩:=a26
     have sy:=sR ys e1
     have su:=sM us e2
     refine⟨_,rfl,_,rfl,p5,p6,ys,us,rfl,rfl,Ah.of h5,Ah.of h6,(fun z hz=>(sy z hz).flat),(fun z hz=>(su z hz).flat),?_⟩
     rw[e1,e2]at q6
     have ee:BB ys us=decide ((some ys:Option (List V))=some us):=by
      by_cases c:ys=us
      ·rw[decide_eq_true (by rw[c]),(Cw sy su).mpr c]
      ·rw[decide_eq_false (by simpa using c)]
       exact Bool.eq_false_iff.mpr fun z=>c ((Cw sy su).mp z)
     rw[ee]
     exact q6
end
end Bu
namespace Bu
open PySem L2
section
variable{P:Program} {w:World} {K:ACH} [An K] {mg:Str->Option Value} {base:Heap}
theorem Kg:Aa ["one","other"] ["one","other"] (AH Dl):=⟨rfl,rfl,rfl,by decide+kernel,rfl,by decide+kernel,by decide+kernel⟩
theorem Ol {f:Addr} {D:FuncData} (F:DW K "bars_same" "bars_same" Dl f D) (T:Txt mg) (m:Df P w K mg base "bars" ["row"] 5 Ma):BG P w K mg base DC 6 f D ["one","other"] (Cb Ci):=by
 obtain⟨x,y,d,e,g,i⟩:=m.ex
 refine F.ok Kg (fun O H Q E h=>?_) (fun S A outer s H O Q E z h=>?_)
 ·obtain⟨r,j,xs,zs,p,G,n,k,l,I,rfl,R,R2,q⟩:=h
  rfl
 ·obtain⟨r,j,xs,zs,p,G,n,k,l,I,rfl,R,R2,q⟩:=h
  have nd:=Kg.nd
  have hu:=BC z
  have b:Ac 5 _:=z.mono (by first|decide|omega)
  refine⟨_,(AI (AL (FV (CU UJ (AO (r:=Af K) AM (pv 0) AD (fun _ _=>rfl)) Ax (AX _)) (FV (CU D_ (AG i b rfl g d e .nil AN (AA (pv 0) AB)) BE (AX _)) (GU (CU (cR (Ac.units z):Dy _ _ cQ) (AG i b rfl g d e .nil AN (AA (pv 0) AB)) (AG i b rfl g d e .nil AN (AA (pv 1) AB)) (AX _))))))),?_⟩
  obtain⟨a,rest,U,X,_⟩:=R.ex
  have Y:Ci j xs zs n k l=(!decide (j="lacks")&&(Em j xs zs).isSome&&decide (Em j xs zs=Em n k l)):=rfl
  rw[Y]at q
  refine⟨_,rfl,a,_,0,.str j,U,rfl,Ah.of X,FU,rfl,_,rfl,?_⟩
  have Z:decide (V.str j=V.str "lacks")=decide (j="lacks"):=by
   by_cases c:j="lacks"
   ·rw[decide_eq_true c,decide_eq_true (by rw[c])]
   ·rw[decide_eq_false c,decide_eq_false (by simpa using c)]
  rw[Z]
  cases J:decide (j="lacks")with
  |true=>
   have:=q H (AJ.refl _)
   rw[J]at this
   exact BO this
  |false=>
  rw[J]at q
  refine BF ⟨_,rfl,r,j,xs,zs,p,rfl,R,fun v H1 o br=>?_⟩
  have u:=Mn br
  have nb:(!decide (v=V.Ao))=(Em j xs zs).isSome:=by
   cases L:Em j xs zs with
   |none=>rw[L]at u;rw[show v=V.Ao from u];rfl
   |some ys=>rw[L]at u;obtain⟨t,h3,lv,rfl,_⟩:=u;rfl
  refine⟨rfl,_,rfl,?_⟩
  rw[nb]
  cases c1:(Em j xs zs).isSome with
  |false=>
   have:=q H1 o
   rw[c1]at this
   exact BO this
  |true=>
   rw[c1]at q
   refine BF ⟨_,rfl,r,j,xs,zs,p,rfl,R.up o,fun v1 H2 M B=>⟨_,rfl,G,n,k,l,I,rfl,(R2.up o).up M,fun v2 H3 N C=>?_⟩⟩
   exact⟨_,_,(Mn B).up N,Mn C,Gq R.sx R.sz,Gq R2.sx R2.sz,q _ ((o.trans M).trans N)⟩
end
end Bu
namespace Bu
open PySem L2
section
variable{P:Program} {w:World} {K:ACH} [An K] {mg:Str->Option Value} {base:Heap}
theorem Hb:Aa ["one","other","barred"] ["one","other"] (AH Co):=⟨rfl,rfl,rfl,by decide+kernel,rfl,by decide+kernel,by decide+kernel⟩
theorem Kw {f:Addr} {fd:FuncData} (F:DW K "bars_needed" "bars_needed" Co f fd) (T:Txt mg) (x:Df P w K mg base "needs" ["row"] 5 JD) (J:Df P w K mg base "bars" ["row"] 5 Ma) (b:Df P w K mg base "begins_some" ["path","others"] 3 GI):BG P w K mg base DC 6 f fd ["one","other"] (Cb Cj):=by
 obtain⟨Z,dC,y,z,B,C⟩:=x.ex
 obtain⟨wy,w_,L,M,N,O⟩:=J.ex
 obtain⟨D,G,c,d,j,k⟩:=b.ex
 refine F.ok Hb (fun vs H Q E h=>?_) (fun Iq A outer s H vs Q E hr h=>?_)
 ·obtain⟨r,S,xs,zs,p,r2,U,m,n,p2,rfl,R,R2,q⟩:=h
  rfl
 ·obtain⟨r,S,xs,zs,p,r2,U,m,n,p2,rfl,R,R2,q⟩:=h
  have nd:=Hb.nd
  have hu:=BC hr
  have u:Ac 5 _:=hr.mono (by first|decide|omega)
  have I:Ac 5 _:=hr.mono (by first|decide|omega)
  have a:Ac 3 _:=hr.mono (by first|decide|omega)
  refine⟨_,(AE (AV (i:=2) nd rfl (Or.inl rfl) (AG O I rfl N L M .nil AN (AA (pv 0) AB)))
   (AI (AL (FV (CU D_ (pv 2) BE (AX _)) (GU (AG k a rfl j c d .nil AN (AA (AZ FA (AO (r:=Af K) AM (pv 2) AD (fun _ _=>rfl)) (A' (AA (AO (r:=Af K) AM (pv 2) AD (fun _ _=>rfl)) AB))) (AA (AG C u rfl B y z .nil AN (AA (pv 1) AB)) AB)))))))),?_⟩
  refine⟨_,rfl,r,S,xs,zs,p,rfl,R,fun v H1 s1 br=>?_⟩
  have b1:=Mn br
  have eS:Cj S xs zs U m n=CO (Em S xs zs) (CK U m n):=rfl
  rw[eS]at q
  cases eb:Em S xs zs with
  |none=>
   rw[eb]at b1 q
   rw[show v=V.Ao from b1]
   refine⟨_,rfl,rfl,_,rfl,BO ?_⟩
   have:=q H1 s1
   have e0:CO none (CK U m n)=false:=by unfold CO;simp[El]
   rw[e0]at this
   exact this
  |some ys=>
   have ly:=WK eb R.lx R.lz
   have sy:=Gq R.sx R.sz ys eb
   rw[eb]at b1 q
   obtain⟨t,h3,lv,rfl,ht,hh,hg⟩:=b1
   have zM:=Gp hg
   refine⟨_,rfl,rfl,_,rfl,BF ?_⟩
   refine⟨_,rfl,t,_,0,_,rfl,rfl,Ah.of ht,FU,_,rfl,t,_,1,_,rfl,rfl,Ah.of ht,EM,Fi,fun g nF=>?_⟩
   have sg:=AJ.new (o:=.tup [lv]) nF
   refine⟨h3,g,_,_,rfl,rfl,sg _ _ hh,AF,Az (by simp;omega),fun g2 H2 s2 X=>?_⟩
   rw[<-zM]at X
   have Y:=s1.trans (sg.trans s2)
   refine⟨_,rfl,r2,U,m,n,p2,rfl,R2.up Y,fun l ps H3 s3 nl hl tu=>?_⟩
   exact⟨_,some ys,l,ps,_,rfl,⟨g2,rfl,s3 _ _ X⟩,(fun us e=>by cases e;exact sy),hl,tu,IU R2.sx R2.sz,Nat.le_trans Lb (by decide),fun H4 s4=>q _ ((Y.trans s3).trans s4)⟩
end
end Bu
namespace Bu
open PySem L2
section
variable{P:Program} {w:World} {K:ACH} [An K] {mg:Str->Option Value} {base:Heap}
theorem Ie:Aa ["one","other"] ["one","other"] (AH DM):=⟨rfl,rfl,rfl,by decide+kernel,rfl,by decide+kernel,by decide+kernel⟩
theorem ND {f:Addr} {v:FuncData} (F:DW K "moves_same" "moves_same" DM f v) (T:Txt mg) (i:Df P w K mg base "moved_by" ["row"] 1 GH):BG P w K mg base DC 6 f v ["one","other"] (Cb CT):=by
 obtain⟨m,n,b,d,e,g⟩:=i.ex
 refine F.ok Ie (fun z H Q E h=>?_) (fun B A outer s H z Q E u h=>?_)
 ·obtain⟨r,j,xs,zs,p,x,o,k,l,y,rfl,R,R2,q⟩:=h
  rfl
 ·obtain⟨r,j,xs,zs,p,x,o,k,l,y,rfl,R,R2,q⟩:=h
  have nd:=Ie.nd
  have G:=BC u
  have a:Ac 1 _:=u.mono (by first|decide|omega)
  refine⟨_,(AI (AL (FV (CU D_ (AG g a rfl e b d .nil AN (AA (pv 0) AB)) BE (AX _)) (GU (CU (cP (Ac.GX u):Dy _ _ cO) (AG g a rfl e b d .nil AN (AA (pv 0) AB)) (AG g a rfl e b d .nil AN (AA (pv 1) AB)) (AX _)))))),?_⟩
  refine⟨_,rfl,r,j,xs,zs,p,rfl,R,?_⟩
  have a1:=HP (w:=j) R.hp
  have C:CT j xs zs o k l=((Bb j xs).isSome&&decide (Bb j xs=Bb o k)):=rfl
  have t:=q H (AJ.refl _)
  rw[C]at t
  have D:(!decide ((if decide (V.str j=.str "move")=true then V.ref p else V.Ao)=V.Ao))=(Bb j xs).isSome:=by
   unfold Bb
   by_cases c:j="move"
   ·rw[if_pos c,if_pos (by rw[c];decide)];rfl
   ·rw[if_neg c,if_neg (by simpa using c)];rfl
  refine⟨rfl,_,rfl,?_⟩
  rw[D]
  cases c1:(Bb j xs).isSome with
  |false=>
   rw[c1]at t
   exact BO t
  |true=>
   rw[c1]at t
   refine BF ⟨_,rfl,r,j,xs,zs,p,rfl,R,_,rfl,x,o,k,l,y,rfl,R2,?_⟩
   exact⟨Bb j xs,Bb o k,a1,HP R2.hp,Di R.sx,Di R2.sx,t⟩
end
end Bu
namespace Bu
open PySem L2
section
variable{P:Program} {w:World} {K:ACH} [An K] {mg:Str->Option Value} {base:Heap}
theorem Ig:Aa ["one","other"] ["one","other"] (AH DN):=⟨rfl,rfl,rfl,by decide+kernel,rfl,by decide+kernel,by decide+kernel⟩
theorem NF {f:Addr} {S:FuncData} (F:DW K "moves_into" "moves_into" DN f S) (T:Txt mg) (t:Df P w K mg base "moved_by" ["row"] 1 GH) (j:Df P w K mg base "does_begin" ["one","other"] 2 HQ) (b:Df P w K mg base "holder_of_coming" ["row"] 5 Mm):BG P w K mg base DC 6 f S ["one","other"] (Cb CF):=by
 obtain⟨J,L,u,v,x,y⟩:=t.ex
 obtain⟨C,D,k,l,m,n⟩:=j.ex
 obtain⟨z,B,c,d,e,g⟩:=b.ex
 refine F.ok Ig (fun Z H Q E h=>?_) (fun Iq A outer s H Z Q E N h=>?_)
 ·obtain⟨r,M,xs,zs,p,U,O,G,I,X,rfl,R,R2,q⟩:=h
  rfl
 ·obtain⟨r,M,xs,zs,p,U,O,G,I,X,rfl,R,R2,q⟩:=h
  have nd:=Ig.nd
  have hu:=BC N
  have o:Ac 1 _:=N.mono (by first|decide|omega)
  have i:Ac 2 _:=N.mono (by first|decide|omega)
  have a:Ac 5 _:=N.mono (by first|decide|omega)
  refine⟨_,(AI (AL (AG n i rfl m k l .nil AN (AA (AG y o rfl x u v .nil AN (AA (pv 0) AB)) (AA (AG g a rfl e c d .nil AN (AA (pv 1) AB)) AB))))),?_⟩
  refine⟨_,rfl,r,M,xs,zs,p,rfl,R,?_⟩
  have a1:=HP (w:=M) R.hp
  generalize(if decide (V.str M=.str "move")=true then V.ref p else V.Ao)=mv at a1⊢
  refine⟨_,rfl,U,O,G,I,X,rfl,R2,fun hv H1 Y ah=>?_⟩
  exact⟨_,_,Bb M xs,FQ O G I,rfl,a1.up Y,ah,Di R.sx,IW R2.sx R2.sz,fun H2 s2=>q _ (Y.trans s2)⟩
end
end Bu
namespace Bu
open PySem L2
section
variable{P:Program} {w:World} {K:ACH} [An K] {mg:Str->Option Value} {base:Heap}
theorem FT:Aa ["one","other"] ["one","other"] (AH CA):=⟨rfl,rfl,rfl,by decide+kernel,rfl,by decide+kernel,by decide+kernel⟩
theorem II {f:Addr} {fd:FuncData} (F:DW K "clashes_one_way" "clashes_one_way" CA f fd) (T:Txt mg) (ZE:Df P w K mg base "gone_by" ["row"] 1 (Fm [.str "take",.str "change"])) (dD:Df P w K mg base "needs" ["row"] 5 JD) (t:Df P w K mg base "begins_some" ["path","others"] 3 GI) (u:Df P w K mg base "spoils_read" ["one","other"] 6 (Cb Fq)) (Te:Df P w K mg base "bars_same" ["one","other"] 6 (Cb Ci)) (v:Df P w K mg base "bars_needed" ["one","other"] 6 (Cb Cj)) (S:Df P w K mg base "moves_same" ["one","other"] 6 (Cb CT)) (U:Df P w K mg base "moves_into" ["one","other"] 6 (Cb CF)):BG P w K mg base DC 7 f fd ["one","other"] (Cb Cd):=by
 obtain⟨Rc,Rf,M_,M',NA,NB⟩:=ZE.ex
 obtain⟨nG,dC,dE,dF,dG,dH⟩:=dD.ex
 obtain⟨aJ,aK,x,y,z,B⟩:=t.ex
 obtain⟨aM,aN,C,D,G,I⟩:=u.ex
 obtain⟨fI,fJ,Tf,Tg,Th,Ti⟩:=Te.ex
 obtain⟨aO,aP,J,L,M,N⟩:=v.ex
 obtain⟨dI,dJ,X,Y,Z,Qe⟩:=S.ex
 obtain⟨dM,dN,e,g,i,j⟩:=U.ex
 refine F.ok FT (fun vs H Q E h=>?_) (fun Iq A outer s H vs Q E hr h=>?_)
 ·obtain⟨r,d,xs,zs,p,r2,k,a,b,p2,rfl,R,R2,q⟩:=h
  rfl
 ·obtain⟨r,d,xs,zs,p,r2,k,a,b,p2,rfl,R,R2,q⟩:=h
  have nd:=FT.nd
  have hu:=BC hr
  have XA:Ac 1 _:=hr.mono (by first|decide|omega)
  have ZF:Ac 5 _:=hr.mono (by first|decide|omega)
  have m:Ac 3 _:=hr.mono (by first|decide|omega)
  have n:Ac 6 _:=hr.mono (by first|decide|omega)
  have Qf:Ac 6 _:=hr.mono (by first|decide|omega)
  have o:Ac 6 _:=hr.mono (by first|decide|omega)
  have O:Ac 6 _:=hr.mono (by first|decide|omega)
  have c:Ac 6 _:=hr.mono (by first|decide|omega)
  refine⟨_,(AE (Ag (PW.pt (pw_or (Aw (AG B m rfl z x y .nil AN (AA (AG NB XA rfl NA M_ M' .nil AN (AA (pv 0) AB)) (AA (AG dH ZF rfl dG dE dF .nil AN (AA (pv 1) AB)) AB)))) (pw_or1 (Aw (AG I n rfl G C D .nil AN (AA (pv 0) (AA (pv 1) AB))))))) (AI (AL IJ)) AQ)
   (AE (Ag (PW.pt (pw_or (Aw (AG Ti Qf rfl Th Tf Tg .nil AN (AA (pv 0) (AA (pv 1) AB)))) (pw_or (Aw (AG N o rfl M J L .nil AN (AA (pv 0) (AA (pv 1) AB)))) (pw_or1 (Aw (AG Qe O rfl Z X Y .nil AN (AA (pv 0) (AA (pv 1) AB)))))))) (AI (AL IJ)) AQ)
   (AI (AL (FV (AG j c rfl i e g .nil AN (AA (pv 0) (AA (pv 1) AB))) (GU (AG j c rfl i e g .nil AN (AA (pv 1) (AA (pv 0) AB))))))))),?_⟩
  have eS:Cd d xs zs k a b=(CO (DY d xs) (CK k a b)||Fq d xs zs k a b||Ci d xs zs k a b||Cj d xs zs k a b||CT d xs zs k a b||(CF d xs zs k a b&&CF k a b d xs zs)):=rfl
  rw[eS]at q
  refine⟨_,rfl,r,d,xs,zs,p,rfl,R,fun H1 s1=>?_⟩
  have a1:=QE (w:=d) (ws:=[.str "take",.str "change"]) (s1 _ _ R.hp)
  have eG:(if Cs (.str d) [.str "take",.str "change"]=true then some xs else none)=DY d xs:=rfl
  rw[eG]at a1
  generalize(if Cs (.str d) [.str "take",.str "change"]=true then V.ref p else V.Ao)=gv at a1⊢
  refine⟨_,rfl,r2,k,a,b,p2,rfl,R2.up s1,fun l ps H2 s2 nl hl tu=>?_⟩
  have s12:=s1.trans s2
  refine⟨_,DY d xs,l,ps,_,rfl,a1.up s2,IV R.sx,hl,tu,IU R2.sx R2.sz,Nat.le_trans Lb (by decide),fun H3 s3=>⟨_,rfl,?_⟩⟩
  have s13:=s12.trans s3
  cases c1:CO (DY d xs) (CK k a b)with
  |true=>
   have:=q H3 s13
   rw[c1]at this
   exact BF (BF this)
  |false=>
  rw[c1]at q
  refine BO ⟨_,rfl,_,rfl,r,d,xs,zs,p,r2,k,a,b,p2,rfl,R.up s13,R2.up s13,fun H4 s4=>⟨_,rfl,?_⟩⟩
  have s14:=s13.trans s4
  cases c2:Fq d xs zs k a b with
  |true=>
   have:=q H4 s14
   rw[c2]at this
   exact BF this
  |false=>
  rw[c2]at q
  refine BO ⟨_,rfl,_,rfl,r,d,xs,zs,p,r2,k,a,b,p2,rfl,R.up s14,R2.up s14,fun H5 s5=>⟨_,rfl,?_⟩⟩
  have s15:=s14.trans s5
  cases c3:Ci d xs zs k a b with
  |true=>
   have:=q H5 s15
   rw[c3]at this
   exact BF (BF this)
  |false=>
  rw[c3]at q
  refine BO ⟨_,rfl,_,rfl,r,d,xs,zs,p,r2,k,a,b,p2,rfl,R.up s15,R2.up s15,fun H6 s6=>⟨_,rfl,?_⟩⟩
  have s16:=s15.trans s6
  cases c4:Cj d xs zs k a b with
  |true=>
   have:=q H6 s16
   rw[c4]at this
   exact BF (BF this)
  |false=>
  rw[c4]at q
  refine BO ⟨_,rfl,_,rfl,r,d,xs,zs,p,r2,k,a,b,p2,rfl,R.up s16,R2.up s16,fun H7 s7=>⟨_,rfl,?_⟩⟩
  have s17:=s16.trans s7
  cases c5:CT d xs zs k a b with
  |true=>
   have:=q H7 s17
   rw[c5]at this
   exact BF this
  |false=>
  rw[c5]at q
  refine BO ⟨_,rfl,_,rfl,r,d,xs,zs,p,r2,k,a,b,p2,rfl,R.up s17,R2.up s17,fun H8 s8=>⟨_,rfl,?_⟩⟩
  have s18:=s17.trans s8
  cases c6:CF d xs zs k a b with
  |false=>
   have:=q H8 s18
   rw[c6]at this
   exact BO this
  |true=>
   rw[c6]at q
   exact BF ⟨_,rfl,_,rfl,r2,k,a,b,p2,r,d,xs,zs,p,rfl,R2.up s18,R.up s18,fun H9 s9=>q _ (s18.trans s9)⟩
end
end Bu
namespace Bu
open PySem L2
section
variable{P:Program} {w:World} {K:ACH} [An K] {mg:Str->Option Value} {base:Heap}
theorem Lv:Aa ["one","other"] ["one","other"] (AH Ew):=⟨rfl,rfl,rfl,by decide+kernel,rfl,by decide+kernel,by decide+kernel⟩
theorem Qg {f:Addr} {v:FuncData} (F:DW K "clashes" "clashes" Ew f v) (T:Txt mg) (g:Df P w K mg base "clashes_one_way" ["one","other"] 7 (Cb Cd)):BG P w K mg base DC 8 f v ["one","other"] (Cb EO):=by
 obtain⟨k,l,b,c,d,e⟩:=g.ex
 refine F.ok Lv (fun y H Q E h=>?_) (fun z A outer s H y Q E x h=>?_)
 ·obtain⟨r,m,xs,zs,p,t,n,i,j,u,rfl,R,R2,q⟩:=h
  rfl
 ·obtain⟨r,m,xs,zs,p,t,n,i,j,u,rfl,R,R2,q⟩:=h
  have nd:=Lv.nd
  have G:=BC x
  have a:Ac 7 _:=x.mono (by first|decide|omega)
  refine⟨_,(AI (AL (fU (AG e a rfl d b c .nil AN (AA (pv 0) (AA (pv 1) AB))) (GU (AG e a rfl d b c .nil AN (AA (pv 1) (AA (pv 0) AB))))))),?_⟩
  refine⟨_,rfl,_,rfl,r,m,xs,zs,p,t,n,i,j,u,rfl,R,R2,fun B o=>⟨_,rfl,?_⟩⟩
  have C:EO m xs zs n i j=(Cd m xs zs n i j||Cd n i j m xs zs):=rfl
  rw[C]at q
  cases c1:Cd m xs zs n i j with
  |true=>
   have:=q B o
   rw[c1]at this
   exact BF this
  |false=>
   rw[c1]at q
   exact BO ⟨_,rfl,_,rfl,t,n,i,j,u,r,m,xs,zs,p,rfl,R2.up o,R.up o,fun I D=>q _ (o.trans D)⟩
end
end Bu
namespace Bu
open PySem L2
section
variable{P:Program} {w:World} {K:ACH} [An K] {mg:Str->Option Value} {base:Heap}
theorem Hd:Aa ["one","other","first","coming","step"] ["one","other","first"] (AH Cp):=⟨rfl,rfl,rfl,by decide+kernel,rfl,by decide+kernel,by decide+kernel⟩
theorem Kx {f:Addr} {fd:FuncData} (F:DW K "coming_over" "coming_over" Cp f fd) (T:Txt mg) (C:Df P w K mg base "is_place" ["step"] 1 Dg) (D:Df P w K mg base "comes_to" ["row"] 4 FE) (c:Df P w K mg base "place_behind" ["holder","place","row","ahead"] 5 JF) (Z:Df P w K mg base "after" ["path","row"] 7 JG):BG P w K mg base DC 8 f fd ["one","other","first"] Gr:=by
 obtain⟨Wu,Oi,G,I,J,L⟩:=C.ex
 obtain⟨Wv,Ww,M,N,O,S⟩:=D.ex
 obtain⟨X,Y,d,l,m,n⟩:=c.ex
 obtain⟨dO,dP,NG,NH,NI,NJ⟩:=Z.ex
 refine F.ok Hd (fun vs H Q E h=>?_) (fun Iq A outer s H vs Q E hr h=>?_)
 ·obtain⟨r,U,xs,zs,p,r2,w2,u,x,p2,fi,ys,rfl,R,R2,hc,hy,q⟩:=h
  rfl
 ·obtain⟨r,U,xs,zs,p,r2,w2,u,x,p2,fi,ys,rfl,R,R2,hc,hy,q⟩:=h
  have nd:=Hd.nd
  have hu:=BC hr
  have y:Ac 1 _:=hr.mono (by first|decide|omega)
  have B:Ac 4 _:=hr.mono (by first|decide|omega)
  have a:Ac 5 _:=hr.mono (by first|decide|omega)
  have V:Ac 7 _:=hr.mono (by first|decide|omega)
  refine⟨_,(AE (AV (i:=3) nd rfl (Or.inl rfl) (AG S B rfl O M N .nil AN (AA (pv 0) AB)))
   (AE (AV (i:=4) nd rfl (Or.inl rfl) (AO (r:=Af K) AM (pv 3) AD (fun _ _=>rfl)))
   (AE (Ag (Aw (AG L y rfl J G I .nil AN (AA (pv 4) AB))) (AI (AV (i:=4) nd rfl (Or.inl rfl) (AG n a rfl m d l .nil AN (AA (AO (r:=Af K) AM (pv 3) AD (fun _ _=>rfl)) (AA (pv 4) (AA (pv 1) (AA (Ox (pv 2)) AB))))))) AQ)
   (AI (AL (AZ FA (AG NJ V rfl NI NG NH .nil AN (AA (AO (r:=Af K) AM (pv 3) AD (fun _ _=>rfl)) (AA (pv 1) AB))) (A' (AA (pv 4) AB)))))))),?_⟩
  refine⟨_,rfl,r,U,xs,zs,p,rfl,R,fun v H1 s1 cm=>?_⟩
  unfold OI at cm
  rw[if_pos hc]at cm
  obtain⟨t,h3,lv,rfl,ht,hh,hg⟩:=cm
  have st:=DH (w:=U) R.sx R.sz
  have sv:Dc.As lv:=st lv (List.mem_of_getLast? hg)
  have sd:steps (Cr U xs zs).dropLast:=fun z hz=>st z (List.dropLast_subset _ hz)
  have gl:(Cr U xs zs).getLastD .Ao=lv:=by rw[List.getLastD_eq_getLast?,hg];rfl
  have lt:=Yu (w:=U) R.lx R.lz
  have ld:(Cr U xs zs).dropLast.length<=100:=by rw[List.length_dropLast];omega
  obtain⟨hs,ea,ey⟩:∃hs,Ay w2 u x (Cr U xs zs).dropLast=some hs/\hs++[Dt (Cr U xs zs).dropLast w2 u x (!fi) lv]=ys:=by
   unfold BD at hy
   rw[gl]at hy
   cases e:Ay w2 u x (Cr U xs zs).dropLast with
   |none=>rw[e]at hy;cases hy
   |some hs=>rw[e]at hy;exact⟨hs,rfl,ACF hy⟩
  have aI:=R2.up s1
  have lh:=En ea
  have iM:=R2.lz
  refine⟨_,rfl,t,_,1,_,rfl,rfl,Ah.of ht,EM,?_⟩
  dsimp only[Dm]
  refine J_ (t:=NQ _ _ _) (fun σ H'=>σ=[some r,some r2,some (.bl fi),some (.ref t),some (Dt (Cr U xs zs).dropLast w2 u x (!fi) lv)]/\AJ H1 H') (fun σ' H2 z=>?_) (fun k=>?_)
  ·obtain⟨rfl,s2⟩:=z
   refine⟨_,rfl,t,_,0,_,rfl,rfl,Ah.of (s2 _ _ ht),FU,_,rfl,h3,_,r2,w2,u,x,p2,rfl,s2 _ _ hh,sd,ld,aI.up s2,fun av H3 s3 af=>?_⟩
   rw[ea]at af
   obtain⟨b,rfl,hb⟩:=af
   refine⟨_,rfl,Fi,fun g nF=>?_⟩
   have sg:=AJ.new (o:=.tup [Dt (Cr U xs zs).dropLast w2 u x (!fi) lv]) nF
   refine⟨b,g,_,_,rfl,rfl,sg _ _ hb,AF,Az (by simp only[List.length_singleton];omega),fun g2 H4 s4 nH=>q g2 H4 ((((s1.trans s2).trans s3).trans sg).trans s4) ?_⟩
   rw[<-ey]
   exact nH
  ·refine⟨_,rfl,lv,rfl,sv,_,rfl,?_⟩
   rcases sv with⟨j,rfl⟩|⟨kk,rfl,_⟩
   ·refine BF ⟨_,rfl,t,_,0,_,rfl,rfl,Ah.of ht,FU,_,rfl,_,rfl,_,rfl,_,rfl,h3,_,_,r2,w2,u,x,p2,_,rfl,hh,sd,aI,fun H2 s2=>k _ _ ⟨rfl,s2⟩⟩
   ·exact BO (k _ _ ⟨rfl,AJ.refl _⟩)
end
end Bu
namespace Bu
open PySem L2
section
variable{P:Program} {w:World} {K:ACH} [An K] {mg:Str->Option Value} {base:Heap}
theorem Fz:Aa ["to","path","holder","place"] ["to","path"] (AH CJ):=⟨rfl,rfl,rfl,by decide+kernel,rfl,by decide+kernel,by decide+kernel⟩
theorem Iw {f:Addr} {fd:FuncData} (F:DW K "behind_taking" "behind_taking" CJ f fd) (T:Txt mg) (C:Df P w K mg base "is_place" ["step"] 1 Dg) (c:Df P w K mg base "place_into" ["path","holder"] 2 MX) (d:Df P w K mg base "with_place" ["path","holder","place"] 1 MY):BG P w K mg base DC 3 f fd ["to","path"] Hv:=by
 obtain⟨U,V,D,G,I,J⟩:=C.ex
 obtain⟨N,O,l,m,n,o⟩:=c.ex
 obtain⟨R,S,u,v,x,y⟩:=d.ex
 refine F.ok Fz (fun vs H Q E h=>?_) (fun Iq A outer s H vs Q E hr h=>?_)
 ·obtain⟨t,p,zs,xs,rfl,ht,hp,nx,sz,sx,lz,lx,q⟩:=h
  rfl
 ·obtain⟨t,p,zs,xs,rfl,ht,hp,nx,sz,sx,lz,lx,q⟩:=h
  have nd:=Fz.nd
  have hu:=BC hr
  have B:Ac 1 _:=hr.mono (by first|decide|omega)
  have a:Ac 2 _:=hr.mono (by first|decide|omega)
  have b:Ac 1 _:=hr.mono (by first|decide|omega)
  refine⟨_,(AE (AV (i:=2) nd rfl (Or.inl rfl) (BK CD (pv 1) Bn (BZ (CG BV AD))))
   (AE (AV (i:=3) nd rfl (Or.inl rfl) (AG o a rfl n l m .nil AN (AA (pv 0) (AA (pv 2) AB))))
   (AE (Ag (PW.pt (pw_or (AS GV (pv 3) BE (AX _)) (pw_or (E_ (Aw (AG J B rfl I D G .nil AN (AA (AO (r:=Af K) AM (pv 1) (CG BV AD) (fun _ _=>rfl)) AB)))) (pw_or1 (AS fm (pv 3) (AO (r:=Af K) AM (pv 1) (CG BV AD) (fun _ _=>rfl)) (AX _)))))) (AI (AL (pv 0))) AQ)
   (AI (AL (AG y b rfl x u v .nil AN (AA (pv 0) (AA (pv 2) (AA (AZ JQ (pv 3) AD) AB))))))))),?_⟩
  obtain⟨L,X,rfl⟩:∃L X,xs=L++[X]:=⟨xs.dropLast,xs.getLast nx,(List.dropLast_concat_getLast nx).symm⟩
  have su:steps L:=fun z hz=>sx z (List.mem_append_left _ hz)
  have sl:Dc.As X:=sx X (by simp)
  refine⟨_,rfl,_,rfl,_,rfl,p,_,rfl,hp,fun h H1 s1 hh=>?_⟩
  rw[By]at hh
  refine⟨_,rfl,_,rfl,t,h,zs,L,rfl,s1 _ _ ht,hh,sz,su,fun H2 s2=>?_⟩
  have M:=s1.trans s2
  have Y:=M _ _ ht
  have Z:=M _ _ hp
  have kC:=s2 _ _ hh
  have lu:L.length<=400:=by simp only[List.length_append,List.length_cons,List.length_nil]at lx;omega
  have keep:Bs zs (L++[X])=zs->Q (.ref t) H2:=fun e=>q t H2 M (by rw[e];exact Y)
  cases hb:(BB (zs.take L.length) L&&decide (L.length<zs.length)&&Ot (zs.getD L.length .Ao))with
  |false=>
   rw[LY hb]
   exact⟨_,rfl,rfl,_,rfl,Bj rfl (BF ⟨_,rfl,keep (IX hb)⟩)⟩
  |true=>
  obtain⟨i,g,e,b1,b2⟩:=LX sz hb
  rw[e]
  refine⟨_,rfl,rfl,_,rfl,BM rfl ?_⟩
  refine⟨_,rfl,_,rfl,p,_,_,_,rfl,rfl,Ah.of Z,Bo L X,_,rfl,sl,_,rfl,?_⟩
  rcases sl with⟨j,rfl⟩|⟨k,rfl,_⟩
  ·refine BO ?_
   refine⟨_,rfl,_,rfl,_,rfl,p,_,_,_,rfl,rfl,Ah.of Z,Bo L _,_,_,rfl,rfl,_,rfl,?_⟩
   have ea:=KJ (j:=(j:Int)) g b1
   refine DZ (fun c1=>⟨_,rfl,keep (by rw[ea];exact if_neg (by have:=of_decide_eq_true c1;omega))⟩) (fun c1=>?_)
   have n1:(j:Int)<(i:Int):=by
    have:¬(i:Int)<=(j:Int):=fun z=>c1 (decide_eq_true z)
    omega
   refine⟨_,rfl,_,rfl,_,rfl,_,_,rfl,rfl,t,h,zs,L,_,rfl,Y,kC,lz,lu,fun q' H3 s3 hq=>q q' H3 (M.trans s3) ?_⟩
   rw[ea,if_pos n1,<-CW (Eh (fun z hz=>sz z (List.mem_of_mem_take hz)) su b1) b2]
   exact hq
  ·exact BF (BF ⟨_,rfl,keep QF⟩)
end
end Bu
namespace Bu
open PySem L2
section
variable{P:Program} {w:World} {K:ACH} [An K] {mg:Str->Option Value} {base:Heap}
theorem XB:Aa ["one","other","first","word","path"] ["one","other","first"] (AH Ll):=⟨rfl,rfl,rfl,by decide+kernel,rfl,by decide+kernel,by decide+kernel⟩
theorem ZH {f:Addr} {fd:FuncData} (F:DW K "over" "over" Ll f fd) (T:Txt mg) (ZI:Df P w K mg base "copy_of" ["doc"] 2 Jv) (dQ:Df P w K mg base "after" ["path","row"] 7 JG) (XC:Df P w K mg base "clashes" ["one","other"] 8 (Cb EO)) (S:Df P w K mg base "coming_over" ["one","other","first"] 8 Gr) (G:Df P w K mg base "behind_taking" ["to","path"] 3 Hv):BG P w K mg base DC 9 f fd ["one","other","first"] QG:=by
 obtain⟨kH,kI,U,X,Y,Z⟩:=ZI.ex
 obtain⟨dO,dP,NG,NH,NI,NJ⟩:=dQ.ex
 obtain⟨iN,iO,XD,XE,XF,XG⟩:=XC.ex
 obtain⟨aQ,aR,j,k,l,m⟩:=S.ex
 obtain⟨Xd,Xe,I,J,L,M⟩:=G.ex
 refine F.ok XB (fun vs H Q E h=>?_) (fun Iq A outer s H vs Q E hr h=>?_)
 ·obtain⟨r,y,xs,zs,p,r2,w2,C,B,p2,fi,us,ws,rfl,RX,R2,lx,lz,zN,iM,kJ,nc,ho,q⟩:=h
  rfl
 ·obtain⟨r,y,xs,zs,p,r2,w2,C,B,p2,fi,us,ws,rfl,RX,R2,lx,lz,zN,iM,kJ,nc,ho,q⟩:=h
  have nd:=XB.nd
  have hu:=BC hr
  have O:Ac 2 _:=hr.mono (by first|decide|omega)
  have Rg:Ac 7 _:=hr.mono (by first|decide|omega)
  have Tj:Ac 8 _:=hr.mono (by first|decide|omega)
  have d:Ac 8 _:=hr.mono (by first|decide|omega)
  have D:Ac 3 _:=hr.mono (by first|decide|omega)
  refine⟨_,(AE (Ag (Aw (AG XG Tj rfl XF XD XE .nil AN (AA (pv 0) (AA (pv 1) AB)))) (AI Yv) AQ)
   (AE (AV (i:=3) nd rfl (Or.inl rfl) (AO (r:=Af K) AM (pv 0) AD (fun _ _=>rfl)))
   (AE (Ag (AS CP (pv 3) Ax (AX _)) (AI (AL (A' (AA (pv 3) (AA (AG m d rfl l j k .nil AN (AA (pv 0) (AA (pv 1) (AA (pv 2) AB)))) (AA (AG Z O rfl Y U X .nil AN (AA (AO (r:=Af K) AM (pv 0) AD (fun _ _=>rfl)) AB)) AB)))))) AQ)
   (AE (Ag (AS CP (pv 3) Ax (AX _)) (AI (AL (A' (AA (pv 3) (AA (AZ FA (AG NJ Rg rfl NI NG NH .nil AN (AA (BK CD (AO (r:=Af K) AM (pv 0) AD (fun _ _=>rfl)) Bn (BZ (CG BV AD))) (AA (pv 1) AB))) (BK CD (AO (r:=Af K) AM (pv 0) AD (fun _ _=>rfl)) (BZ (CG BV AD)) Bn)) AB))))) AQ)
   (AE (AV (i:=4) nd rfl (Or.inl rfl) (AG NJ Rg rfl NI NG NH .nil AN (AA (AO (r:=Af K) AM (pv 0) AD (fun _ _=>rfl)) (AA (pv 1) AB))))
   (AE (Ag (AS CP (pv 3) Ax (AX _)) (AI (AL (A' (AA (pv 3) (AA (pv 4) (AA (AG M D rfl L I J .nil AN (AA (AG m d rfl l j k .nil AN (AA (pv 0) (AA (pv 1) (AA (pv 2) AB)))) (AA (pv 4) AB))) AB)))))) AQ)
   (AE (Ag (AS CP (pv 3) Ax (AX _)) (AI (AL (A' (AA (pv 3) (AA (pv 4) (AA (AG m d rfl l j k .nil AN (AA (pv 0) (AA (pv 1) (AA (pv 2) AB)))) AB)))))) AQ)
   (AE (Ag (AS (DA:Dy _ _ (SE K false)) (pv 3) (A' (AA Ax (AA Ax AB))) rfl) (AI (AL (A' (AA (pv 3) (AA (pv 4) (AA (AG Z O rfl Y U X .nil AN (AA (AO (r:=Af K) AM (pv 0) AD (fun _ _=>rfl)) AB)) AB)))))) AQ)
   (AI (AL (AZ FA (A' (AA (pv 3) (AA (pv 4) AB))) (BK CD (pv 0) (BZ AD) Bn)))))))))))),?_⟩
  have R:=RX.rw
  obtain⟨a,rest,rfl,ha,T3⟩:=RX.th
  have n0:steps ([]:List V):=fun z hz=>nomatch hz
  have zO:w2="move"->B≠[]:=fun h=>R2.nz (.inr h)
  refine⟨_,rfl,_,rfl,_,y,xs,zs,p,r2,w2,C,B,p2,rfl,R,R2,fun H1 s1=>⟨_,rfl,?_⟩⟩
  rw[nc]
  refine BO ?_
  have Om:=s1 _ _ ha
  have T1:=T3.up s1
  have R1:=R.up s1
  have kK:=R2.up s1
  refine⟨_,rfl,a,_,0,_,rfl,rfl,Ah.of Om,FU,?_⟩
  by_cases N:y="put"
  ·subst N
   obtain⟨v,rfl,Ov,iP,nI,zP⟩:=T1.pc (.inl rfl)
   obtain⟨c,u⟩:=Hy (fi:=fi) (by decide) nc
   have eo:EC "put" xs zs w2 C B fi=some (c,[]):=by unfold EC;rw[if_pos rfl,u];rfl
   rw[eo]at ho
   cases ho
   have nx:=R.nx (.inl rfl)
   have et:Cr "put" xs zs=xs:=rfl
   refine⟨_,rfl,rfl,_,rfl,Bj (by decide) ?_⟩
   refine⟨_,rfl,_,rfl,_,rfl,_,rfl,_,"put",xs,zs,p,r2,w2,C,B,p2,fi,_,rfl,R1,kK,by decide,u,fun t H2 s2 W'=>?_⟩
   refine⟨_,rfl,a,_,2,_,rfl,rfl,Ah.of (s2 _ _ Om),at2,v,rfl,Dc.BS s2 Ov,Dc.MP v (by omega),by omega,fun v' H3 Fv lv'=>⟨Az (show 3<=1000 by decide),fun b hb=>?_⟩⟩
   have sb:=AJ.new (o:=.tup [.str "put",.ref t,v'.val]) hb
   have s3:=(s1.trans s2).trans (Fv.same.trans sb)
   refine q a b _ _ t _ s3 rfl ha (Du AF (sb _ _ (Fv.same _ _ W')) (Gs R.sx R.sz R2.sx R2.sz (by rw[et];exact nx) u) (by have:=KL lx lz iM u;omega) (by decide) (fun _=>Mp u) (Gn.val (.inl rfl) (Dc.BS sb Fv.at_) (Dc.GD v v' lv' iP) (by rw[<-Dc.GF v v' lv'];exact nI) (zP.of (Mj (Dc.BS s2 Ov) Fv.at_ lv'))) n0 (by decide) (fun h=>absurd h (by decide))) AF rfl (fun _=>⟨v,v',rfl,rfl,lv'⟩)
  refine⟨_,rfl,rfl,_,rfl,BM (JH N) ?_⟩
  by_cases iQ:y="lacks"
  ·subst iQ
   have nx:=R.nx (.inr (.inl rfl))
   obtain⟨us',lv,e⟩:∃us' lv,xs=us'++[lv]:=⟨xs.dropLast,xs.getLast nx,(List.dropLast_concat_getLast nx).symm⟩
   have ed:xs.dropLast=us':=by rw[e,List.dropLast_concat]
   obtain⟨hs,hn⟩:=Ft (n:=xs.dropLast) nc (by unfold CK nB;rw[if_pos rfl];simp)
   have eo:EC "lacks" xs zs w2 C B fi=some (hs++[lv],[]):=by
    unfold EC
    rw[if_neg (by decide),if_pos rfl,hn,e]
    simp
   rw[eo]at ho
   cases ho
   rw[ed]at hn
   have su:steps us':=fun z hz=>R.sx z (by rw[e];exact List.mem_append_left _ hz)
   have sl:Dc.As lv:=R.sx lv (by rw[e];simp)
   have Xb:=R1.hp
   rw[e]at Xb
   have lu:us'.length<=40:=by rw[e]at lx;simp at lx;omega
   refine⟨_,rfl,rfl,_,rfl,Bj (by decide) ?_⟩
   refine⟨_,rfl,_,rfl,a,_,1,_,rfl,rfl,Ah.of Om,EM,_,rfl,_,rfl,p,_,rfl,Xb,fun p3 H2 s2 aE=>?_⟩
   rw[By]at aE
   refine⟨_,rfl,p3,us',_,w2,C,B,p2,rfl,aE,su,by omega,kK.up s2,fun av H3 s3 af=>?_⟩
   rw[hn]at af
   obtain⟨b3,rfl,kL⟩:=af
   have s13:=s2.trans s3
   refine⟨_,rfl,a,_,1,_,rfl,rfl,Ah.of (s13 _ _ Om),EM,_,rfl,_,rfl,p,_,rfl,s13 _ _ Xb,fun p4 H4 s4 aH=>?_⟩
   rw[TN]at aH
   have s14:=s13.trans s4
   refine⟨b3,p4,hs,[lv],rfl,rfl,s4 _ _ kL,aH,Az (by have:=En hn;simp;omega),fun p5 H5 s5 fH=>⟨Am,fun b hb=>?_⟩⟩
   have sb:=AJ.new (o:=.tup [.str "lacks",.ref p5]) hb
   have s15:=s1.trans ((s14.trans s5).trans sb)
   obtain⟨a',ZJ,Qa⟩:=kJ (.inr (.inr rfl))
   cases ZJ
   have er:rest=[]:=by rw[ha]at Qa;exact(List.cons.inj (List.cons.inj (HO.tup.inj (ACF Qa))).2).2
   refine q a b _ _ p5 _ s15 rfl ha (Du AF (sb _ _ fH) ?_ (by have:=En hn;simp;omega) (by decide) (fun _=>by simp) (Gn.no (by decide)) n0 (by decide) (fun h=>absurd h (by decide))) AF (by rw[er]) (fun h=>absurd h (by decide))
   intro z hz
   rcases List.mem_append.mp hz with hz|hz
   ·exact Fs R2.sx R2.sz su hn z hz
   ·rw[List.mem_singleton.mp hz];exact sl
  refine⟨_,rfl,rfl,_,rfl,BM (JH iQ) ?_⟩
  have nJ:=R.wd
  simp only[Pu,List.mem_cons,List.not_mem_nil,or_false]at nJ
  obtain⟨q',iR⟩:=Ft (n:=xs) nc (by
   have:Cs (.str y) Vh=true:=by
    rcases nJ with h|rfl|rfl|rfl|rfl|rfl|rfl|h|rfl
    ·exact absurd h N
    all_goals first|exact absurd h iQ|decide
   unfold CK nA
   rw[if_pos this]
   simp)
  have fK:=Fs R2.sx R2.sz R.sx iR
  have lq':=En iR
  have dR:xs≠[]->q'≠[]:=fun h=>WN iR h zO
  refine⟨_,rfl,a,_,1,_,rfl,rfl,Ah.of Om,EM,_,rfl,p,xs,_,w2,C,B,p2,rfl,R1.hp,R.sx,by omega,kK,fun av H2 s2 af=>?_⟩
  rw[iR]at af
  obtain⟨b2,rfl,iS⟩:=af
  have Tt:=s2 _ _ Om
  have T2:=T1.up s2
  have xA:=R1.up s2
  have xB:=kK.up s2
  have s02:=s1.trans s2
  have eo:EC y xs zs w2 C B fi=(if y="move"then(BD y xs zs w2 C B fi).map fun c=>(q',Bs c q')else if y="copy"then(BD y xs zs w2 C B fi).map fun c=>(q',c)else some (q',[])):=by
   unfold EC
   rw[if_neg N,if_neg iQ,iR]
   rfl
  rw[eo]at ho
  by_cases dS:y="move"
  ·subst dS
   obtain⟨c,u⟩:=Hy (fi:=fi) (by decide) nc
   rw[if_pos rfl,u]at ho
   obtain⟨eu,ew⟩:=Prod.mk.inj (ACF ho)
   subst eu ew
   have nx:=R.nx (.inr (.inr (.inr rfl)))
   have nz:=R.nz (.inr rfl)
   have nt:Cr "move" xs zs≠[]:=by
    show CQ zs xs≠[]
    intro z
    have:=Cv zs xs
    rw[z]at this
    exact nz (List.eq_nil_of_length_eq_zero this.symm)
   have sc:=Gs R.sx R.sz R2.sx R2.sz nt u
   have lc:=KL lx lz iM u
   obtain⟨pz,er,_⟩:=T3.cm (.inr rfl)
   refine⟨_,rfl,rfl,_,rfl,Bj (by decide) ?_⟩
   refine⟨_,rfl,_,rfl,_,rfl,_,rfl,_,rfl,_,"move",xs,zs,p,r2,w2,C,B,p2,fi,_,rfl,xA,xB,by decide,u,fun t H3 s3 ZD=>?_⟩
   refine⟨_,rfl,t,b2,c,q',rfl,ZD,s3 _ _ iS,dR nx,sc,fK,by omega,by omega,fun t2 H4 s4 zQ=>⟨Az (show 3<=1000 by decide),fun b hb=>?_⟩⟩
   have sb:=AJ.new (o:=.tup [.str "move",.ref b2,.ref t2]) hb
   have iT:=(s3.trans s4).trans sb
   refine q a b _ _ b2 _ (s02.trans iT) rfl ha (Du AF (iT _ _ iS) fK (by omega) (by decide) (fun _=>dR nx) (Gn.two (.inr rfl) (sb _ _ zQ)) (Mq sc fK) (by rw[KN];omega) (fun _ z=>?_)) AF (by rw[er];rfl) (fun h=>absurd h (by decide))
   have:=KN c q'
   rw[z]at this
   exact Mp u (List.eq_nil_of_length_eq_zero this.symm)
  refine⟨_,rfl,rfl,_,rfl,BM (JH dS) ?_⟩
  rw[if_neg dS]at ho
  by_cases ZK:y="copy"
  ·subst ZK
   obtain⟨c,u⟩:=Hy (fi:=fi) (by decide) nc
   rw[if_pos rfl,u]at ho
   obtain⟨eu,ew⟩:=Prod.mk.inj (ACF ho)
   subst eu ew
   have nz:=R.nz (.inl rfl)
   have sc:=Gs R.sx R.sz R2.sx R2.sz (show Cr "copy" xs zs≠[]from nz) u
   have lc:=KL lx lz iM u
   obtain⟨pz,er,_⟩:=T3.cm (.inl rfl)
   refine⟨_,rfl,rfl,_,rfl,Bj (by decide) ?_⟩
   refine⟨_,rfl,_,rfl,_,rfl,_,rfl,_,rfl,_,"copy",xs,zs,p,r2,w2,C,B,p2,fi,_,rfl,xA,xB,by decide,u,fun t H3 s3 ZD=>⟨Az (show 3<=1000 by decide),fun b hb=>?_⟩⟩
   have sb:=AJ.new (o:=.tup [.str "copy",.ref b2,.ref t]) hb
   have xC:=s3.trans sb
   exact q a b _ _ b2 _ (s02.trans xC) rfl ha (Du AF (xC _ _ iS) fK (by omega) (by decide) (fun h=>absurd h (by decide)) (Gn.two (.inl rfl) (sb _ _ ZD)) sc (by omega) (fun _=>Mp u)) AF (by rw[er];rfl) (fun h=>absurd h (by decide))
  refine⟨_,rfl,rfl,_,rfl,BM (JH ZK) ?_⟩
  rw[if_neg ZK]at ho
  obtain⟨eu,ew⟩:=Prod.mk.inj (ACF ho)
  subst eu ew
  refine⟨_,rfl,Am,fun g hg=>⟨g,_,rfl,.inr (Ah.of AF),rfl,rfl,_,rfl,?_⟩⟩
  have sg:=AJ.new (o:=.tup [.str "change",.str "ask"]) hg
  generalize upd H2 g (.tup [.str "change",.str "ask"])=H3 at sg⊢
  have dU:=sg _ _ Tt
  have kL:=sg _ _ iS
  have s03:=s02.trans sg
  have xD:y="copy"∨y="move"->([]:List V)≠[]:=fun h=>h.elim (fun h=>absurd h ZK) fun h=>absurd h dS
  have xE:y="put"∨y="lacks"∨y="take"∨y="move"->q'≠[]:=fun h=>dR (R.nx h)
  refine Jz (fun bI=>?_) (fun bI=>?_)
  ·have hw:y="change"∨y="ask":=mZ.mp bI
   obtain⟨v,er,Ov,iP,nI,zR⟩:∃v:Dc,rest=[v.val]/\v.At H3/\v.ok/\v.size<=40/\(y="change"->v.size<=2/\Gm v):=by
    rcases hw with rfl|rfl
    ·obtain⟨v,e,h1,h2,h3,h4⟩:=(T2.up sg).pc (.inr rfl)
     exact⟨v,e,h1,h2,by omega,fun _=>⟨h3,h4⟩⟩
    ·obtain⟨v,e,h1,h2,h3⟩:=(T2.up sg).ak rfl
     exact⟨v,e,h1,h2,h3,fun h=>absurd h (by decide)⟩
   subst er
   refine⟨_,rfl,_,rfl,_,rfl,a,_,2,_,rfl,rfl,Ah.of dU,at2,v,rfl,Ov,Dc.MP v (by omega),by omega,fun v' H4 Fv lv'=>⟨Az (show 3<=1000 by decide),fun b hb=>?_⟩⟩
   have sb:=AJ.new (o:=.tup [.str y,.ref b2,v'.val]) hb
   have iT:=Fv.same.trans sb
   have xF:=Dc.GD v v' lv' iP
   have sz':=Dc.GF v v' lv'
   have TT:Gn (upd H4 b (.tup [.str y,.ref b2,v'.val])) y [] [v'.val]:=by
    rcases hw with rfl|rfl
    ·obtain⟨h3,h4⟩:=zR rfl
     exact Gn.val (.inr rfl) (Dc.BS sb Fv.at_) xF (by omega) (h4.of (Mj Ov Fv.at_ lv'))
    ·exact Gn.ask (Dc.BS sb Fv.at_) xF (by omega)
   exact q a b _ _ b2 _ (s03.trans iT) rfl ha (Du AF (iT _ _ kL) fK (by omega) R.wd xE TT n0 (by decide) xD) AF rfl (fun h=>absurd h N)
  ·have zS:y="take"∨y="has"∨y="is":=by
    rcases nJ with h|h|h|h|rfl|rfl|h|h|h
    ·exact absurd h N
    ·exact .inl h
    ·exact absurd h dS
    ·exact absurd h ZK
    ·exact absurd bI (by decide)
    ·exact absurd bI (by decide)
    ·exact .inr (.inl h)
    ·exact absurd h iQ
    ·exact .inr (.inr h)
   have lr:rest.length<=1/\Gn H3 y [] rest:=by
    rcases zS with rfl|rfl|rfl
    ·obtain⟨a',ZJ,Qa⟩:=kJ (.inl rfl)
     cases ZJ
     rw[ha]at Qa
     have er:rest=[]:=(List.cons.inj (List.cons.inj (HO.tup.inj (ACF Qa))).2).2
     exact⟨by rw[er];simp,Gn.no (by decide)⟩
    ·obtain⟨a',ZJ,Qa⟩:=kJ (.inr (.inl rfl))
     cases ZJ
     rw[ha]at Qa
     have er:rest=[]:=(List.cons.inj (List.cons.inj (HO.tup.inj (ACF Qa))).2).2
     exact⟨by rw[er];simp,Gn.no (by decide)⟩
    ·obtain⟨x,rfl⟩:=T3.is rfl
     exact⟨by simp,Gn.zC⟩
   refine⟨_,rfl,_,rfl,Am,fun g2 nH=>?_⟩
   have nK:=AJ.new (o:=.tup [.str y,.ref b2]) nH
   have xG:upd H3 g2 (.tup [.str y,.ref b2]) g2=some (.tup [.str y,.ref b2]):=AF
   generalize upd H3 g2 (.tup [.str y,.ref b2])=H4 at nK xG⊢
   refine⟨_,rfl,_,rfl,a,_,rfl,nK _ _ dU,fun g5 H5 s5 xH=>?_⟩
   have ec:FY (V.str y::V.ref p::rest) (some 2) none=rest:=by
    have:=Hn (V.str y::V.ref p::rest) 2
    simpa using this
   rw[ec]at xH
   refine⟨g2,g5,_,_,rfl,rfl,s5 _ _ xG,xH,Az (by simp;omega),fun b H6 s6 xI=>?_⟩
   have s36:=(nK.trans s5).trans s6
   exact q a b _ _ b2 _ (s03.trans s36) rfl ha (Du xI (s36 _ _ kL) fK (by omega) R.wd xE (lr.2.up s36) n0 (by decide) xD) xI rfl (fun h=>absurd h N)
end
end Bu
namespace Bu
open PySem L2
section
variable{P:Program} {w:World} {K:ACH} [An K] {mg:Str->Option Value} {base:Heap}
theorem XH:Aa ["_law_script","_law_k"] ["_law_script","_law_k"] (AH Lm):=⟨rfl,rfl,rfl,by decide+kernel,rfl,by decide+kernel,by decide+kernel⟩
theorem ZL {f:Addr} {d:FuncData} (F:DW K "_law_cell" "_law_cell" Lm f d) (T:Txt mg):BG P w K mg base DC 1 f d ["_law_script","_law_k"] (Pc K):=by
 refine F.ok XH (fun g H Q E h=>?_) (fun i A outer s H g Q E j h=>?_)
 ·obtain⟨a,b,k,rfl,c,q⟩:=h
  rfl
 ·obtain⟨a,b,k,rfl,c,q⟩:=h
  have nd:=XH.nd
  have n:=BC j
  refine⟨_,(AE (Ag (AS NS (pv 1) (Ad Aq rfl T.len PySem.boot_len (AA (pv 0) AB)) (AX _)) (AI (AL (AZ Bk (AO (r:=EJ K) Bp (pv 0) (pv 1) (fun _ _=>rfl)) (AZ UH AD AD)))) AQ)
   (AI (AL (AZ BY AD (AZ FX AD (pv 1)))))),?_⟩
  refine⟨_,rfl,_,rfl,a,_,rfl,.inl c,_,_,rfl,rfl,_,rfl,?_⟩
  refine DZ (fun e=>?_) (fun e=>?_)
  ·have l:k<b.length:=by
    have:=of_decide_eq_true e
    rw[List.length_map]at this
    omega
   have m:(b.map V.int)[k]?=some (.int b[k]):=by rw[List.getElem?_map,ACD l];rfl
   exact⟨_,rfl,_,rfl,a,_,_,_,rfl,rfl,c,CM m,_,_,rfl,rfl,⟨by decide,by decide,by decide⟩,_,_,rfl,rfl,(by show(0:Int)<_;decide),q _ (Int.emod_nonneg _ (by decide))⟩
  ·exact⟨_,rfl,_,_,rfl,rfl,.inl ⟨by decide,by decide⟩,_,_,rfl,rfl,q _ (by omega)⟩
end
end Bu
namespace Bu
open PySem L2
section
variable{P:Program} {w:World} {K:ACH} [An K] {mg:Str->Option Value} {base:Heap}
theorem aS:Aa ["_law_cell_here","_law_k","_law_number","_law_j"] ["_law_cell_here","_law_k"] (AH QW):=⟨rfl,rfl,rfl,by decide+kernel,rfl,by decide+kernel,by decide+kernel⟩
theorem XI {f:Addr} {n:FuncData} (F:DW K "_law_mix" "_law_mix" QW f n) (T:Txt mg):BG P w K mg base DC 1 f n ["_law_cell_here","_law_k"] MN:=by
 refine F.ok aS (fun p H Q E h=>?_) (fun r A outer s H p Q E t h=>?_)
 ·obtain⟨c,k,rfl,u,q⟩:=h
  rfl
 ·obtain⟨c,k,rfl,u,q⟩:=h
  have nd:=aS.nd
  have v:=BC t
  refine⟨_,(AE (Ag (PW.pt (pw_and (AS CP (AZ Bk (pv 0) AD) AD (AX _)) (pw_and1 (AS ZZ (pv 0) (AZ FX AD (AZ UH AD AD)) (AX _))))) (AE (AV (i:=2) nd rfl (Or.inl rfl) (AZ F_ (pv 0) AD))
   (AE (JO PassesOwn.never rfl (ET rfl T.range (AA (pv 1) AB)) (Dx (i:=3) nd rfl (Or.inl rfl)) (AI (AV (i:=2) nd rfl (Or.inl rfl) (AZ F_ (pv 2) AD))))
   (AI (AL (AZ Bk (pv 2) AD))))) AQ)
   (AE (AV (i:=2) nd rfl (Or.inl rfl) (AZ Bk (AZ FX (AZ BY (pv 0) AD) AD) AD))
   (AE (AV (i:=2) nd rfl (Or.inl rfl) (AZ Bk (AZ BY (pv 2) (AZ FX (AZ BY (pv 1) AD) AD)) AD))
   (AE (AV (i:=2) nd rfl (Or.inl rfl) (AZ Bk (AZ FX (pv 2) (pv 2)) AD))
   (AE (AV (i:=2) nd rfl (Or.inl rfl) (AZ Bk (AZ FX (AZ BY (pv 2) AD) (AZ BY (AZ F_ (pv 2) AD) AD)) AD))
   (AI (AL (AZ F_ (pv 2) AD)))))))),?_⟩
  have lo:∀x:Int,-(2 ^ 64)<x % 2305843009213693951/\x % 2305843009213693951<2 ^ 64:=fun x=>by
   have b:=Int.emod_nonneg x (show(2305843009213693951:Int)≠0 by decide)
   have d:=Int.emod_lt_of_pos x (show(0:Int)<2305843009213693951 by decide)
   constructor<;>omega
  have lo1:∀x:Int,-(2 ^ 64)<x % 999999999999999989+1/\x % 999999999999999989+1<2 ^ 64:=fun x=>by
   have b:=Int.emod_nonneg x (show(999999999999999989:Int)≠0 by decide)
   have d:=Int.emod_lt_of_pos x (show(0:Int)<999999999999999989 by decide)
   constructor<;>omega
  have o:¬(c % 4=0/\4*10 ^ 60<=c)->Q (.int ((Nx c k+1)*(Nx c k/1000003+7) % 2305843009213693951/7919)) H:=fun h=>by
   have e:Jk c k=_:=if_neg h
   rw[e]at q
   exact q
  refine⟨_,rfl,_,_,rfl,rfl,(by show(0:Int)<_;decide),rfl,_,rfl,?_⟩
  refine DZ (fun b=>?_) (fun b=>?_)
  ·refine⟨_,rfl,_,_,rfl,rfl,⟨by decide,by decide,by decide⟩,_,_,rfl,rfl,.inl ⟨by decide,by decide⟩,_,_,rfl,rfl,_,rfl,?_⟩
   have c4:c % 4=0:=V.int.inj (of_decide_eq_true b)
   refine DZ (fun d=>?_) (fun d=>?_)
   ·have g:4*10 ^ 60<=c:=of_decide_eq_true d
    have e:Jk c k=_:=if_pos ⟨c4,g⟩
    rw[e]at q
    refine⟨_,rfl,_,_,rfl,rfl,⟨by decide,by decide⟩,?_⟩
    refine⟨_,rfl,_,rfl,by omega,by omega,Hk (lo:=0) (fun i j l=>∃(m:Option V),j=[some (.int c),some (.int (k:Int)),some (.int (Uz i (c/4))),m]/\l=H) ⟨none,rfl,rfl⟩ ?_ ?_⟩
    ·rintro i j l y ⟨m,rfl,rfl⟩
     exact⟨_,rfl,_,_,rfl,rfl,⟨by decide,by decide⟩,_,rfl,rfl⟩
    ·rintro j l ⟨m,rfl,rfl⟩
     rw[Int.toNat_natCast]
     exact⟨_,rfl,_,_,rfl,rfl,(by show(0:Int)<_;decide),q⟩
   ·have a:¬(c % 4=0/\4*10 ^ 60<=c):=fun z=>d (decide_eq_true z.2)
    refine⟨_,rfl,_,_,rfl,rfl,_,_,rfl,rfl,.inr ⟨by decide,by decide⟩,_,_,rfl,rfl,(by show(0:Int)<_;decide),?_⟩
    refine⟨_,rfl,_,rfl,_,_,rfl,rfl,_,_,rfl,rfl,.inr ⟨by decide,by decide⟩,_,_,rfl,rfl,_,_,rfl,rfl,(by show(0:Int)<_;decide),?_⟩
    refine⟨_,rfl,_,rfl,_,_,rfl,rfl,.inl (lo _),_,_,rfl,rfl,(by show(0:Int)<_;decide),?_⟩
    refine⟨_,rfl,_,_,rfl,rfl,_,rfl,_,_,rfl,rfl,⟨by decide,by decide⟩,_,_,rfl,rfl,_,_,rfl,rfl,.inl (lo1 _),_,_,rfl,rfl,(by show(0:Int)<_;decide),?_⟩
    exact⟨_,rfl,_,_,rfl,rfl,⟨by decide,by decide⟩,o a⟩
  ·refine BO ?_
   have a:¬(c % 4=0/\4*10 ^ 60<=c):=fun z=>b (decide_eq_true (congrArg V.int z.1))
   refine⟨_,rfl,_,_,rfl,rfl,_,_,rfl,rfl,.inr ⟨by decide,by decide⟩,_,_,rfl,rfl,(by show(0:Int)<_;decide),?_⟩
   refine⟨_,rfl,_,rfl,_,_,rfl,rfl,_,_,rfl,rfl,.inr ⟨by decide,by decide⟩,_,_,rfl,rfl,_,_,rfl,rfl,(by show(0:Int)<_;decide),?_⟩
   refine⟨_,rfl,_,rfl,_,_,rfl,rfl,.inl (lo _),_,_,rfl,rfl,(by show(0:Int)<_;decide),?_⟩
   refine⟨_,rfl,_,_,rfl,rfl,_,rfl,_,_,rfl,rfl,⟨by decide,by decide⟩,_,_,rfl,rfl,_,_,rfl,rfl,.inl (lo1 _),_,_,rfl,rfl,(by show(0:Int)<_;decide),?_⟩
   exact⟨_,rfl,_,_,rfl,rfl,⟨by decide,by decide⟩,o a⟩
theorem ZM {f:Addr} {a:FuncData} (F:DW K "_law_mix" "_law_mix" QW f a) (T:Txt mg):BG P w K mg base DC 1 f a ["_law_cell_here","_law_k"] Nw:=(XI F T).imp fun _ _ _ _ h=>U' h
end
end Bu
namespace Bu
open PySem L2
section
variable{P:Program} {w:World} {K:ACH} [An K] {mg:Str->Option Value} {base:Heap}
theorem Rh:Aa ["_law_one","_law_two","_law_letters","_law_word","_law_size","_law_at","_law_shift","_law_names_here","_law_k","_law_sign"] ["_law_one","_law_two"] (AH IE):=⟨rfl,rfl,rfl,by decide+kernel,rfl,by decide+kernel,by decide+kernel⟩
theorem XJ {f:Addr} {fd:FuncData} (F:DW K "_law_names" "_law_names" IE f fd) (T:Txt mg) (XM:Df P w K mg base "_law_mix" ["_law_cell_here","_law_k"] 1 MN):BG P w K mg base DC 2 f fd ["_law_one","_law_two"] MO:=by
 obtain⟨iU,iV,k,l,o,t⟩:=XM.ex
 refine F.ok Rh (fun vs H Q E h=>?_) (fun Iq A outer s H vs Q E hr h=>?_)
 ·obtain⟨c,d,rfl,q⟩:=h
  rfl
 ·obtain⟨c,d,rfl,q⟩:=h
  have nd:=Rh.nd
  have hu:=BC hr
  have b:Ac 1 _:=hr.mono (by first|decide|omega)
  refine⟨_,(AE (AV (i:=2) nd rfl (Or.inr rfl) Ax)
   (AE (AV (i:=3) nd rfl (Or.inl rfl) (Fb PySem.F.plainAttrs_str PySem.F.slot_str_join PySem.F.type_str_join YD Ax (AA (GB (fv:=["_law_letters","_law_one"]) (fs:=[2,0]) rfl (.of (by rfl)) (ET rfl T.range (AA AD AB)) (fun _ _ _ _=>GA) (fun C s0 H0 fp=>(AO UR (pv 1) (AZ Bk (AG t b rfl o k l .nil AN (AA (pv 2) (AA (pv 0) AB))) AD) (fun _ _=>rfl)))) AB)))
   (AE (AV (i:=4) nd rfl (Or.inl rfl) (AZ BY AD (AZ Bk (AG t b rfl o k l .nil AN (AA (pv 1) (AA AD AB))) AD)))
   (AE (AV (i:=5) nd rfl (Or.inl rfl) (AZ Bk (AG t b rfl o k l .nil AN (AA (pv 1) (AA AD AB))) (pv 4)))
   (AE (AV (i:=6) nd rfl (Or.inl rfl) (AZ Bk (AG t b rfl o k l .nil AN (AA (pv 1) (AA AD AB))) AD))
   (AE (AV (i:=7) nd rfl (Or.inl rfl) (EI AB))
   (AE (JO PassesOwn.never rfl (ET rfl T.range (AA AD AB)) (Dx (i:=8) nd rfl (Or.inl rfl)) (AI (Ag (AS CP (AZ Bk (AG t b rfl o k l .nil AN (AA (pv 1) (AA AD AB))) AD) AD (AX _)) (AI (Dw (Fb PySem.F.plainAttrs_list PySem.F.slot_list_append PySem.F.type_list_append Ce (pv 7) (AA (BK PU (pv 3) Bn (BZ (AZ BY (AZ BY (pv 8) AD) (AZ Bk (pv 6) AD)))) AB)))) (AE (AV (i:=9) nd rfl (Or.inl rfl) (AO UR (pv 2) (AZ Bk (AZ BY (pv 6) (AZ FX AD (pv 8))) AD) (fun _ _=>rfl)))
   (AI (Dw (Fb PySem.F.plainAttrs_list PySem.F.slot_list_append PySem.F.type_list_append Ce (pv 7) (AA (AZ JS (AZ JS (BK PU (pv 3) Bn (BZ (pv 5))) (pv 9)) (BK PU (pv 3) (BZ (AZ BY (pv 5) AD)) (BZ (pv 4)))) AB))))))))
   (AI (AL (pv 7)))))))))),?_⟩
  refine⟨rfl,8,rfl,by decide,by decide,Ui (n:=8) (fun i=>.int (0+(i:Int))) (fun _ v=>gT v) (by decide) (fun i H2 hi s2=>hi) (fun i H2 v H' hi s2 y=>⟨y.2,y.1⟩) (fun H2 s2=>Nat.le_refl _) (fun i H2 R hi s2 r=>?_) (fun D H2 u hD s2 d2 ly oy=>?_)⟩
  ·refine⟨_,rfl,_,rfl,_,rfl,c,i,by simp,by omega,?_⟩
   obtain⟨L,I,hl⟩:=Ux (Jk c i % 26) (IL _).1 (IL _).2
   exact⟨_,_,rfl,rfl,(by show(0:Int)<_;decide),YK,_,L,rfl,rfl,by decide,I,r _ H2 (AJ.refl H2) ⟨L,rfl,hl⟩⟩
  ·obtain⟨zs,e1,h1,h2,h3⟩:=LM u fun y M=>by
    obtain⟨j,S,e⟩:=List.mem_iff_getElem.mp M
    exact oy j y (by rw[ACD S,e])
   subst e1
   have lz:zs.length=8:=by rw[<-ly,List.length_map]
   have sz:∀zs:List Str,(∀z∈zs,z.length=1)->(zs.map (·.length)).sum=zs.length:=by
    intro zs
    induction zs with
    |nil=>intro _;rfl
    |cons z r ih=>
     intro h
     rw[List.map_cons,List.sum_cons,ih fun y M=>h y (List.mem_cons_of_mem _ M),h z List.mem_cons_self,List.length_cons]
     omega
   refine⟨_,D,zs,rfl,rfl,Bd.of d2,?_,?_⟩
   ·rw[sz zs h1,lz]
    decide
   obtain⟨W,hW⟩:∃W,W=Txt.join "" zs:=⟨_,rfl⟩
   have U:(sgn W).length=8:=by rw[hW,Nt,h2,List.length_map,lz]
   have wL:(sgn W).all Up=true:=by rw[hW,Nt];exact h3
   have wz:W.length=8:=by rw[<-PY];exact U
   rw[<-hW]
   obtain⟨G,zT⟩:∃r,r=Jk d 0:=⟨_,rfl⟩
   refine⟨_,rfl,d,0,rfl,by decide,_,_,rfl,rfl,(by show(0:Int)<_;decide),_,_,rfl,rfl,?_⟩
   rw[<-zT]
   have b1:0<=G % 8/\G % 8<8:=⟨Int.emod_nonneg _ (by decide),Int.emod_lt_of_pos _ (by decide)⟩
   obtain⟨J,wa⟩:∃z:Nat,1+G % 8=(z:Int):=⟨(1+G % 8).toNat,by omega⟩
   have bs:1<=J/\J<=8:=by omega
   obtain⟨r2,nM⟩:∃r,r=Jk d 1:=⟨_,rfl⟩
   refine⟨_,rfl,d,1,rfl,by decide,_,rfl,_,_,rfl,rfl,(by show(0:Int)<1+G % 8;omega),?_⟩
   rw[<-nM]
   have b2:0<=r2 % (1+G % 8)/\r2 % (1+G % 8)<1+G % 8:=⟨Int.emod_nonneg _ (by omega),Int.emod_lt_of_pos _ (by omega)⟩
   obtain⟨EM,Om⟩:∃z:Nat,r2 % (1+G % 8)=(z:Int):=⟨(r2 % (1+G % 8)).toNat,by omega⟩
   have b2':EM<J:=by omega
   obtain⟨r3,zU⟩:∃r,r=Jk d 2:=⟨_,rfl⟩
   refine⟨_,rfl,d,2,rfl,by decide,_,_,rfl,rfl,(by show(0:Int)<_;decide),?_⟩
   rw[<-zU]
   have b3:=IL r3
   obtain⟨x,nN⟩:∃z:Int,z=1+G % 8:=⟨_,rfl⟩
   obtain⟨a,nO⟩:∃z:Int,z=r2 % (1+G % 8):=⟨_,rfl⟩
   obtain⟨g,zV⟩:∃z:Int,z=r3 % 26:=⟨_,rfl⟩
   obtain⟨r4,zW⟩:∃r,r=Jk d 3:=⟨_,rfl⟩
   obtain⟨B,X⟩:∃B:Nat->Str->Prop,B=fun(j:Nat) (y:Str)=>if r4 % 3=0 then((sgn y).length:Int)=(j:Int)+1+g % 3 else(sgn y)[EM]?=YH[((g+5*(j:Int)) % 26).toNat]?:=⟨_,rfl⟩
   refine⟨Nat.zero_le _,fun p hp=>?_⟩
   have pf:H p=none:=s2.free hp
   refine⟨6,rfl,by decide,by decide,Hk (lo:=0) (n:=6) (fun i σ Y=>∃(u:List Str) (ok os:Option V),σ=[some (.int c),some (.int d),some (.str YK),some (.str W),some (.int x),some (.int a),some (.int g),some (.ref p),ok,os]/\
    AJ H Y/\Y p=some (.lst (u.map V.str))/\u.length=i/\(∀(j:Nat) y,u[j]?=some y->B j y)/\∀y∈u,Be y=true) ⟨[],none,none,by rw[nN,nO,zV];rfl,s2.put pf,AF,rfl,fun j y M=>(by simp at M),fun y M=>nomatch M⟩ ?_ ?_⟩
   ·rintro i σ Y hi ⟨u,ok,os,rfl,s3,d3,N,pm,ny⟩
    have more:∀(y:Str) (oo Z:Option V),B i y/\Be y=true->∃(O:List Str) (ok os:Option V),[some (V.int c),some (V.int d),some (V.str YK),some (V.str W),some (V.int x),some (V.int a),some (V.int g),some (V.ref p),oo,Z]=
      [some (V.int c),some (V.int d),some (V.str YK),some (V.str W),some (V.int x),some (V.int a),some (V.int g),some (V.ref p),ok,os]/\
      AJ H (upd Y p (.lst (u.map V.str++[.str y])))/\upd Y p (.lst (u.map V.str++[.str y])) p=some (.lst (O.map V.str))/\O.length=i+1/\(∀(j:Nat) y,O[j]?=some y->B j y)/\∀z∈O,Be z=true:=fun y oo Z M=>
     ⟨u++[y],oo,Z,rfl,s3.put pf,by rw[AF,List.map_append];rfl,by simp[N],fun j z S=>by
      by_cases cq:j<u.length
      ·rw[List.getElem?_append_left cq]at S
       exact pm j z S
      ·have hl:=(ACE S).1
       rw[List.length_append,List.length_singleton]at hl
       have e:j=i:=by omega
       subst e
       rw[List.getElem?_append_right (by omega),N,Nat.sub_self]at S
       have e:y=z:=by simpa using S
       rw[<-e]
       exact M.1,fun z hz=>(List.mem_append.mp hz).elim (ny z) fun hz=>by rw[List.mem_singleton.mp hz];exact M.2⟩
    have xJ:(u.map V.str).length<sizeLine:=BQ (by rw[List.length_map];omega)
    refine⟨_,rfl,d,3,rfl,by decide,_,_,rfl,rfl,(by show(0:Int)<_;decide),rfl,_,rfl,?_⟩
    rw[<-zW]
    refine DZ (fun h4=>?_) (fun h4=>?_)
    ·refine⟨_,rfl,.inl ⟨rfl,_,Bd.of d3⟩,_,rfl,_,rfl,_,_,rfl,rfl,_,rfl,_,_,rfl,rfl,(by show(0:Int)<_;decide),_,_,rfl,rfl,_,rfl,W,rfl,by rw[wz];decide,p,_,_,rfl,rfl,d3,xJ,more _ _ _ ⟨?_,?_⟩⟩
     ·have c4:r4 % 3=0:=V.int.inj (of_decide_eq_true h4)
      rw[X]
      simp only[if_pos c4]
      obtain⟨n,hn⟩:∃n:Nat,0+(i:Int)+1+g % 3=(n:Int):=⟨(0+(i:Int)+1+g % 3).toNat,by omega⟩
      rw[hn,EZ,MJ,List.length_take,U]
      omega
     obtain⟨n,hn⟩:∃n:Nat,0+(i:Int)+1+g % 3=(n:Int):=⟨(0+(i:Int)+1+g % 3).toNat,by omega⟩
     show Nr (sgn (Txt.slice W none (some (0+(i:Int)+1+g % 3))))=true
     rw[hn,EZ,MJ]
     refine Nu ?_ ?_ (Jh wL n)
     ·rw[List.length_take,U];omega
     ·rw[List.length_take,U];omega
    ·obtain⟨L,I,hl⟩:=Ux ((g+5*(0+(i:Int))) % 26) (IL _).1 (IL _).2
     refine⟨_,rfl,_,rfl,_,rfl,_,_,rfl,rfl,.inl ⟨by decide,by decide⟩,_,_,rfl,rfl,_,_,rfl,rfl,(by show(0:Int)<_;decide),YK,_,L,rfl,rfl,by decide,I,?_⟩
     have l1:(Txt.slice W none (some a)).length<=8:=by rw[<-wz];exact Txt.slice_le W _ _
     have l2:(Txt.slice W (some (a+1)) (some x)).length<=8:=by rw[<-wz];exact Txt.slice_le W _ _
     have l3:(Txt.slice W none (some a)++(⟨#[L]⟩:Str)).length<=9:=by rw[Str.length_append];show _+1<=9;omega
     refine⟨_,rfl,.inl ⟨rfl,_,Bd.of d3⟩,_,rfl,_,rfl,_,rfl,W,rfl,by rw[wz];decide,_,rfl,_,_,rfl,rfl,?_,_,rfl,_,rfl,_,_,rfl,rfl,_,rfl,_,rfl,_,rfl,W,rfl,by rw[wz];decide,_,_,rfl,rfl,?_,p,_,_,rfl,rfl,d3,xJ,more _ _ _ ⟨?_,?_⟩⟩
     ·exact Nat.le_of_lt (BQ (by show(Txt.slice W none (some a)).length+1<=1000;omega))
     ·exact Nat.le_of_lt (BQ (by omega))
     ·have c4:¬r4 % 3=0:=fun z=>h4 (decide_eq_true (congrArg V.int z))
      rw[X]
      simp only[if_neg c4]
      have e0:a=(EM:Int):=by omega
      rw[DE,DE,EZ,e0,MJ]
      have ec:sgn ⟨#[L]⟩=[L]:=rfl
      rw[ec]
      have lt:((sgn W).take EM).length=EM:=by rw[List.length_take,U];omega
      rw[List.getElem?_append_left (by rw[List.length_append,lt,List.length_singleton];omega),List.getElem?_append_right (by rw[lt];exact Nat.le_refl _),lt,Nat.sub_self]
      have hb:=IL (g+5*(0+(i:Int)))
      obtain⟨m,hm⟩:∃m:Nat,(g+5*(0+(i:Int))) % 26=(m:Int):=⟨((g+5*(0+(i:Int))) % 26).toNat,by omega⟩
      have hz:(g+5*(i:Int)) % 26=(m:Int):=by rw[<-hm,Int.zero_add]
      rw[hz,Int.toNat_natCast]
      rw[hm]at I
      obtain⟨j',g1,g2,g3,_⟩:=G_ I
      have:j'=m:=by
       have nP:m<(sgn YK).length:=by show m<YH.length;rw[MM];omega
       have:=CM (xs:=sgn YK) (j:=m) (ACD nP)
       obtain⟨j2,k1,_⟩:=G_ this
       have q1:SD (sgn YK).length (m:Int)=some m:=by
        unfold SD
        rw[if_pos (by omega),if_pos (by omega),Int.toNat_natCast]
       have:=(I_ q1).1
       rw[this]at g1
       exact(ACF g1).symm
      rw[this]at g2
      exact g2.symm
     ·show Nr (sgn (Txt.slice W none (some a)++⟨#[L]⟩++Txt.slice W (some (a+1)) (some x)))=true
      have e0:a=(EM:Int):=by omega
      have e1:(EM:Int)+1=((EM+1:Nat):Int):=by omega
      have e2:x=(J:Int):=by omega
      rw[DE,DE,EZ,EZ,e0,e1,e2,MJ,YI _ _ _ (by omega) (by rw[U];omega)]
      have ec:sgn ⟨#[L]⟩=[L]:=rfl
      rw[ec]
      refine Nu ?_ ?_ ?_
      ·simp only[List.length_append,List.length_take,List.length_drop,U,List.length_singleton];omega
      ·simp only[List.length_append,List.length_take,List.length_drop,U,List.length_singleton];omega
      ·rw[List.all_append,List.all_append,Jh wL,Us (Jh wL J)]
       simp[hl]
   ·rintro σ Y ⟨u,ok,os,rfl,s3,d3,N,pm,ny⟩
    refine⟨_,rfl,q p u Y s3 pf d3 N (VA B pm fun i j y hij S p1 p2=>?_) ny⟩
    rw[X]at p1 p2
    have hb:=(IL (g+5*(i:Int)))
    have iS:=(IL (g+5*(j:Int)))
    by_cases c4:r4 % 3=0
    ·simp only[if_pos c4]at p1 p2
     omega
    ·simp only[if_neg c4]at p1 p2
     rw[p1]at p2
     have nl:YH.Nodup:=by decide+kernel
     have h1:((g+5*(i:Int)) % 26).toNat<YH.length:=by rw[MM];omega
     have:=(List.getElem?_inj h1 nl).mp p2
     omega
end
end Bu
namespace Bu
open PySem L2
section
variable{P:Program} {w:World} {K:ACH} [An K] {mg:Str->Option Value} {base:Heap}
theorem XN:Aa ["_law_doc"] ["_law_doc"] (AH Kc):=⟨rfl,rfl,rfl,by decide+kernel,rfl,by decide+kernel,by decide+kernel⟩
theorem ZN {n:Nat} {f:Addr} {fd:FuncData} (F:DW K "_law_copy" "_law_copy" Kc f fd) (T:Txt mg) (Z:Df P w K mg base "_law_copy" ["_law_doc"] n (Jt n)):BG P w K mg base DC (n+1) f fd ["_law_doc"] (Jt (n+1)):=by
 obtain⟨iW,iX,G,I,J,L⟩:=Z.ex
 refine F.ok XN (fun vs H Q E h=>?_) (fun Iq A outer s H vs Q E hr h=>?_)
 ·obtain⟨d,rfl,c,nQ,hsz,q⟩:=h
  rfl
 ·obtain⟨d,rfl,c,nQ,hsz,q⟩:=h
  have nd:=XN.nd
  have hu:=BC hr
  have B:Ac n _:=hr.mono (by first|decide|omega)
  refine⟨_,(AE (Ag (Aw (Ad BR rfl T.isinstance Ar (AA (pv 0) (AA (CL (v:=.ty "list") rfl T.list Gb rfl) AB)))) (AI (AL (GB (fv:=[]) (fs:=[]) rfl (.of (by rfl)) (Gw (pv 0)) (fun _ _ _ _=>GA) (fun C s0 H0 fp=>(AG L B rfl J G I .nil AN (AA (pv 0) AB)))))) AQ)
   (AE (Ag (Aw (Ad BR rfl T.isinstance Ar (AA (pv 0) (AA (CL (v:=.ty "dict") rfl T.dict Gd rfl) AB)))) (AI (AL (C' (Ir rfl) rfl T.dict Gd (AA (YX (GB (fv:=["_law_doc"]) (fs:=[0]) rfl (.of (by rfl)) (YR (pv 0)) (fun _ _ _ _=>GA) (fun C s0 H0 fp=>(A' (AA (pv 0) (AA (AG L B rfl J G I .nil AN (AA (HA hu (pv 1) (pv 0) (fun _ _=>rfl)) AB)) AB)))))) AB)))) AQ)
   (AI (AL (pv 0))))),?_⟩
  cases d with
  |leaf v=>
   refine⟨_,rfl,_,"list",Dc.Xa (.leaf v),rfl,rfl,Dc.Ho c,_,rfl,BM (by cases v<;>rfl) ?_⟩
   refine⟨_,rfl,_,"dict",Dc.Xa (.leaf v),rfl,rfl,Dc.Ho c,_,rfl,BM (by cases v<;>rfl) ?_⟩
   exact⟨_,rfl,q (.leaf v) H ⟨AJ.refl H,c,.nil,fun a h=>(nomatch h),fun a h=>(nomatch h)⟩ (Dc.LP _)⟩
  |row a xs=>
   refine⟨_,rfl,_,"list",_,rfl,rfl,Dc.Ho c,_,rfl,Bj rfl ?_⟩
   simp only[Dc.At]at c
   simp only[Dc.size]at hsz
   simp only[Dc.deep]at nQ
   have lx:=Dc.GZ xs
   refine⟨_,rfl,a,rfl,⟨_,.inl c.1⟩,?_⟩
   refine MS xs.length (fun i=>(xs.map Dc.val).getD i .Ao) (fun D i l=>∃g,Al H l g/\D∉Dc.AK g/\l D=some (.lst (g.map Dc.val))/\g.length=i/\Dc.Aj (xs.take i) g)
    (fun D M=>⟨[],.nil (AJ.new M),(fun h=>nomatch h),AF,rfl,by simp[Dc.Aj]⟩) (fun D i l U ⟨g,F,_⟩=>⟨_,_,.inl (c.1.up (F.same _)),ACD (by rw[List.length_map];exact U)⟩)
    (fun D i l v H' U ⟨g,F,_⟩ y=>?_) (fun D l ⟨g,F,_⟩=>⟨_,.inl (c.1.up (F.same _)),by rw[List.length_map];exact Nat.le_refl _⟩) (fun D i l M U ⟨g,F,nD,X,Y,lk⟩=>?_) (fun D l M ⟨g,F,nD,X,Y,lk⟩=>?_)
   ·obtain⟨e,y⟩:=y
    refine⟨?_,e⟩
    have:=y _ (.inl (c.1.up (F.same _)))
    rw[List.getD_eq_getElem?_getD,this]
    rfl
   ·obtain⟨x,hx⟩:∃x,xs[i]?=some x:=⟨_,ACD U⟩
    have hm:=ACG hx
    have dx:=Dc.Bz hm
    have sx:=Dc.Ea hm
    have ev:(xs.map Dc.val).getD i .Ao=x.val:=by rw[List.getD_eq_getElem?_getD,List.getElem?_map,hx];rfl
    rw[ev]
    refine⟨_,rfl,x,rfl,Dc.BS F.same (Dc.CV c.2 x hm),by omega,by omega,fun N H3 f nR=>?_⟩
    have F3:=F.snoc f
    have zX:=f.same _ _ X
    have O:D∉Dc.AK (g++[N]):=by
     rw[Dc.AU]
     simp only[Dc.AK,List.append_nil,List.mem_append,not_or]
     exact⟨nD,fun z=>by have:=f.new D z;rw[X]at this;cases this⟩
    refine⟨_,zX,BQ (by rw[List.length_map];omega),g++[N],F3.frame (F3.same.put M) (fun b u o e=>?_),O,?_,by simp[Y],?_⟩
    ·rw[AR (fun z=>O (by rw[<-z];exact u))]
     exact e
    ·rw[AF,List.map_append];rfl
    ·rw[List.take_add_one,hx]
     exact Dc.HF lk (by simp[Dc.Aj,nR])
   ·rw[List.take_length]at lk
    exact q (.row D g) l (F.row M nD X) (by simp only[Dc.BA];exact lk)
  |tab a R xs=>
   refine⟨_,rfl,_,"list",_,rfl,rfl,Dc.Ho c,_,rfl,BM rfl ?_⟩
   refine⟨_,rfl,_,"dict",_,rfl,rfl,Dc.Ho c,_,rfl,Bj rfl ?_⟩
   simp only[Dc.At]at c
   simp only[Dc.size]at hsz
   simp only[Dc.deep]at nQ
   have lx:=Dc.GZ xs
   have kl:=Dc.HG c.2.1
   refine⟨a,_,c.1,fun o Hf F=>⟨_,rfl,a,o,_,rfl,F.at_,?_⟩⟩
   refine MS xs.length (fun i=>.str (R.getD i "")) (fun D i l=>∃(g:List Dc) (S:List Addr),Al Hf l g/\D∉Dc.AK g/\l D=some (.lst (S.map V.ref))/\S.length=i/\g.length=i/\Dc.Aj (xs.take i) g/\
     ∀(j:Nat) e,g[j]?=some e->∃t,S[j]?=some t/\l t=some (.tup [.str (R.getD j ""),e.val])/\Hf t=none)
    (fun D M=>⟨[],[],.nil (AJ.new M),(fun h=>nomatch h),AF,rfl,rfl,by simp[Dc.Aj],fun j e h=>by simp at h⟩) (fun D i l U ⟨g,S,m,_⟩=>⟨m.same _ _ F.at_,by rw[kl];exact U⟩)
    (fun D i l v H' U ⟨g,S,m,_⟩ y=>?_) (fun D l ⟨g,S,m,_⟩=>⟨m.same _ _ F.at_,kl.symm⟩) (fun D i l M U ⟨g,S,m,nD,X,lt,Y,lk,tp⟩=>?_) (fun D l M ⟨g,S,m,nD,X,lt,Y,lk,tp⟩=>?_)
   ·obtain⟨e,k,v',e1,e2⟩:=y
    obtain⟨nm,x,h1,h2,h3,h4,_⟩:=Dc.Pg c.2.1 c.2.2.1 e1
    refine⟨?_,e⟩
    rw[e2,h3,List.getD_eq_getElem?_getD,h1]
    rfl
   ·obtain⟨kv,mB⟩:∃kv,(Dc.kvs R xs)[i]?=some kv:=⟨_,ACD (by rw[kl];exact U)⟩
    obtain⟨nm,x,h1,h2,h3,h4,h5,h6⟩:=Dc.Pg c.2.1 c.2.2.1 (k:=kv.1) (v:=kv.2) mB
    have hm:=ACG h2
    have dx:=Dc.Bz hm
    have sx:=Dc.Ea hm
    have en:R.getD i ""=nm:=by rw[List.getD_eq_getElem?_getD,h1];rfl
    rw[en]
    have xK:FN H l:=F.rd.trans m.same.r
    refine⟨_,rfl,_,rfl,_,rfl,a,x.val,rfl,(by rw[<-h6];exact .inl ⟨_,Sum.inr nm,xK a _ c.1,rfl,rfl⟩),x,rfl,Dc.VF xK (Dc.CV c.2.2.2 x hm),by omega,by omega,fun N H3 f nR=>⟨Am,fun t ht=>?_⟩⟩
    have F3:=m.snoc f
    have F4:=F3.up (AJ.new (o:=.tup [.str nm,N.val]) ht)
    have xM:=(AJ.new (o:=.tup [.str nm,N.val]) ht) _ _ (f.same _ _ X)
    have O:D∉Dc.AK (g++[N]):=by
     rw[Dc.AU]
     simp only[Dc.AK,List.append_nil,List.mem_append,not_or]
     exact⟨nD,fun z=>by have:=f.new D z;rw[X]at this;cases this⟩
    have eX:∀{t':Addr} {ys:List V},upd H3 t (.tup [.str nm,N.val]) t'=some (.tup ys)->t'≠D:=fun h=>Tu h xM (by intro z;cases z)
    refine⟨_,xM,BQ (by rw[List.length_map];omega),g++[N],S++[t],F4.frame (F4.same.put M) (fun b u o e=>?_),O,by rw[AF,List.map_append];rfl,by simp[lt],by simp[Y],?_,fun j e hj=>?_⟩
    ·rw[AR (fun z=>O (by rw[<-z];exact u))]
     exact e
    ·rw[List.take_add_one,h2]
     exact Dc.HF lk (by simp[Dc.Aj,nR])
    ·by_cases cq:j<g.length
     ·rw[List.getElem?_append_left cq]at hj
      obtain⟨t',g1,g2,g3⟩:=tp j e hj
      have kM:=(AJ.new (o:=.tup [.str nm,N.val]) ht) _ _ (f.same _ _ g2)
      exact⟨t',by rw[List.getElem?_append_left (by omega)];exact g1,by rw[AR (eX kM)];exact kM,g3⟩
     ·have hl:=(ACE hj).1
      rw[List.length_append,List.length_singleton]at hl
      have ej:j=i:=by omega
      subst ej
      rw[List.getElem?_append_right (by omega),Y,Nat.sub_self]at hj
      have e1:N=e:=by simpa using hj
      subst e1
      refine⟨t,by rw[List.getElem?_append_right (by omega),lt,Nat.sub_self];rfl,?_,F3.same.free ht⟩
      rw[AR (eX (ys:=[.str nm,N.val]) AF),AF,en]
   ·refine⟨m.same _ _ F.at_,?_⟩
    rw[List.take_length]at lk
    have sb:=F.back m.same
    have ba:∀b,b≠a->back a H l b=l b:=fun b u=>RD u
    have Da:D≠a:=(F.free M).2
    have el:R.length=g.length:=by rw[Y,c.2.1]
    refine⟨D,S,Dc.kvs R g,rfl,Bd.of (by rw[ba D Da];exact X),by rw[lt,Dc.HG el,Y],fun j k v e=>?_,by rw[Dc.HG el,Y];omega,fun p hp=>?_⟩
    ·obtain⟨nm,x,h1,h2,h3,h4,_⟩:=Dc.Pg el c.2.2.1 e
     obtain⟨t,g1,g2,g3⟩:=tp j x h2
     refine⟨t,g1,?_⟩
     rw[ba t (F.free g3).2,g2,h3,h4,List.getD_eq_getElem?_getD,h1]
     rfl
    ·have nk:((Dc.kvs R g).map (·.1)).Nodup:=by
      rw[Dc.Dq el]
      exact List.Pairwise.map _ (fun a b h z=>h (Sum.inr.inj z)) c.2.2.1
     have mk:DB [] (Dc.kvs R g)=Dc.kvs R g:=FC _ _ (by simpa using nk)
     rw[mk]
     have xN:H p=none:=sb.free hp
     have np:p∉Dc.AK g:=fun z=>by
      have h1:=Dc.MT m.at_ z
      have pa:p≠a:=(F.free (m.new p z)).2
      rw[ba p pa]at hp
      exact h1 hp
     have FL:Al H (upd (back a H l) p (.dK (Dc.kvs R g))) g:=by
      refine⟨sb.put xN,Dc.BL g (fun b u o e=>?_) m.at_,m.nd,fun b u=>?_,fun b u=>(F.free (m.new b u)).1⟩
      ·rw[AR (fun z=>np (by rw[<-z];exact u)),ba b (F.free (m.new b u)).2]
       exact e
      ·refine Fj (Dc.MT m.at_ u) (m.own b u) (fun o e=>?_)
       rw[AR (fun z=>np (by rw[<-z];exact u)),ba b (F.free (m.new b u)).2]
       exact e
     exact q (.tab p R g) _ (FL.tab xN np el c.2.2.1 AF) (by simp only[Dc.BA];exact⟨trivial,lk⟩)
theorem Oo {f:Addr} {a:FuncData} (F:DW K "_law_copy" "_law_copy" Kc f a) (T:Txt mg) (b:Binds K a ["_law_doc"] []) (m:mg "_law_copy"=some (.ref f)):∀n:Nat,BG P w K mg base DC n f a ["_law_doc"] (Jt n)
 |0=>gU (fun vs H Q E h=>by obtain⟨d,_,_,c,_⟩:=h;have:=Dc.Jr d;omega)
 |n+1=>ZN F T (Df.mk' F b m (Oo F T b m n))
end
end Bu
namespace Bu
open PySem L2
section
variable{P:Program} {w:World} {K:ACH} [An K] {mg:Str->Option Value} {base:Heap}
theorem Ri:Aa ["_law_doc","_law_path","_law_step"] ["_law_doc","_law_path"] (AH IF):=⟨rfl,rfl,rfl,by decide+kernel,rfl,by decide+kernel,by decide+kernel⟩
theorem XO {f:Addr} {I:FuncData} (F:DW K "_law_found" "_law_found" IF f I) (T:Txt mg):BG P w K mg base DC 1 f I ["_law_doc","_law_path"] Ek:=by
 refine F.ok Ri (fun M H Q E h=>?_) (fun N A outer s H M Q E O h=>?_)
 ·obtain⟨d,t,xs,rfl,n,C,J,q⟩:=h
  rfl
 ·obtain⟨d,t,xs,rfl,n,C,J,q⟩:=h
  have nd:=Ri.nd
  have L:=BC O
  refine⟨_,(AE (JO PassesOwn.never rfl (bB (pv 1)) (Dx (i:=2) nd rfl (Or.inl rfl)) (AE (Ag (PW.pt (pw_and (Aw (Ad BR rfl T.isinstance Ar (AA (pv 2) (AA (CL (v:=.ty "str") rfl T.str Qy rfl) AB)))) (pw_and1 (PW.pt (pw_or (E_ (Aw (Ad BR rfl T.isinstance Ar (AA (pv 0) (AA (CL (v:=.ty "dict") rfl T.dict Gd rfl) AB))))) (pw_or1 (Tw (SI L (pv 2) (pv 0))))))))) (AI (AL BE)) AQ)
   (AE (Ag (PW.pt (pw_and (E_ (Aw (Ad BR rfl T.isinstance Ar (AA (pv 2) (AA (CL (v:=.ty "str") rfl T.str Qy rfl) AB))))) (pw_and1 (PW.pt (pw_or (E_ (Aw (Ad BR rfl T.isinstance Ar (AA (pv 0) (AA (CL (v:=.ty "list") rfl T.list Gb rfl) AB))))) (pw_or1 (AS ZZ (pv 2) (Ad Aq rfl T.len PySem.boot_len (AA (pv 0) AB)) (AX _)))))))) (AI (AL BE)) AQ)
   (AI (AV (i:=0) nd rfl (Or.inl rfl) (Jn (AO (r:=EJ K) Bp (pv 0) (pv 2) (fun _ _=>rfl)) (HA L (pv 0) (pv 2) (fun _ _=>rfl))))))))
   (AI (AL (pv 0)))),?_⟩
  refine⟨_,rfl,t,rfl,⟨_,Ah.of C⟩,Xl (xs:=xs) (fun i u o=>∃(p:Dc) (D:Option V),u=[some p.val,some (.ref t),D]/\o=H/\p.At H/\d.sub xs=p.sub (xs.drop i)) ⟨d,none,rfl,rfl,n,rfl⟩ (fun i u o _ ⟨_,_,_,e,_⟩=>by rw[e];exact Ah.of C) ?_ ?_⟩
  ·rintro i z u o G ⟨p,D,rfl,rfl,c,m⟩
   have R:=(ACE G).1
   have S:xs.drop i=z::xs.drop (i+1):=by rw[List.drop_eq_getElem_cons R,(ACE G).2]
   rw[S]at m
   have no:p.sub [z]=none->Q .Ao o:=fun h=>by
    rw[m,Dc.Ko h]at q
    exact q
   rcases J z (ACG G)with⟨j,rfl⟩|⟨k,rfl,_⟩
   ·refine⟨_,rfl,_,"str","int",rfl,rfl,.int _,_,rfl,BO (BO ?_)⟩
    refine⟨_,rfl,_,"str","int",rfl,rfl,.int _,_,rfl,BF ?_⟩
    cases p with
    |leaf v=>exact⟨_,rfl,_,"list",_,rfl,rfl,Dc.Ho c,_,rfl,Bj (by cases v<;>rfl) (BF (no rfl))⟩
    |tab a x g=>exact⟨_,rfl,_,"list",_,rfl,rfl,Dc.Ho c,_,rfl,BF (BF (no rfl))⟩
    |row a g=>
     have b:=c
     simp only[Dc.At]at b
     refine⟨_,rfl,_,"list",_,rfl,rfl,Dc.Ho c,_,rfl,BO ⟨_,rfl,_,rfl,a,_,rfl,.inl (.inl b.1),_,_,rfl,rfl,_,rfl,?_⟩⟩
     by_cases U:j<g.length
     ·have l:g[j]?=some g[j]:=ACD U
      refine BM (decide_eq_false (by rw[List.length_map];omega)) (.inl ⟨_,rfl,_,rfl,a,_,_,_,rfl,rfl,.inl b.1,CM (by rw[List.getElem?_map,l];rfl),_,_,rfl,rfl,Dc.CV b.2 _ (ACG l),?_⟩)
      rw[m,Dc.GG l]
     ·refine Bj (decide_eq_true (by rw[List.length_map];omega)) (no ?_)
      simp only[Dc.sub]
      rw[if_pos (by omega),Int.toNat_natCast,List.getElem?_eq_none_iff.mpr (by omega)]
      rfl
   ·refine⟨_,rfl,_,"str","str",rfl,rfl,.str _,_,rfl,BF ?_⟩
    cases p with
    |leaf v=>exact⟨_,rfl,_,"dict",_,rfl,rfl,Dc.Ho c,_,rfl,Bj (by cases v<;>rfl) (BF (no rfl))⟩
    |row a g=>exact⟨_,rfl,_,"dict",_,rfl,rfl,Dc.Ho c,_,rfl,BF (BF (no rfl))⟩
    |tab a x g=>
     have b:=c
     simp only[Dc.At]at b
     refine⟨_,rfl,_,"dict",_,rfl,rfl,Dc.Ho c,_,rfl,BO ⟨_,rfl,_,rfl,a,_,rfl,.inl ⟨_,Sum.inr k,b.1,rfl,rfl⟩,_,rfl,?_⟩⟩
     cases l:(x.zip g).lookup k with
     |none=>
      have B:Ct (Dc.kvs x g) (Sum.inr k)=none:=by rw[Dc.Eb b.2.1,l];rfl
      refine Bj (by rw[B];rfl) (no ?_)
      simp only[Dc.sub,l]
      rfl
     |some y=>
      have B:Ct (Dc.kvs x g) (Sum.inr k)=some y.val:=by rw[Dc.Eb b.2.1,l];rfl
      refine BM (by rw[B];rfl) ?_
      refine⟨_,rfl,_,"str","str",rfl,rfl,.str _,_,rfl,BO (BO ?_)⟩
      refine .inr ⟨_,rfl,_,rfl,a,y.val,rfl,(by rw[<-B];exact .inl ⟨_,Sum.inr k,b.1,rfl,rfl⟩),y,_,rfl,rfl,Dc.CV b.2.2.2 y (Dc.Ae l).2,?_⟩
      rw[m,Dc.EB l]
  ·rintro u o ⟨p,D,rfl,rfl,c,m⟩
   rw[List.drop_length,Dc.Ba]at m
   rw[m]at q
   exact⟨_,rfl,q⟩
end
end Bu
namespace Bu
open PySem L2
section
variable{P:Program} {w:World} {K:ACH} [An K] {mg:Str->Option Value} {base:Heap}
theorem aT:Aa ["_law_doc","_law_path","_law_value","_law_holder","_law_step"] ["_law_doc","_law_path","_law_value"] (AH TX):=⟨rfl,rfl,rfl,by decide+kernel,rfl,by decide+kernel,by decide+kernel⟩
theorem dV {f:Addr} {fd:FuncData} (F:DW K "_law_put" "_law_put" TX f fd) (T:Txt mg) (I:Df P w K mg base "_law_found" ["_law_doc","_law_path"] 1 Ek):BG P w K mg base DC 2 f fd ["_law_doc","_law_path","_law_value"] Mr:=by
 obtain⟨XP,XQ,J,L,M,N⟩:=I.ex
 refine F.ok aT (fun vs H Q E h=>?_) (fun Iq A outer s H vs Q E hr h=>?_)
 ·obtain⟨G,d,v,t,xs,rfl,F,hsz,ht,hx,nx,q,qn⟩:=h
  rfl
 ·obtain⟨G,d,v,t,xs,rfl,F,hsz,ht,hx,nx,q,qn⟩:=h
  have nd:=aT.nd
  have hu:=BC hr
  have p:Ac 1 _:=hr.mono (by first|decide|omega)
  refine⟨_,(AE (AV (i:=3) nd rfl (Or.inl rfl) (AG N p rfl M J L .nil AN (AA (pv 0) (AA (BK CD (pv 1) Bn (BZ (CG BV AD))) AB))))
   (AE (AV (i:=4) nd rfl (Or.inl rfl) (AO (r:=Af K) AM (pv 1) (CG BV AD) (fun _ _=>rfl)))
   (AE (Ag (Aw (Ad BR rfl T.isinstance Ar (AA (pv 4) (AA (CL (v:=.ty "str") rfl T.str Qy rfl) AB)))) (AE (Ag (PW.pt (pw_or (E_ (Aw (Ad BR rfl T.isinstance Ar (AA (pv 3) (AA (CL (v:=.ty "dict") rfl T.dict Gd rfl) AB))))) (pw_or1 (Tw (bP hu (pv 4) (pv 3)))))) (AI (AL BE)) AQ)
   (AE (MF hu (pv 3) (pv 4) (pv 2) rfl)
   (AI (AL (pv 0))))) AQ)
   (AE (Ag (PW.pt (pw_or (E_ (Aw (Ad BR rfl T.isinstance Ar (AA (pv 3) (AA (CL (v:=.ty "list") rfl T.list Gb rfl) AB))))) (pw_or1 (AS ZY (pv 4) (Ad Aq rfl T.len PySem.boot_len (AA (pv 3) AB)) (AX _))))) (AI (AL BE)) AQ)
   (AE (Dw (Fb PySem.F.plainAttrs_list PySem.F.slot_list_insert PySem.F.type_list_insert SQ (pv 3) (AA (pv 4) (AA (pv 2) AB))))
   (AI (AL (pv 0)))))))),?_⟩
  obtain⟨O,lv,rfl⟩:∃O lv,xs=O++[lv]:=⟨xs.dropLast,xs.getLast nx,(List.dropLast_concat_getLast nx).symm⟩
  have nS:steps O:=fun z hz=>hx z (List.mem_append_left _ hz)
  have F1:=F.one
  refine⟨_,rfl,_,rfl,_,rfl,_,rfl,t,_,rfl,ht,fun p1 H1 s1 Xb=>?_⟩
  rw[By]at Xb
  have Xc:=s1 _ _ ht
  have FL:=F.up s1
  have B:=FL.one
  refine⟨d,p1,O,rfl,B.at_,Xb,nS,?_⟩
  refine⟨_,rfl,_,rfl,t,_,_,_,rfl,rfl,Ah.of Xc,Bo O _,?_⟩
  have Ov:=FL.two.at_
  rcases hx lv (by simp)with⟨i,rfl⟩|⟨k,rfl,nk⟩
  ·refine⟨_,rfl,_,"str","int",rfl,rfl,.int _,_,rfl,BO ?_⟩
   cases m:d.sub O with
   |none=>exact⟨_,rfl,_,"list","NoneType",rfl,rfl,.Ao,_,rfl,BF (BF (qn (fun U V e h h'=>by obtain⟨rfl,rfl⟩:=Eg h;rw[m]at h';cases h') _ s1))⟩
   |some e=>
   have no:e.room (.int (i:Int))=false->Q .Ao H1:=fun h=>qn (fun U V e2 h1 S=>by obtain⟨rfl,rfl⟩:=Eg h1;rw[m]at S;cases S;exact h) _ s1
   have P:=Dc.BI.sub m
   have g:=P.at_ B.at_
   cases e with
   |leaf w'=>exact⟨_,rfl,_,"list",Dc.Xa (.leaf w'),rfl,rfl,Dc.Ho g,_,rfl,Bj (by cases w'<;>rfl) (BF (no rfl))⟩
   |tab b R j=>exact⟨_,rfl,_,"list",_,rfl,rfl,Dc.Ho g,_,rfl,Bj rfl (BF (no rfl))⟩
   |row b j=>
    refine⟨_,rfl,_,"list",_,rfl,rfl,Dc.Ho g,_,rfl,BM rfl ?_⟩
    simp only[Dc.At]at g
    refine⟨_,rfl,_,rfl,b,_,rfl,.inl (.inl g.1),_,_,rfl,rfl,_,rfl,DZ (fun h=>no (by have h:=of_decide_eq_true h;rw[List.length_map]at h;simp only[Dc.room,Bool.and_eq_false_iff,decide_eq_false_iff_not];right;omega)) (fun h=>?_)⟩
    have hi:i<=j.length:=by
     refine Nat.le_of_not_lt fun z=>h (decide_eq_true ?_)
     rw[List.length_map]
     omega
    have C:(Dc.row b j).room (.int (i:Int))=true:=by
     simp only[Dc.room,Bool.and_eq_true,decide_eq_true_eq]
     omega
    have eb:=g.1.exact (B.own b (P.addrs b (by simp[Dc.addrs])))
    have lx:=Dc.GZ j
    have X:=P.size
    simp only[Dc.size]at X
    refine⟨_,rfl,.inl ⟨rfl,_,Bd.of eb⟩,_,rfl,_,rfl,b,_,i,_,rfl,rfl,eb,by rw[List.length_map];exact hi,BQ (by rw[List.length_map];omega),?_⟩
    refine⟨_,rfl,q O _ _ rfl m C _ (Bf.insert FL m C rfl (by simp[Dc.addrs]) ?_ (fun a o ha h=>by rw[AR ha];exact h) (fun o u z=>by rw[AF]at z;cases z))⟩
    simp only[Dc.DS,Int.toNat_natCast,Dc.At]
    have bt:=P.addrs b (by simp[Dc.addrs])
    have nb:b∉Dc.AK j:=by
     obtain⟨l,r,e1,_⟩:=Dc.DG (n:=Dc.row b j) (Dc.EA d B.at_) B.nd m
     have:=B.nd
     rw[e1]at this
     have:=(List.nodup_append.mp (List.nodup_append.mp this).1).2.1
     simp only[Dc.addrs]at this
     exact(List.nodup_cons.mp this).1
    have Y:Dc.DF (upd H1 b (.lst ((j.map Dc.val).take i++v.val::(j.map Dc.val).drop i))) j:=Dc.BL j (fun c Z o h=>by rw[AR (fun z=>nb (by rw[<-z];exact Z))];exact h) g.2
    have D:v.At (upd H1 b (.lst ((j.map Dc.val).take i++v.val::(j.map Dc.val).drop i))):=Dc.Fh v (fun c Z o h=>by rw[AR (fun z=>FL.apart c Z (by rw[z];exact bt))];exact h) Ov
    refine⟨.inl ?_,(Dc.BW _ _).mpr ?_⟩
    ·rw[AF,List.map_append,List.map_cons,List.map_take,List.map_drop]
    ·have S:=(Dc.BW (j.take i) (j.drop i)).mp (by rw[List.take_append_drop];exact Y)
     refine⟨S.1,?_⟩
     simp only[Dc.DF]
     exact⟨D,S.2⟩
  ·refine⟨_,rfl,_,"str","str",rfl,rfl,.str _,_,rfl,BF ?_⟩
   cases m:d.sub O with
   |none=>exact⟨_,rfl,_,"dict","NoneType",rfl,rfl,.Ao,_,rfl,BF (BF (qn (fun U V e h h'=>by obtain⟨rfl,rfl⟩:=Eg h;rw[m]at h';cases h') _ s1))⟩
   |some e=>
   have no:e.room (.str k)=false->Q .Ao H1:=fun h=>qn (fun U V e2 h1 S=>by obtain⟨rfl,rfl⟩:=Eg h1;rw[m]at S;cases S;exact h) _ s1
   have P:=Dc.BI.sub m
   have g:=P.at_ B.at_
   cases e with
   |leaf w'=>exact⟨_,rfl,_,"dict",Dc.Xa (.leaf w'),rfl,rfl,Dc.Ho g,_,rfl,Bj (by cases w'<;>rfl) (BF (no rfl))⟩
   |row b j=>exact⟨_,rfl,_,"dict",_,rfl,rfl,Dc.Ho g,_,rfl,Bj rfl (BF (no rfl))⟩
   |tab b R j=>
    refine⟨_,rfl,_,"dict",_,rfl,rfl,Dc.Ho g,_,rfl,BM rfl ?_⟩
    simp only[Dc.At]at g
    refine⟨_,rfl,_,rfl,b,_,rfl,.inl ⟨_,Sum.inr k,g.1,rfl,rfl⟩,_,rfl,?_⟩
    rw[Dc.Eb g.2.1]
    by_cases hk:k∈R
    ·obtain⟨y,hy,_⟩:=Dc.DO g.2.1 hk
     rw[hy]
     exact BF (no (by simp[Dc.room,hk]))
    ·have hy:(R.zip j).lookup k=none:=by
      cases q2:(R.zip j).lookup k with
      |none=>rfl
      |some x=>exact absurd (Dc.Ae q2).1 hk
     have nv:Ct (Dc.kvs R j) (Sum.inr k)=none:=by rw[Dc.Eb g.2.1,hy];rfl
     rw[hy]
     refine BO ?_
     have C:(Dc.tab b R j).room (.str k)=true:=by simp[Dc.room,hk]
     have eb:=g.1.exact (B.own b (P.addrs b (by simp[Dc.addrs])))
     have lx:=Dc.GZ j
     have X:=P.size
     simp only[Dc.size]at X
     refine⟨_,rfl,_,rfl,_,rfl,b,_,rfl,Ni.k (k:=Sum.inr k) eb (BQ (by rw[Dc.HG g.2.1];omega)),?_⟩
     rw[Ng _ nv]
     refine⟨_,rfl,q O _ _ rfl m C _ (Bf.insert FL m C rfl (by simp[Dc.addrs]) ?_ (fun a o ha h=>by rw[AR ha];exact h) (fun o u z=>by rw[AF]at z;cases z))⟩
     simp only[Dc.DS,Dc.At]
     have bt:=P.addrs b (by simp[Dc.addrs])
     have nb:b∉Dc.AK j:=by
      obtain⟨l,r,e1,_⟩:=Dc.DG (n:=Dc.tab b R j) (Dc.EA d B.at_) B.nd m
      have:=B.nd
      rw[e1]at this
      have:=(List.nodup_append.mp (List.nodup_append.mp this).1).2.1
      simp only[Dc.addrs]at this
      exact(List.nodup_cons.mp this).1
     have Y:Dc.DF (upd H1 b (.dK (Dc.kvs R j++[(Sum.inr k,v.val)]))) j:=Dc.BL j (fun c Z o h=>by rw[AR (fun z=>nb (by rw[<-z];exact Z))];exact h) g.2.2.2
     have D:v.At (upd H1 b (.dK (Dc.kvs R j++[(Sum.inr k,v.val)]))):=Dc.Fh v (fun c Z o h=>by rw[AR (fun z=>FL.apart c Z (by rw[z];exact bt))];exact h) Ov
     refine⟨.inl ?_,by simp[g.2.1],Qs g.2.2.1 hk,(Dc.BW _ _).mpr ⟨Y,by simp only[Dc.DF];exact⟨D,trivial⟩⟩⟩
     rw[AF,Dc.Ut k v g.2.1]
end
end Bu
namespace Bu
open PySem L2
theorem XR {P:Program} {w:World} {K:ACH} {mg:Str->Option Value} {base:Heap} {f:Addr} {b:FuncData} (F:DW K "_law_asked" "_law_asked" Ke f b) (T:Txt mg) (a:Df P w K mg base "_law_found" ["_law_doc","_law_path"] 1 Ek):BG P w K mg base DC 1 f b ["_law_doc","_law_row"] Mb:=⟨fun c H Q E h=>h.elim,fun A outer s H args d c Q E _ _ _ _ h=>h.elim⟩
end Bu
namespace Bu
open PySem L2
section
variable{P:Program} {w:World} {K:ACH} [An K] {mg:Str->Option Value} {base:Heap}
theorem XS:Aa ["_law_doc","_law_row","_law_became","_law_part","_law_holder"] ["_law_doc","_law_row"] (AH Ln):=⟨rfl,rfl,rfl,by decide+kernel,rfl,by decide+kernel,by decide+kernel⟩
theorem ZO {f:Addr} {fd:FuncData} (F:DW K "_law_done" "_law_done" Ln f fd) (T:Txt mg) (iY:Df P w K mg base "_law_copy" ["_law_doc"] 61 (Jt 61)) (Qh:Df P w K mg base "_law_found" ["_law_doc","_law_path"] 1 Ek) (Ni:Df P w K mg base "_law_put" ["_law_doc","_law_path","_law_value"] 2 Mr) (dW:Df P w K mg base "_law_asked" ["_law_doc","_law_row"] 1 Mb):BG P w K mg base DC 62 f fd ["_law_doc","_law_row"] Ms:=by
 obtain⟨iW,iX,m,t,y,B⟩:=iY.ex
 obtain⟨XP,XQ,S,U,X,Y⟩:=Qh.ex
 obtain⟨zY,zZ,dX,dY,dZ,dc⟩:=Ni.ex
 obtain⟨nU,nV,de,df,dh,di⟩:=dW.ex
 refine F.ok XS (fun vs H Q E h=>?_) (fun Iq A outer s H vs Q E hr h=>?_)
 ·obtain⟨d,r,w0,xs,zs,p,v,rfl,Of,Bl,hsz,R,xO,fit,q⟩:=h
  rfl
 ·obtain⟨d,r,w0,xs,zs,p,v,rfl,Of,Bl,hsz,R,xO,fit,q⟩:=h
  have nd:=XS.nd
  have hu:=BC hr
  have j:Ac 61 _:=hr.mono (by first|decide|omega)
  have J:Ac 1 _:=hr.mono (by first|decide|omega)
  have O:Ac 2 _:=hr.mono (by first|decide|omega)
  have ZP:Ac 1 _:=hr.mono (by first|decide|omega)
  refine⟨_,(AE (AV (i:=2) nd rfl (Or.inl rfl) (AG B j rfl y m t .nil AN (AA (pv 0) AB)))
   (AE (Ag (AS CP (AO (r:=Af K) AM (pv 1) AD (fun _ _=>rfl)) Ax (AX _)) (AI (AL (AG dc O rfl dZ dX dY .nil AN (AA (pv 2) (AA (AO (r:=Af K) AM (pv 1) AD (fun _ _=>rfl)) (AA (AG B j rfl y m t .nil AN (AA (AO (r:=Af K) AM (pv 1) AD (fun _ _=>rfl)) AB)) AB)))))) AQ)
   (AE (Ag (AS (DA:Dy _ _ (SE K false)) (AO (r:=Af K) AM (pv 1) AD (fun _ _=>rfl)) (EI (AA Ax (AA Ax (AA Ax (AA Ax AB))))) rfl) (AI (AL (Tx (Aw (AG di ZP rfl dh de df .nil AN (AA (pv 2) (AA (pv 1) AB)))) (pv 2) BE))) AQ)
   (AE (AV (i:=3) nd rfl (Or.inl rfl) (AG Y J rfl X S U .nil AN (AA (pv 2) (AA (AO (r:=Af K) AM (pv 1) AD (fun _ _=>rfl)) AB))))
   (AE (Ag (AS GV (pv 3) BE (AX _)) (AI (AL BE)) AQ)
   (AE (Ag (AS CP (AO (r:=Af K) AM (pv 1) AD (fun _ _=>rfl)) Ax (AX _)) (AI (AL (AG dc O rfl dZ dX dY .nil AN (AA (pv 2) (AA (AO (r:=Af K) AM (pv 1) AD (fun _ _=>rfl)) (AA (AG B j rfl y m t .nil AN (AA (pv 3) AB)) AB)))))) AQ)
   (AE (Ag (PW.pt (pw_and (AS CP (AO (r:=Af K) AM (pv 1) AD (fun _ _=>rfl)) Ax (AX _)) (pw_and1 (AS (Pa (Ac.GX hr)) (AO (r:=Af K) AM (pv 1) AD (fun _ _=>rfl)) (A' AB) (AX _))))) (AI (AL (AG B j rfl y m t .nil AN (AA (AO (r:=Af K) AM (pv 1) AD (fun _ _=>rfl)) AB)))) AQ)
   (AE (AV (i:=4) nd rfl (Or.inl rfl) (AG Y J rfl X S U .nil AN (AA (pv 2) (AA (BK CD (AO (r:=Af K) AM (pv 1) AD (fun _ _=>rfl)) Bn (BZ (CG BV AD))) AB))))
   (AE (Ag (AS CP (AO (r:=Af K) AM (pv 1) AD (fun _ _=>rfl)) Ax (AX _)) (AE (VE (UB (AG B j rfl y m t .nil AN (AA (AO (r:=Af K) AM (pv 1) AD (fun _ _=>rfl)) AB)) (UA (pv 4) (AO (r:=Af K) AM (AO (r:=Af K) AM (pv 1) AD (fun _ _=>rfl)) (CG BV AD) (fun _ _=>rfl)) set_list)) (MF hu (pv 4) (AO (r:=Af K) AM (AO (r:=Af K) AM (pv 1) AD (fun _ _=>rfl)) (CG BV AD) (fun _ _=>rfl)) (AG B j rfl y m t .nil AN (AA (AO (r:=Af K) AM (pv 1) AD (fun _ _=>rfl)) AB)) rfl))
   (AI (AL (pv 2)))) AQ)
   (AE (Dw (Jn (Fb PySem.F.plainAttrs_list PySem.F.slot_list_pop PySem.F.type_list_pop UY (pv 4) (AA (AO (r:=Af K) AM (AO (r:=Af K) AM (pv 1) AD (fun _ _=>rfl)) (CG BV AD) (fun _ _=>rfl)) AB)) (Ud (pv 4) (AO (r:=Af K) AM (AO (r:=Af K) AM (pv 1) AD (fun _ _=>rfl)) (CG BV AD) (fun _ _=>rfl)) ⟨rfl,rfl,rfl,rfl⟩)))
   (AE (Ag (AS CP (AO (r:=Af K) AM (pv 1) AD (fun _ _=>rfl)) Ax (AX _)) (AI (AL (pv 2))) AQ)
   (AI (AL (AG dc O rfl dZ dX dY .nil AN (AA (pv 2) (AA (AO (r:=Af K) AM (pv 1) AD (fun _ _=>rfl)) (AA (pv 3) AB))))))))))))))))),?_⟩
  obtain⟨a,rest,rfl,ha,T3⟩:=R.th
  have Rr:=R.rw
  refine⟨_,rfl,d,rfl,Of,Nat.le_trans (Dc.GC d) (by omega),by omega,fun C H1 F0 lk=>?_⟩
  have lf:=Mj Of F0.at_ lk
  have wt:=Dc.EA C F0.at_
  have L:=Dc.GD d C lk Bl
  have szt:=Dc.GF d C lk
  have fin:∀(d':Dc) (H':Hp),Bf H H' d'->d'.ok->Yw C w0 xs zs v d'->Q d'.val H':=fun d' H' F o dd=>q C d' H' F.same lk F o dd
  have wd:=Dc.EA d Of
  have qd:=Dc.HI d C lk
  have Om:=F0.same _ _ ha
  have R1:=R.up F0.same
  have za:=R1.rw
  have T1:=T3.up F0.same
  have zb:∀ys:List V,ys≠[]->∃G M,ys=G++[M]:=fun ys h=>⟨ys.dropLast,ys.getLast h,(List.dropLast_concat_getLast h).symm⟩
  by_cases Z:w0="put"
  ·subst Z
   have np:¬d.DT xs:=by
    rcases fit with h|h|h
    ·exact h.2
    ·exact absurd h.1 (by decide)
    ·exact absurd h.1 (by decide)
   obtain⟨a',ZJ,Qa,nW,iP,nI⟩:=xO rfl
   cases ZJ
   have er:rest=[v.val]:=by rw[ha]at Qa;exact(List.cons.inj (List.cons.inj (HO.tup.inj (ACF Qa))).2).2
   subst er
   have Ov:=Dc.BS F0.same nW
   refine⟨_,rfl,a,_,0,_,rfl,rfl,Ah.of Om,FU,rfl,_,rfl,Bj (by decide) ?_⟩
   refine⟨_,rfl,_,rfl,a,_,1,_,rfl,rfl,Ah.of Om,EM,_,rfl,a,_,2,_,rfl,rfl,Ah.of Om,at2,v,rfl,Ov,Nat.le_trans (Dc.GC v) (by omega),by omega,fun v' H2 Fv lv'=>?_⟩
   have FL:Al H H2 [C,v']:=F0.hV.snoc Fv
   refine⟨H,C,v',p,xs,rfl,FL,by omega,Fv.same _ _ za.hp,Rr.sx,Rr.nx (.inl rfl),fun G M e ex D cw H3 F3=>?_,fun z H3 s3=>absurd (KP Of F0.at_ lk z) np⟩
   have vv:(C.Au G (e.DS M v')).val=C.val:=Dc.Ef D (Dc.HJ ..)
   rw[<-vv]
   refine fin _ _ F3 (Dc.JE wt D L (Dc.Mh ((Dc.BI.sub D).ok L) (Dc.GD v v' lv' iP) (Rr.sx M (by rw[ex];simp)))) ?_
   rw[ex]
   exact .put D cw lv'
  have aD:w0="copy"∨w0="move":=by
   rcases fit with h|h|h
   ·exact absurd h.1 Z
   ·exact .inl h.1
   ·exact .inr h.1
  refine⟨_,rfl,a,_,0,_,rfl,rfl,Ah.of Om,FU,rfl,_,rfl,BM (decide_eq_false fun z=>Z (V.str.inj z)) ?_⟩
  refine⟨_,rfl,a,_,0,_,rfl,rfl,Ah.of Om,FU,Az (show 4<=1000 by decide),fun g hg=>⟨g,_,rfl,.inl (Bd.of AF),rfl,rfl,_,rfl,?_⟩⟩
  have F1:=F0.up (AJ.new (o:=.lst [.str "ask",.str "has",.str "lacks",.str "is"]) hg)
  generalize upd H1 g (.lst [.str "ask",.str "has",.str "lacks",.str "is"])=H2 at F1⊢
  have Tt:=F1.same _ _ ha
  have R2:=R.up F1.same
  have xP:=R2.rw
  have T2:=T3.up F1.same
  refine Jz (fun b=>absurd b (by rcases aD with rfl|rfl<;>decide)) (fun b=>?_)
  have zc:(d.sub xs).isSome=true:=by
   rcases fit with h|h|⟨_,G,z,e,x,rfl,h1,h2,_⟩
   ·exact absurd h.1 Z
   ·exact h.2.1
   ·rw[Dc.sub_snoc h1,h2];rfl
  refine⟨_,rfl,_,rfl,a,_,1,_,rfl,rfl,Ah.of Tt,EM,C,p,xs,rfl,F1.at_,xP.hp,Rr.sx,?_⟩
  cases kN:C.sub xs with
  |none=>
   exfalso
   obtain⟨e,he⟩:=Option.isSome_iff_exists.mp zc
   obtain⟨e',h1,_⟩:=Dc.Eqv.sub wd wt qd he
   rw[kN]at h1
   cases h1
  |some x=>
  have Px:=Dc.BI.sub kN
  have szx:=Px.size
  refine⟨_,rfl,rfl,_,rfl,BM (Dc.Yj (Px.at_ F1.at_)) ?_⟩
  by_cases ZK:w0="copy"
  ·subst ZK
   have np:¬d.DT zs:=by
    rcases fit with h|h|h
    ·exact absurd h.1 (by decide)
    ·exact h.2.2
    ·exact absurd h.1 (by decide)
   obtain⟨p2,rfl,Ta⟩:=T2.cm (.inl rfl)
   refine⟨_,rfl,a,_,0,_,rfl,rfl,Ah.of Tt,FU,rfl,_,rfl,Bj (by decide) ?_⟩
   refine⟨_,rfl,_,rfl,a,_,2,_,rfl,rfl,Ah.of Tt,at2,_,rfl,x,rfl,Px.at_ F1.at_,Nat.le_trans (Dc.GC x) (by omega),by omega,fun x' H3 Fv lv'=>?_⟩
   have FL:Al H H3 [C,x']:=F1.hV.snoc Fv
   refine⟨H,C,x',p2,zs,rfl,FL,by omega,Fv.same _ _ Ta,Rr.sz,Rr.nz (.inl rfl),fun G M e ex D cw H4 F4=>?_,fun z H4 s4=>absurd (KP Of F0.at_ lk z) np⟩
   have vv:(C.Au G (e.DS M x')).val=C.val:=Dc.Ef D (Dc.HJ ..)
   rw[<-vv]
   refine fin _ _ F4 (Dc.JE wt D L (Dc.Mh ((Dc.BI.sub D).ok L) (Dc.GD x x' lv' (Px.ok L)) (Rr.sz M (by rw[ex];simp)))) ?_
   rw[ex]
   exact .copy kN D cw lv'
  refine⟨_,rfl,a,_,0,_,rfl,rfl,Ah.of Tt,FU,rfl,_,rfl,BM (decide_eq_false fun z=>ZK (V.str.inj z)) ?_⟩
  have dS:w0="move":=aD.resolve_left ZK
  subst dS
  have nx:=Rr.nx (.inr (.inr (.inr rfl)))
  refine⟨_,rfl,a,_,0,_,rfl,rfl,Ah.of Tt,FU,rfl,_,rfl,BM (by decide) (BO ?_)⟩
  have s3:=AJ.refl H2
  obtain⟨G,M,rfl⟩:=zb xs nx
  have F3:=F1
  have dU:=Tt
  have zd:=T2
  have aE:=xP.hp
  have nS:steps G:=fun z hz=>Rr.sx z (List.mem_append_left _ hz)
  obtain⟨e,D,N⟩:=Dc.Pn kN
  have P:=Dc.BI.sub D
  have we:=Dc.EA e (P.at_ F0.at_)
  have kO:e.addrs.Nodup:=by
   obtain⟨l,r,e1,_⟩:=Dc.DG (n:=e) wt F0.nd D
   have:=F0.nd
   rw[e1]at this
   exact(List.nodup_append.mp (List.nodup_append.mp this).1).2.1
  refine⟨_,rfl,_,rfl,a,_,1,_,rfl,rfl,Ah.of dU,EM,_,rfl,_,rfl,p,_,rfl,aE,fun p2 H4 s4 Ta=>?_⟩
  rw[By]at Ta
  have F4:=F3.up s4
  have iZ:=s4 _ _ dU
  have T4:=zd.up s4
  have aH:=s4 _ _ aE
  refine⟨C,p2,G,rfl,F4.at_,Ta,nS,?_⟩
  rw[D]
  dsimp only[Dm,Yt]
  have I:=P.at_ F4.at_
  refine⟨_,rfl,a,_,0,_,rfl,rfl,Ah.of iZ,FU,rfl,_,rfl,BM (by decide) ?_⟩
  have ze:¬(C.Au G (e.Bh M)).DT zs:=by
   rcases fit with h|h|⟨_,us',z',e',x',ex,h1,h2,h3⟩
   ·exact absurd h.1 (by decide)
   ·exact absurd h.1 (by decide)
   ·obtain⟨rfl,rfl⟩:=Eg ex
    obtain⟨e2,g1,qe⟩:=Dc.Eqv.sub wd wt qd h1
    rw[D]at g1
    cases g1
    have xQ:=Dc.bo wd h1
    intro z
    exact h3 (Dc.LW (Dc.MV wd h1 (Dc.JB xQ h2)) (Dc.MV wt D (Dc.JB we N)) (Dc.Eqv.Au wd wt qd h1 (Dc.Eqv.Bh xQ we h2 qe)) z)
  have vv:(C.Au G (e.Bh M)).val=C.val:=Dc.Ef D (Dc.OD ..)
  have w1:(C.Au G (e.Bh M)).Wf:=Dc.MV wt D (Dc.JB we N)
  have Wc:(C.Au G (e.Bh M)).ok:=Dc.JE wt D L (Dc.Yi (P.ok L))
  have z1:=Dc.Sf (n:=e.Bh M) wt D
  have z2:=Dc.Sg we N
  have tail:∀H5,Al H H5 [C.Au G (e.Bh M),x]->Rt (NQ (UL (NK wI (NK (Af K) (Ez 1) (tC (V.int 0))) (tC (V.str "take")))) (Xi (Ez 2)) ZW) (Xi (Za Mr [] E0 (Dp (Ez 2) (Dp (NK (Af K) (Ez 1) (tC (V.int 2))) (Dp (Ez 3) PB))))) {nx:=fun x H'=>Q V.Ao H',rt:=Q} [some d.val,some (.ref a),some C.val,some x.val,some e.val] H5:=fun H5 FL=>by
   have xR:=FL.same _ _ ha
   have T5:=T3.up FL.same
   obtain⟨pz,rfl,zf⟩:=T5.cm (.inr rfl)
   refine⟨_,rfl,a,_,0,_,rfl,rfl,Ah.of xR,FU,rfl,_,rfl,BM (by decide) ?_⟩
   refine⟨_,rfl,_,rfl,a,_,2,_,rfl,rfl,Ah.of xR,at2,_,rfl,H,C.Au G (e.Bh M),x,pz,zs,by rw[vv];rfl,FL,by omega,zf,Rr.sz,Rr.nz (.inr rfl),fun zg iL e2 ex cJ nM H6 F6=>?_,fun z H6 s6=>absurd z ze⟩
   have zi:((C.Au G (e.Bh M)).Au zg (e2.DS iL x)).val=(C.Au G (e.Bh M)).val:=Dc.Ef cJ (Dc.HJ ..)
   rw[<-zi]
   refine fin _ _ F6 (Dc.JE w1 cJ Wc (Dc.Mh ((Dc.BI.sub cJ).ok Wc) (Px.ok L) (Rr.sz iL (by rw[ex];simp)))) ?_
   rw[ex]
   exact .move D N cJ nM
  rcases Dc.sub_one N with⟨b,ws,i,rfl,rfl,xS⟩|⟨b,ks,ws,k,rfl,rfl,xT⟩
  ·simp only[Dc.At]at I
   have eb:=I.1.exact (F4.own b (P.addrs b (by simp[Dc.addrs])))
   have hi:=(ACE xS).1
   have lx:=Dc.GZ ws
   have zj:=P.size
   simp only[Dc.size]at zj
   have sq:PySem.seqIndex? (i:Int) (ws.map Dc.val).length=some i:=(I_ (by unfold SD;rw[if_pos (by omega),if_pos (by rw[List.length_map];omega),Int.toNat_natCast])).1
   have nb:b∉Dc.AK ws:=by
    simp only[Dc.addrs]at kO
    exact(List.nodup_cons.mp kO).1
   refine .inl ⟨_,rfl,.inl ⟨rfl,_,Bd.of eb⟩,_,rfl,a,_,1,_,rfl,rfl,Ah.of iZ,EM,_,rfl,p,_,_,_,rfl,rfl,Ah.of aH,Bo G _,b,_,_,i,_,rfl,rfl,eb,by omega,by omega,sq,by rw[List.getElem?_map,xS];rfl,?_⟩
   refine tail _ (Al.taken F4 D N rfl (by simp[Dc.addrs]) (by simp[Dc.Bh,Dc.addrs]) ?_ (fun c o hc h=>by rw[AR hc];exact h) (fun o u z=>by rw[AF]at z;cases z))
   simp only[Dc.Bh,Dc.At,Int.toNat_natCast]
   refine⟨.inl (AF.trans ?_),Dc.LU (Dc.BL ws (fun c hc o h=>by rw[AR (fun z=>nb (by rw[<-z];exact hc))];exact h) I.2)⟩
   rw[List.eraseIdx_eq_take_drop_succ,List.eraseIdx_eq_take_drop_succ,List.map_append,List.map_take,List.map_drop]
  ·simp only[Dc.At]at I
   have eb:=I.1.exact (F4.own b (P.addrs b (by simp[Dc.addrs])))
   have hk:=(Dc.Ae xT).1
   have hv:Ct (Dc.kvs ks ws) (Sum.inr k)=some x.val:=by rw[Dc.Eb I.2.1,xT];rfl
   have nb:b∉Dc.AK ws:=by
    simp only[Dc.addrs]at kO
    exact(List.nodup_cons.mp kO).1
   have xU:=Dc.JB we N
   refine .inr ⟨_,rfl,b,rfl,.inl ⟨_,.inl eb⟩,_,rfl,a,_,1,_,rfl,rfl,Ah.of iZ,EM,_,rfl,p,_,_,_,rfl,rfl,Ah.of aH,Bo G _,_,Sum.inr k,_,eb,rfl,hv,?_⟩
   refine tail _ (Al.taken F4 D N rfl (by simp[Dc.addrs]) (by simp[Dc.Bh,Dc.addrs]) ?_ (fun c o hc h=>by rw[AR hc];exact h) (fun o u z=>by rw[AF]at z;cases z))
   simp only[Dc.Bh,Dc.At]at xU⊢
   cases xU with
   |tab wl wn wx=>exact⟨.inl (AF.trans (by rw[Dc.Sh I.2.1 I.2.2.1 hk])),wl,wn,Dc.LU (Dc.BL ws (fun c hc o h=>by rw[AR (fun z=>nb (by rw[<-z];exact hc))];exact h) I.2.2.2)⟩
end
end Bu
namespace Bu
open PySem L2
section
variable{P:Program} {w:World} {K:ACH} [An K] {mg:Str->Option Value} {base:Heap}
theorem XT:Aa ["_law_cell_here","_law_k","_law_names_here","_law_many","_law_place","_law_way","_law_at","_law_word"] ["_law_cell_here","_law_k","_law_names_here","_law_many","_law_place"] (AH Lo):=⟨rfl,rfl,rfl,by decide+kernel,rfl,by decide+kernel,by decide+kernel⟩
theorem ZQ {f:Addr} {fd:FuncData} (F:DW K "_law_come" "_law_come" Lo f fd) (T:Txt mg) (XM:Df P w K mg base "_law_mix" ["_law_cell_here","_law_k"] 1 Nw):BG P w K mg base DC 3 f fd ["_law_cell_here","_law_k","_law_names_here","_law_many","_law_place"] QR:=by
 obtain⟨iU,iV,R,S,U,X⟩:=XM.ex
 refine F.ok XT (fun vs H Q E h=>?_) (fun Iq A outer s H vs Q E hr h=>?_)
 ·obtain⟨c,k,nl,ys,many,P,g,n,rfl,hk,hn,g0,gk,nn,t,nX,m1,m9,hP,q⟩:=h
  rfl
 ·obtain⟨c,k,nl,ys,many,P,g,n,rfl,hk,hn,g0,gk,nn,t,nX,m1,m9,hP,q⟩:=h
  have nd:=XT.nd
  have hu:=BC hr
  have B:Ac 1 _:=hr.mono (by first|decide|omega)
  refine⟨_,(AE (AV (i:=5) nd rfl (Or.inl rfl) (AZ Bk (AG X B rfl U R S .nil AN (AA (pv 0) (AA (pv 1) AB))) AD))
   (AE (AV (i:=6) nd rfl (Or.inl rfl) (AZ Bk (AG X B rfl U R S .nil AN (AA (pv 0) (AA (AZ BY (pv 1) AD) AB))) (pv 3)))
   (AE (Ag (AS CP (pv 5) AD (AX _)) (AI (AL (A' (AA (A' (AA Ax (AA (A' (AA (AO (r:=EJ K) Bp (pv 2) AD (fun _ _=>rfl)) (AA (pv 4) AB))) (AA (AZ BY AD (pv 1)) AB)))) (AA (AZ BY AD (pv 1)) AB))))) AQ)
   (AE (Ag (PW.pt (pw_and (AS CP (pv 5) AD (AX _)) (pw_and1 (AS UJ (pv 4) (AZ BY (pv 6) AD) (AX _))))) (AI (AL (A' (AA (A' (AA Ax (AA (A' (AA (AO (r:=EJ K) Bp (pv 2) AD (fun _ _=>rfl)) (AA (pv 6) AB))) (AA (A' (AA (AO (r:=EJ K) Bp (pv 2) AD (fun _ _=>rfl)) (AA (AZ JQ (pv 4) (C' K_ rfl T.int Zm (AA (CU ZY (pv 4) (pv 6) (AX _)) AB))) AB))) AB)))) (AA (AZ BY AD (pv 6)) AB))))) AQ)
   (AE (AV (i:=7) nd rfl (Or.inl rfl) (AO (r:=EJ K) Bp (EI (AA Ax (AA Ax AB))) (AZ Bk (pv 5) AD) (fun _ _=>rfl)))
   (AI (AL (A' (AA (A' (AA (pv 7) (AA (A' (AA (AO (r:=EJ K) Bp (pv 2) (AZ F_ (pv 1) AD) (fun _ _=>rfl)) (AA (AZ Bk (pv 6) AD) AB))) (AA (A' (AA (AO (r:=EJ K) Bp (pv 2) AD (fun _ _=>rfl)) (AA (pv 4) AB))) AB)))) (AA (AZ BY (AZ FX AD (AZ F_ (pv 1) AD)) (AZ Bk (pv 6) AD)) AB)))))))))),?_⟩
  have I:NL (ys.map V.str) 0=some (.str g):=CM (j:=0) (by rw[List.getElem?_map,g0];rfl)
  have zk:NL (ys.map V.str) ((k:Int)/2)=some (.str n):=by
   have:(k:Int)/2=((k/2:Nat):Int):=by omega
   rw[this]
   exact CM (by rw[List.getElem?_map,gk];rfl)
  have zl:steps ([]:List V):=fun z hz=>nomatch hz
  refine⟨_,rfl,_,rfl,c,k,rfl,by omega,fun r5 p5 _=>⟨_,_,rfl,rfl,(by show(0:Int)<_;decide),?_⟩⟩
  have mb:=Qz r5 (n:=4) (by decide)
  obtain⟨J,ew,lw⟩:∃J:Nat,r5 % 4=(J:Int)/\J<4:=⟨(r5 % 4).toNat,by omega,by omega⟩
  rw[ew]
  refine⟨_,rfl,_,rfl,_,_,rfl,rfl,c,k+1,rfl,by omega,fun r6 p6 _=>⟨_,rfl,_,_,rfl,rfl,(by show(0:Int)<_;omega),?_⟩⟩
  have mm:=Qz r6 (n:=(many:Int)) (by omega)
  obtain⟨a,ea,la⟩:∃a:Nat,r6 % (many:Int)=(a:Int)/\a<many:=⟨(r6 % (many:Int)).toNat,by omega,by omega⟩
  rw[ea]
  refine⟨_,rfl,rfl,_,rfl,?_⟩
  refine DZ (fun h=>?_) (fun h=>?_)
  ·refine⟨_,rfl,nl,_,_,_,rfl,rfl,Bd.of hn,I,_,rfl,Am,fun b C=>⟨_,rfl,_,_,rfl,rfl,Az (show 3<=1000 by decide),fun d u=>⟨_,rfl,_,_,rfl,rfl,Am,fun p l=>?_⟩⟩⟩
   have D:=AJ.new (o:=.tup [.str g,.int (P:Int)]) C
   have M:upd H b (.tup [.str g,.int (P:Int)]) b=some (.tup [.str g,.int (P:Int)]):=AF
   generalize upd H b (.tup [.str g,.int (P:Int)])=Y at D M u l⊢
   have N:=AJ.new (o:=.tup [.str "put",.ref b,.int (5000+(k:Int))]) u
   have G:upd Y d (.tup [.str "put",.ref b,.int (5000+(k:Int))]) d=some (.tup [.str "put",.ref b,.int (5000+(k:Int))]):=AF
   generalize upd Y d (.tup [.str "put",.ref b,.int (5000+(k:Int))])=H2 at N G l⊢
   have y:=AJ.new (o:=.tup [.ref d,.int (5000+(k:Int))]) l
   refine q p (.ref d) _ (.put (5000+(k:Int))) _ ((D.trans N).trans y) AF ⟨b,?_,fun m e=>⟨d,rfl,by cases e;exact y _ _ G⟩⟩ trivial (.inl ⟨rfl,rfl⟩)
   exact Du (w:="put") (zs:=[]) (y _ _ G) (y _ _ (N _ _ M)) (IY t) Fw (by decide) (fun _=>List.cons_ne_nil _ _) (Gn.val (v:=CC (5000+(k:Int))) (.inl rfl) (.inl ⟨_,rfl⟩) (.inl ⟨_,rfl,by omega⟩) (by simp[Dc.size]) (KI fun⟨i,e,hi⟩=>by cases e;omega)) zl (Nat.zero_le _) (fun h=>absurd h (by decide))
  have last:Rt (bA (NK (EJ K) (fw (Dp (tC (V.str "move")) (Dp (tC (V.str "copy")) PB))) (NK (rI (fun x j=>0<j) fun i j=>V.int (i % j)) (Ez 5) (tC (V.int 2)))) (Dm 7)) (Xi (UN (Dp (UN (Dp (Ez 7) (Dp (UN (Dp (NK (EJ K) (Ez 2) (NK (rI Xo fun i j=>V.int (i/j)) (Ez 1) (tC (V.int 2)))) (Dp (NK (rI (fun x j=>0<j) fun i j=>V.int (i % j)) (Ez 6) (tC (V.int 3))) PB))) (Dp (UN (Dp (NK (EJ K) (Ez 2) (tC (V.int 0))) (Dp (Ez 4) PB))) PB)))) (Dp (NK (Xm fun i j=>V.int (i+j)) (NK (rI Xp fun i j=>V.int (i*j)) (tC (V.int 1000)) (NK (rI Xo fun i j=>V.int (i/j)) (Ez 1) (tC (V.int 2)))) (NK (rI (fun x j=>0<j) fun i j=>V.int (i % j)) (Ez 6) (tC (V.int 3)))) PB)))) {nx:=fun x H'=>Q V.Ao H',rt:=Q} [some (.int c),some (.int (k:Int)),some (.ref nl),some (.int (many:Int)),some (.int (P:Int)),some (.int (J:Int)),some (.int (a:Int)),none] H:=by
   refine⟨Am,fun L hL=>⟨_,rfl,_,_,rfl,rfl,(by show(0:Int)<_;decide),?_⟩⟩
   have sL:=AJ.new (o:=.lst [.str "move",.str "copy"]) hL
   obtain⟨Z,zm,aw⟩:∃Z:Str,(Z="move"∨Z="copy")/\NL [V.str "move",.str "copy"] ((J:Int) % 2)=some (.str Z):=by
    rcases(show J % 2=0∨J % 2=1 by omega)with e|e
    ·have:(J:Int) % 2=0:=by omega
     rw[this]
     exact⟨_,.inl rfl,rfl⟩
    ·have:(J:Int) % 2=1:=by omega
     rw[this]
     exact⟨_,.inr rfl,rfl⟩
   refine⟨L,_,_,_,rfl,rfl,Bd.of AF,aw,?_⟩
   generalize upd H L (.lst [.str "move",.str "copy"])=Y at sL⊢
   have xV:=sL _ _ hn
   refine⟨_,rfl,_,rfl,_,rfl,_,_,rfl,rfl,⟨by decide,by decide⟩,nl,_,_,_,rfl,rfl,Bd.of xV,zk,_,rfl,_,_,rfl,rfl,(by show(0:Int)<_;decide),Am,fun b C=>?_⟩
   obtain⟨i,ei,li⟩:∃i:Nat,(a:Int) % 3=(i:Int)/\i<3:=⟨a % 3,by omega,by omega⟩
   rw[ei]
   have D:=AJ.new (o:=.tup [.str n,.int (i:Int)]) C
   have M:upd Y b (.tup [.str n,.int (i:Int)]) b=some (.tup [.str n,.int (i:Int)]):=AF
   generalize upd Y b (.tup [.str n,.int (i:Int)])=H2 at D M⊢
   refine⟨_,rfl,nl,_,_,_,rfl,rfl,Bd.of (D _ _ xV),I,_,rfl,Am,fun d u=>?_⟩
   have N:=AJ.new (o:=.tup [.str g,.int (P:Int)]) u
   have G:upd H2 d (.tup [.str g,.int (P:Int)]) d=some (.tup [.str g,.int (P:Int)]):=AF
   generalize upd H2 d (.tup [.str g,.int (P:Int)])=H3 at N G⊢
   refine⟨Az (show 3<=1000 by decide),fun p l=>?_⟩
   have y:=AJ.new (o:=.tup [.str Z,.ref b,.ref d]) l
   have f3:upd H3 p (.tup [.str Z,.ref b,.ref d]) p=some (.tup [.str Z,.ref b,.ref d]):=AF
   generalize upd H3 p (.tup [.str Z,.ref b,.ref d])=H4 at y f3⊢
   refine⟨_,rfl,_,_,rfl,rfl,⟨by decide,by decide⟩,_,_,rfl,rfl,.inl ⟨by decide,by decide⟩,_,rfl,_,_,rfl,rfl,(by show(0:Int)<_;decide),_,_,rfl,rfl,Am,fun g4 nY=>?_⟩
   rw[ei]
   have ek:(1000*((k:Int)/2)+(i:Int))=1000*((k/2:Nat):Int)+(i:Int):=by omega
   rw[ek]
   have O:=AJ.new (o:=.tup [.ref p,.int (1000*((k/2:Nat):Int)+(i:Int))]) nY
   have s14:=(N.trans y).trans O
   have s0:=sL.trans (D.trans s14)
   rcases zm with rfl|rfl
   ·exact q g4 (.ref p) _ (.Cy n i) _ s0 AF ⟨b,Du (w:="move") (zs:=[.str g,.int (P:Int)]) (O _ _ f3) (s14 _ _ M) (IY nX) Fw (by decide) (fun _=>List.cons_ne_nil _ _) (Gn.two (.inr rfl) ((y.trans O) _ _ G)) (IY t) Fw (fun _=>List.cons_ne_nil _ _),fun m e=>nomatch e⟩ nn (.inr (.inr ⟨i,li,.inl rfl,rfl⟩))
   ·exact q g4 (.ref p) _ (.DQ n i) _ s0 AF ⟨b,Du (w:="copy") (zs:=[.str g,.int (P:Int)]) (O _ _ f3) (s14 _ _ M) (IY nX) Fw (by decide) (fun h=>absurd h (by decide)) (Gn.two (.inl rfl) ((y.trans O) _ _ G)) (IY t) Fw (fun _=>List.cons_ne_nil _ _),fun m e=>nomatch e⟩ nn (.inr (.inr ⟨i,li,.inr rfl,rfl⟩))
  refine⟨_,rfl,rfl,_,rfl,?_⟩
  refine DZ (fun h3=>?_) (fun h3=>BO last)
  refine⟨_,rfl,_,rfl,_,_,rfl,rfl,rfl,_,rfl,?_⟩
  refine DZ (fun h4=>?_) (fun h4=>last)
  have zo:P≠a+1:=fun z=>by
   have:(!decide (V.int (P:Int)=V.int ((a:Int)+1)))=false:=by rw[z];simp
   rw[this]at h4
   cases h4
  refine⟨_,rfl,nl,_,_,_,rfl,rfl,Bd.of hn,I,_,rfl,Am,fun b C=>?_⟩
  have D:=AJ.new (o:=.tup [.str g,.int (a:Int)]) C
  have M:upd H b (.tup [.str g,.int (a:Int)]) b=some (.tup [.str g,.int (a:Int)]):=AF
  generalize upd H b (.tup [.str g,.int (a:Int)])=Y at D M⊢
  refine⟨_,rfl,nl,_,_,_,rfl,rfl,Bd.of (D _ _ hn),I,_,rfl,_,rfl,_,rfl,_,_,rfl,rfl,.inr ⟨_,rfl,_,_,rfl,rfl,Am,fun d u=>?_⟩⟩
  have nZ:=sub_int a P
  rw[nZ]
  have N:=AJ.new (o:=.tup [.str g,.int ((if a<P then P-1 else P:Nat):Int)]) u
  have G:upd Y d (.tup [.str g,.int ((if a<P then P-1 else P:Nat):Int)]) d=some (.tup [.str g,.int ((if a<P then P-1 else P:Nat):Int)]):=AF
  generalize upd Y d (.tup [.str g,.int ((if a<P then P-1 else P:Nat):Int)])=H2 at N G⊢
  refine⟨Az (show 3<=1000 by decide),fun p l=>?_⟩
  have y:=AJ.new (o:=.tup [.str "move",.ref b,.ref d]) l
  have f3:upd H2 p (.tup [.str "move",.ref b,.ref d]) p=some (.tup [.str "move",.ref b,.ref d]):=AF
  generalize upd H2 p (.tup [.str "move",.ref b,.ref d])=H3 at y f3⊢
  refine⟨_,rfl,_,_,rfl,rfl,Am,fun g4 nY=>?_⟩
  have O:=AJ.new (o:=.tup [.ref p,.int (100+(a:Int))]) nY
  have s24:=(N.trans y).trans O
  exact q g4 (.ref p) _ (.DV a) _ (D.trans s24) AF ⟨b,Du (w:="move") (O _ _ f3) (s24 _ _ M) (IY t) Fw (by decide) (fun _=>List.cons_ne_nil _ _) (Gn.two (.inr rfl) ((y.trans O) _ _ G)) (IY t) Fw (fun _=>List.cons_ne_nil _ _),fun m e=>nomatch e⟩ zo (.inr (.inl ⟨a,la,rfl,rfl⟩))
end
end Bu
namespace Bu
open PySem L2
section
variable{P:Program} {w:World} {K:ACH} [An K] {mg:Str->Option Value} {base:Heap}
theorem Rj:Aa ["_law_doc","_law_row","_law_one","_law_other","_law_first","_law_here","_law_there","_law_cells","_law_marks","_law_left"] ["_law_doc","_law_row","_law_one","_law_other","_law_first"] (AH IG):=⟨rfl,rfl,rfl,by decide+kernel,rfl,by decide+kernel,by decide+kernel⟩
theorem XU {f:Addr} {fd:FuncData} (F:DW K "_law_right" "_law_right" IG f fd) (T:Txt mg) (ia:Df P w K mg base "over" ["one","other","first"] 9 QG) (Qh:Df P w K mg base "_law_found" ["_law_doc","_law_path"] 1 Ek) (ib:Df P w K mg base "_law_done" ["_law_doc","_law_row"] 62 Ms):BG P w K mg base DC 66 f fd ["_law_doc","_law_row","_law_one","_law_other","_law_first"] IA:=by
 obtain⟨xW,xX,aU,aV,aW,aX⟩:=ia.ex
 obtain⟨XP,XQ,U,X,Y,Z⟩:=Qh.ex
 obtain⟨xY,xZ,u,G,I,J⟩:=ib.ex
 refine F.ok Rj (fun vs H Q E h=>?_) (fun Iq A outer s H vs Q E hr h=>?_)
 ·obtain⟨d,tr,t1,t2,r1,r2,c1,c2,c,j,first,n0,n1,n2,S,P,D0,a0,a1,a2,rfl,ed,Of,Bl,hsz,ie,Xc,W',C1,C2,b,q⟩:=h
  rfl
 ·obtain⟨d,tr,t1,t2,r1,r2,c1,c2,c,j,first,n0,n1,n2,S,P,D0,a0,a1,a2,rfl,ed,Of,Bl,hsz,ie,Xc,W',C1,C2,b,q⟩:=h
  have nd:=Rj.nd
  have hu:=BC hr
  have XW:Ac 9 _:=hr.mono (by first|decide|omega)
  have O:Ac 1 _:=hr.mono (by first|decide|omega)
  have p:Ac 62 _:=hr.mono (by first|decide|omega)
  refine⟨_,(AE (AV (i:=5) nd rfl (Or.inl rfl) (AG J p rfl I u G .nil AN (AA (AG J p rfl I u G .nil AN (AA (pv 0) (AA (AO (r:=Af K) AM (pv 2) AD (fun _ _=>rfl)) AB))) (AA (AG aX XW rfl aW aU aV .nil AN (AA (AO (r:=Af K) AM (pv 3) AD (fun _ _=>rfl)) (AA (AO (r:=Af K) AM (pv 2) AD (fun _ _=>rfl)) (AA (Ox (pv 4)) AB)))) AB))))
   (AE (AV (i:=6) nd rfl (Or.inl rfl) (AG J p rfl I u G .nil AN (AA (AG J p rfl I u G .nil AN (AA (pv 0) (AA (AO (r:=Af K) AM (pv 3) AD (fun _ _=>rfl)) AB))) (AA (AG aX XW rfl aW aU aV .nil AN (AA (AO (r:=Af K) AM (pv 2) AD (fun _ _=>rfl)) (AA (AO (r:=Af K) AM (pv 3) AD (fun _ _=>rfl)) (AA (pv 4) AB)))) AB))))
   (AE (Ag (PW.pt (pw_or (AS GV (pv 5) BE (AX _)) (pw_or1 (AS (cN (Ac.units hr):Dy _ _ cM) (pv 5) (pv 6) (AX _))))) (AI (AL IJ)) AQ)
   (AE (AV (i:=7) nd rfl (Or.inl rfl) (AG Z O rfl Y U X .nil AN (AA (pv 5) (AA (pv 1) AB))))
   (AE (Ag (AS UJ (AZ JQ (show PE _ _ (lD K _ _ _ _)from Fb PySem.F.plainAttrs_list PySem.F.slot_list_index PySem.F.type_list_index OQ (pv 7) (AA (AO (r:=Af K) AM (pv 2) AD (fun _ _=>rfl)) AB)) (show PE _ _ (lD K _ _ _ _)from Fb PySem.F.plainAttrs_list PySem.F.slot_list_index PySem.F.type_list_index OQ (pv 7) (AA (AO (r:=Af K) AM (pv 3) AD (fun _ _=>rfl)) AB))) (AO (r:=EJ K) Bp (EI (AA AD (AA (CG BV AD) AB))) (C' K_ rfl T.int Zm (AA (pv 4) AB)) (fun _ _=>rfl)) (AX _)) (AI (AL IJ)) AQ)
   (AE (AV (i:=8) nd rfl (Or.inr rfl) (EI (AA (AO (r:=Af K) AM (pv 2) AD (fun _ _=>rfl)) (AA (AO (r:=Af K) AM (pv 3) AD (fun _ _=>rfl)) AB))))
   (AE (PN (i:=9) (fv:=["_law_marks"]) (fs:=[8]) rfl (.of (by rfl)) nd rfl (Or.inl rfl) (Gw (pv 7)) (fun C s0 H0 fp=>Qu (AS (E':Dy _ _ (SE K true)) (pv 0) (pv 1) rfl)) (fun C s0 H0 fp=>(pv 0)))
   (AI (AL (CU (bc (Ac.GX hr)) (pv 9) (GB (fv:=["_law_marks"]) (fs:=[8]) rfl (.of (by rfl)) (Gw (AG Z O rfl Y U X .nil AN (AA (pv 0) (AA (pv 1) AB)))) (fun C s0 H0 fp=>Qu (AS (E':Dy _ _ (SE K true)) (pv 0) (pv 1) rfl)) (fun C s0 H0 fp=>(pv 0))) (AX _))))))))))),?_⟩
  obtain⟨p1,X1,q1⟩:=C1
  obtain⟨p2,X2,q2⟩:=C2
  have hF:=b.first first
  have hS:=b.second (!first)
  have v1:=QT q1 b.cV b.b1
  have v2:=QT q2 b.Zz b.b2
  subst ed
  refine⟨_,rfl,_,rfl,t1,_,0,_,rfl,rfl,Ah.of Xc,FU,_,r1,c1.w,_,_,p1,CC c,rfl,Of,Bl,by omega,X1,v1,Oa b.N hF.1,fun t d1 H1 s1 l1 EM Wc ng=>?_⟩
  obtain⟨D1,b0,b1,b2,rfl⟩:=RW b.N hF.1 l1 ng
  refine⟨_,rfl,t2,_,0,_,rfl,rfl,Ah.of (s1 _ _ W'),FU,_,rfl,t1,_,0,_,rfl,rfl,Ah.of (s1 _ _ Xc),FU,_,rfl,_,rfl,?_⟩
  refine⟨r2,c2.w,_,_,p2,r1,c1.w,_,_,p1,!first,_,_,rfl,X2.up s1,X1.rw.up s1,(EG c2 n0 P).1,(EG c2 n0 P).2,(EG c1 n0 P).1,(EG c1 n0 P).2,We,Lj b.Yz b.Wc b.mh b.mf,OZ b.Yz b.Wc b.mh X1.rw.sx X1.rw.sz b.kA,fun a0' a3 xa rest p3 H2 s2 ea ig RX dU lr nh=>?_⟩
  have z0:S.size<=25:=by rw[<-Ep (D:=D0) (a0:=a0) (a1:=a1) (a2:=a2) (n0:=n0) (n1:=n1) (n2:=n2)];exact hsz
  have z1:=Ka (n1:=n1) (S:=S) (m:=c) (r:=KY P c1)
  have z1':=Ka (n1:=n1) (S:=S) (m:=j) (r:=KY P c2)
  have nf:(!(!first))=first:=by cases first<;>rfl
  rw[nf]at RX
  refine⟨_,.ref a3,c2.w,_,_,p3,CC j,rfl,Dc.BS s2 EM.at_,Wc,by rw[Ep];omega,RX,Z_ v2 ea ig s1 nh dU,Ob b.N hF.2.1,fun t' d2 H3 s3 l2 dq Yz ni=>?_⟩
  obtain⟨D2,e0,e1,e2,rfl⟩:=RY b.N hF.2.1 l2 ni
  rw[hF.2.2]at dq Yz⊢
  have s13:=s1.trans (s2.trans s3)
  refine⟨_,rfl,_,rfl,t2,_,0,_,rfl,rfl,Ah.of (s13 _ _ W'),FU,_,r2,c2.w,_,_,p2,CC j,rfl,Dc.BS s13 Of,Bl,by omega,X2.up s13,QT (fun m e=>by obtain⟨a,h1,h2⟩:=q2 m e;exact⟨a,h1,s13 _ _ h2⟩) b.Zz b.b2,Oa b.N hS.1,fun t3 d3 H4 s4 l3 zq zr nj=>?_⟩
  obtain⟨D3,g0,g1,g2,rfl⟩:=RW b.N hS.1 l3 nj
  have s14:=s13.trans s4
  refine⟨_,rfl,t1,_,0,_,rfl,rfl,Ah.of (s14 _ _ Xc),FU,_,rfl,t2,_,0,_,rfl,rfl,Ah.of (s14 _ _ W'),FU,_,rfl,?_⟩
  refine⟨r1,c1.w,_,_,p1,r2,c2.w,_,_,p2,first,_,_,rfl,X1.up s14,X2.rw.up s14,(EG c1 n0 P).1,(EG c1 n0 P).2,(EG c2 n0 P).1,(EG c2 n0 P).2,We,Lj b.Wc b.Yz b.mf b.mh,OZ b.Wc b.Yz b.mf X2.rw.sx X2.rw.sz b.kA,fun zt a4 nq xb p4 H5 s5 ZJ nr zu iZ lr' ij=>?_⟩
  refine⟨_,.ref a4,c1.w,_,_,p4,CC c,rfl,Dc.BS s5 zq.at_,zr,by rw[Ep];omega,zu,Z_ v1 ZJ nr s14 ij iZ,Ob b.N hS.2.1,fun t4 d4 H6 s6 l4 nu xc n_=>?_⟩
  obtain⟨D4,k0,k1,k2,rfl⟩:=RY b.N hS.2.1 l4 n_
  rw[hS.2.2]at nu xc⊢
  rw[nf]at nu xc⊢
  have s46:=s4.trans (s5.trans s6)
  have s06:=s13.trans s46
  have kP:=Dc.BS s46 dq.at_
  have zv:=Dc.Vp _ kP
  have zw:=Dc.Vp _ nu.at_
  have zh:(Bc D2 e0 e1 e2 n0 n1 n2 ⟨Hg P S.L c j first,EE n1 S.A c1,EF n1 S.B c2⟩).size<=60:=by
   rw[Ep,<-hF.2.2]
   have:=Ka (n1:=n1) (S:=(KY P c1).HU n1 S c) (m:=j) (r:=res c1 P first c2)
   omega
  have dp:=(Dc.WI _ kP Yz (by omega)).2
  refine⟨_,rfl,rfl,_,rfl,BM rfl ⟨_,rfl,_,rfl,D2,D4,_,_,rfl,rfl,zv,zw,Nat.le_trans dp zh,_,rfl,BO ?_⟩⟩
  refine⟨_,rfl,_,rfl,_,tr,_,rfl,kP,s06 _ _ ie,(fun z hz=>by rw[List.mem_singleton.mp hz];exact .inr ⟨n0,rfl,b.kA⟩),?_⟩
  have t0:=OS (D:=D2) (a0:=e0) (a1:=e1) (a2:=e2) (L:=Hg P S.L c j first) (A:=EE n1 S.A c1) (B:=EF n1 S.B c2) b.N
  rw[show(Bc D2 e0 e1 e2 n0 n1 n2 ⟨Hg P S.L c j first,EE n1 S.A c1,EF n1 S.B c2⟩).sub [.str n0]=_ from t0]
  dsimp only[Yt,Dc.val,Dm]
  have P0:=Dc.BI.sub (show(Bc D2 e0 e1 e2 n0 n1 n2 ⟨Hg P S.L c j first,EE n1 S.A c1,EF n1 S.B c2⟩).sub [.str n0]=_ from t0)
  have rat:=P0.at_ kP
  simp only[Dc.At]at rat
  have ev:∀l:List Int,(l.map CC).map Dc.val=l.map V.int:=fun l=>by rw[List.map_map];rfl
  have he:=rat.1.exact ((dq.up s46).own e0 (P0.addrs e0 (by simp[Dc.addrs])))
  rw[ev]at he
  have lL:(Hg P S.L c j first).length<=1000:=by
   have:=Dc.GZ ((Hg P S.L c j first).map CC)
   have h2:=P0.size
   simp only[Dc.size]at h2
   rw[List.length_map]at this
   omega
  obtain⟨j1,j2,zx,zy,kM,zz,ej⟩:=cW (P:=P) (L:=S.L) (ah:=first) b.ne
  refine⟨_,rfl,.inl ⟨rfl,_,Bd.of he⟩,_,rfl,t1,_,1,_,rfl,rfl,Ah.of (s06 _ _ Xc),L2.EM,e0,_,c,j1,rfl,rfl,he,zx,zy,lL,?_⟩
  refine⟨_,rfl,.inl ⟨rfl,_,Bd.of he⟩,_,rfl,t2,_,1,_,rfl,rfl,Ah.of (s06 _ _ W'),L2.EM,e0,_,j,j2,rfl,rfl,he,kM,zz,lL,_,_,rfl,rfl,?_⟩
  refine⟨_,rfl,Am,fun Lp z_=>⟨_,rfl,.inr ⟨first,rfl,Lp,_,_,.int (if first=true then-1 else 1),rfl,rfl,Bd.of AF,by cases first<;>rfl,rfl,_,rfl,BM (by rw[ej];simp) ?_⟩⟩⟩
  have s7:=AJ.new (o:=.lst [.int 1,.int (-1)]) z_
  generalize upd H6 Lp (.lst [.int 1,.int (-1)])=H7 at s7⊢
  have s07:=s06.trans s7
  refine⟨_,rfl,t1,_,1,_,rfl,rfl,Ah.of (s07 _ _ Xc),L2.EM,_,rfl,t2,_,1,_,rfl,rfl,Ah.of (s07 _ _ W'),L2.EM,Am,fun M hM=>?_⟩
  have s8:=AJ.new (o:=.lst [.int c,.int j]) hM
  have fM:upd H7 M (.lst [.int c,.int j]) M=some (.lst [.int c,.int j]):=AF
  generalize upd H7 M (.lst [.int c,.int j])=H8 at s8 fM⊢
  have s08:=s07.trans s8
  have xf:Bd K H8 e0 ((Hg P S.L c j first).map V.int):=Bd.of (s8 _ _ (s7 _ _ he))
  have li:∀(L:List Int) (i:Nat),i<L.length->(L.map V.int)[i]?=some (.int (L.getD i 0)):=fun L i hi=>by rw[List.getElem?_map,List.getD_eq_getElem?_getD,ACD hi];rfl
  have pure:∀(Hx:Hp) (g:Addr) (L:List Int) (σ:St) (Qx:VK),L.length<=1000->Bd K Hx g (L.map V.int)->Hx M=some (.lst [.int c,.int j])->CN σ [8]=[some (.ref M)]->(∀D,Hx D=none->Qx (.ref D) (upd Hx D (.lst ((CB j (CB c L)).map V.int))))->Hm (eV K g) (UL (NK (SE K true) (Ez 0) (Ez 1))) (Ez 0) [8] σ Hx Qx:=fun Hx g L σ Qx lL hg hM8 hσ k=>by
   refine LJ (n:=L.length) (fun i=>.int (L.getD i 0)) (fun i=>.int (L.getD i 0)) (fun i=> !(Cs (.int (L.getD i 0)) [.int c,.int j])) (Az lL) (fun i D zs hi hD=>⟨_,_,(AJ.new hD).seq hg,li L i hi⟩) (fun i D zs v H' hi hD y=>?_) (fun D zs hD=>?_) (fun i D zs R hi hD h=>?_) (fun i D zs R hi hD hp h=>?_) (fun D hD=>?_)
   ·obtain⟨e,y⟩:=y
    have:=y _ ((AJ.new hD).seq hg)
    rw[li L i hi]at this
    exact⟨(ACF this).symm,e⟩
   ·exact⟨_,(AJ.new hD).seq hg,by simp⟩
   ·rw[hσ]
    exact⟨_,rfl,_,rfl,M,_,rfl,.inl (Bd.of (AJ.new hD _ _ hM8)),rfl,rfl,_,rfl,h⟩
   ·exact⟨_,rfl,h⟩
   ·rw[Mv L fun x=> !(Cs (.int x) [.int c,.int j]),Y']
    exact k D hD
  refine⟨_,rfl,e0,rfl,⟨_,xf⟩,pure H8 e0 _ _ _ lL xf fM rfl fun D8 hD8=>?_⟩
  have s9:=AJ.new (o:=.lst ((CB j (CB c (Hg P S.L c j first))).map V.int)) hD8
  have fD:upd H8 D8 (.lst ((CB j (CB c (Hg P S.L c j first))).map V.int)) D8=some (.lst ((CB j (CB c (Hg P S.L c j first))).map V.int)):=AF
  generalize upd H8 D8 (.lst ((CB j (CB c (Hg P S.L c j first))).map V.int))=H9 at s9 fD⊢
  have s09:=s08.trans s9
  rw[Wg]at fD
  have ip:=Dc.BS s09 Of
  have u0:=OS (D:=D0) (a0:=a0) (a1:=a1) (a2:=a2) (L:=S.L) (A:=S.A) (B:=S.B) b.N
  refine⟨_,rfl,_,rfl,_,rfl,_,tr,_,rfl,ip,s09 _ _ ie,(fun z hz=>by rw[List.mem_singleton.mp hz];exact .inr ⟨n0,rfl,b.kA⟩),?_⟩
  rw[show(Bc D0 a0 a1 a2 n0 n1 n2 S).sub [.str n0]=_ from u0]
  dsimp only[Yt,Dc.val]
  have iq:=(Dc.BI.sub (show(Bc D0 a0 a1 a2 n0 n1 n2 S).sub [.str n0]=_ from u0)).at_ ip
  simp only[Dc.At]at iq
  have xg:Bd K H9 a0 (S.L.map V.int):=by rw[<-ev];exact .inl iq.1
  have lS:S.L.length<=1000:=by
   have:S.L.length<=S.size:=by unfold S3.size;omega
   omega
  refine⟨a0,rfl,⟨_,xg⟩,pure H9 a0 S.L _ _ lS xg (s9 _ _ fM) rfl fun D9 hD9=>?_⟩
  have s10:=AJ.new (o:=.lst ((CB j (CB c S.L)).map V.int)) hD9
  have fl:∀z∈(CB j (CB c S.L)).map V.int,Bg z=true:=fun z hz=>by
   obtain⟨i,_,rfl⟩:=List.mem_map.mp hz
   rfl
  refine⟨D8,D9,_,_,rfl,rfl,Bd.of (s10 _ _ fD),Bd.of AF,fl,fl,?_⟩
  rw[QC fl]
  exact q _ (s09.trans s10)
end
end Bu
namespace Bu
open PySem L2
section
variable{P:Program} {w:World} {K:ACH} [An K] {mg:Str->Option Value} {base:Heap}
theorem aY:Aa ["_law_script","_law_names_here","_law_k","_law_cell_here","_law_many","_law_doc","_law_place","_law_one","_law_other"] ["_law_script"] (AH Mw):=⟨rfl,rfl,rfl,by decide+kernel,rfl,by decide+kernel,by decide+kernel⟩
theorem du {f:Addr} {fd:FuncData} (F:DW K "law" "law" Mw f fd) (T:Txt mg) (ir:Df P w K mg base "_law_cell" ["_law_script","_law_k"] 1 (Pc K)) (XM:Df P w K mg base "_law_mix" ["_law_cell_here","_law_k"] 1 Nw) (dw:Df P w K mg base "_law_names" ["_law_one","_law_two"] 2 MO) (iu:Df P w K mg base "_law_come" ["_law_cell_here","_law_k","_law_names_here","_law_many","_law_place"] 3 QR) (dy:Df P w K mg base "_law_right" ["_law_doc","_law_row","_law_one","_law_other","_law_first"] 66 IA):BG P w K mg base DC 70 f fd ["_law_script"] (Nz K):=by
 obtain⟨xh,xi,l,p,t,u⟩:=ir.ex
 obtain⟨iU,iV,U,X,Y,Z⟩:=XM.ex
 obtain⟨fNames,n',dz,d_,eA,eB⟩:=dw.ex
 obtain⟨xj,xk,aZ,aa,ab,ae⟩:=iu.ex
 obtain⟨oA,oB,eD,eE,eF,eH⟩:=dy.ex
 refine F.ok aY (fun vs H Q E h=>?_) (fun Iq A outer s H vs Q E hr h=>?_)
 ·obtain⟨a,ns,rfl,hS,hlen,q⟩:=h
  rfl
 ·obtain⟨a,ns,rfl,hS,hlen,q⟩:=h
  have nd:=aY.nd
  have hu:=BC hr
  have d:Ac 1 _:=hr.mono (by first|decide|omega)
  have B:Ac 1 _:=hr.mono (by first|decide|omega)
  have ZR:Ac 2 _:=hr.mono (by first|decide|omega)
  have J:Ac 3 _:=hr.mono (by first|decide|omega)
  have ZS:Ac 66 _:=hr.mono (by first|decide|omega)
  refine⟨_,(AE (AV (i:=1) nd rfl (Or.inl rfl) (AG eB ZR rfl eA dz d_ .nil AN (AA (AG u d rfl t l p .nil AN (AA (pv 0) (AA AD AB))) (AA (AG u d rfl t l p .nil AN (AA (pv 0) (AA AD AB))) AB))))
   (AE (JO PassesOwn.never rfl (ET rfl T.range (AA (Ad (Ry rfl) rfl T.max gQ (AA AD (AA (Ad (Rz rfl) rfl T.min gR (AA AD (AA (AZ JQ (Ad Aq rfl T.len PySem.boot_len (AA (pv 0) AB)) AD) AB))) AB))) AB)) (Dx (i:=2) nd rfl (Or.inl rfl)) (AE (AV (i:=3) nd rfl (Or.inl rfl) (AG u d rfl t l p .nil AN (AA (pv 0) (AA (AZ BY AD (pv 2)) AB))))
   (AE (AV (i:=4) nd rfl (Or.inl rfl) (AZ BY AD (AZ Bk (AG Z B rfl Y U X .nil AN (AA (pv 3) (AA AD AB))) AD)))
   (AE (AV (i:=5) nd rfl (Or.inl rfl) (X' (Jc (AO (r:=EJ K) Bp (pv 1) AD (fun _ _=>rfl)) (GB (fv:=[]) (fs:=[]) rfl (.of (by rfl)) (ET rfl T.range (AA (pv 4) AB)) (fun _ _ _ _=>GA) (fun C s0 H0 fp=>(AZ BY AD (pv 0)))) (Jc (AO (r:=EJ K) Bp (pv 1) AD (fun _ _=>rfl)) (EI (AA AD (AA AD (AA AD AB)))) (Jc (AO (r:=EJ K) Bp (pv 1) AD (fun _ _=>rfl)) (EI (AA AD (AA AD (AA AD AB)))) X_))) rfl rfl (by simp) (by simp)))
   (AE (AV (i:=6) nd rfl (Or.inl rfl) (AZ Bk (AG Z B rfl Y U X .nil AN (AA (pv 3) (AA AD AB))) (AZ BY (pv 4) AD)))
   (AE (AV (i:=7) nd rfl (Or.inl rfl) (AG ae J rfl ab aZ aa .nil AN (AA (pv 3) (AA AD (AA (pv 1) (AA (pv 4) (AA (pv 6) AB)))))))
   (AE (AV (i:=8) nd rfl (Or.inl rfl) (AG ae J rfl ab aZ aa .nil AN (AA (pv 3) (AA AD (AA (pv 1) (AA (pv 4) (AA (pv 6) AB)))))))
   (AE (Ag (AS CP (AO (r:=Af K) AM (pv 7) AD (fun _ _=>rfl)) (AO (r:=Af K) AM (pv 8) AD (fun _ _=>rfl)) (AX _)) (AI (AV (i:=7) nd rfl (Or.inl rfl) (A' (AA (A' (AA Ax (AA (A' (AA (AO (r:=EJ K) Bp (pv 1) AD (fun _ _=>rfl)) (AA (pv 6) AB))) (AA AD AB)))) (AA AD AB))))) AQ)
   (AI (Ag (E_ (Aw (AG eH ZS rfl eF eD eE .nil AN (AA (pv 5) (AA (A' (AA (AO (r:=EJ K) Bp (pv 1) AD (fun _ _=>rfl)) AB)) (AA (pv 7) (AA (pv 8) (AA (CU CP (AZ Bk (AG Z B rfl Y U X .nil AN (AA (pv 3) (AA AD AB))) AD) AD (AX _)) AB)))))))) (AI (AL IJ)) AQ))))))))))
   (AI (AL IJ)))),?_⟩
  refine⟨_,rfl,a,ns,0,rfl,hS,fun c0 _=>⟨_,rfl,a,ns,1,rfl,hS,fun c1 _=>⟨c0,c1,rfl,fun n ys H1 s1 nn hn l6 oC ny=>?_⟩⟩⟩
  obtain⟨b,g0⟩:∃x,ys[0]?=some x:=⟨_,ACD (by omega)⟩
  obtain⟨g,g1⟩:∃x,ys[1]?=some x:=⟨_,ACD (by omega)⟩
  obtain⟨k,g2⟩:∃x,ys[2]?=some x:=⟨_,ACD (by omega)⟩
  have N:Tp b g k:=⟨fun e=>by subst e;have:=Dc.ES oC g0 g1;omega,fun e=>by subst e;have:=Dc.ES oC g0 g2;omega,fun e=>by subst e;have:=Dc.ES oC g1 g2;omega⟩
  have b0:=ny b (ACG g0)
  have b1:=ny g (ACG g1)
  have b2:=ny k (ACG g2)
  have nm:∀(j:Nat) (x:Str),ys[j]?=some x->NL (ys.map V.str) (j:Int)=some (.str x):=fun j x h=>CM (by rw[List.getElem?_map,h];rfl)
  have S2:=s1
  obtain⟨m,hm,lm⟩:∃m:Nat,(if(if((ns.map V.int).length:Int)-2<20 then((ns.map V.int).length:Int)-2 else 20)>1 then(if((ns.map V.int).length:Int)-2<20 then((ns.map V.int).length:Int)-2 else 20)else 1)=(m:Int)/\m<=20:=⟨_,(Int.toNat_of_nonneg (by split<;>split<;>omega)).symm,by split<;>split<;>omega⟩
  refine⟨_,rfl,a,_,rfl,.inl (S2.seq hS),_,_,rfl,rfl,_,_,rfl,_,_,rfl,_,rfl,?_⟩
  rw[hm]
  refine⟨by omega,by omega,Hk (lo:=0) (n:=m) (fun i σ Hi=>∃o2 o3 o4 o5 o6 o7 o8:Option V,σ=[some (.ref a),some (.ref n),o2,o3,o4,o5,o6,o7,o8]/\AJ H1 Hi) ⟨_,_,_,_,_,_,_,rfl,AJ.refl _⟩ ?_ ?_⟩
  rotate_left
  ·rintro σ Hi ⟨o2,o3,o4,o5,o6,o7,o8,rfl,si⟩
   exact q Hi
  rintro i σ Hi hi ⟨o2,o3,o4,o5,o6,o7,o8,rfl,si⟩
  refine⟨_,rfl,_,rfl,_,_,rfl,rfl,a,ns,2+i,(by show[V.ref a,V.int (2+(0+(i:Int)))]=_;simp),(S2.trans si).seq hS,fun c _=>?_⟩
  refine⟨_,rfl,c,0,rfl,by decide,fun r0 _ _=>⟨_,_,rfl,rfl,(by show(0:Int)<_;decide),_,_,rfl,rfl,?_⟩⟩
  have mb:=Qz r0 (n:=9) (by decide)
  obtain⟨many,em,l1,l9⟩:∃many:Nat,1+r0 % 9=(many:Int)/\1<=many/\many<=9:=⟨(1+r0 % 9).toNat,by omega,by omega,by omega⟩
  rw[em]
  refine fun D hD=>?_
  have sD:=AJ.new (o:=.dK []) hD
  have fD:upd Hi D (.dK []) D=some (.dK []):=AF
  generalize upd Hi D (.dK [])=H2 at sD fD⊢
  have hnD:=(S2.trans (si.trans sD))
  have oD:=(si.trans sD) _ _ hn
  have e10:((many:Int)).toNat=many:=by omega
  refine⟨_,rfl,n,_,_,_,rfl,rfl,Bd.of oD,nm 0 b g0,?_⟩
  refine⟨_,rfl,(many:Int),rfl,by omega,by omega,?_⟩
  rw[e10]
  refine LJ (n:=many) (fun i=>.int (0+(i:Int))) (fun i=>.int (100+(i:Int))) (fun _=>true) (Az (by omega)) (fun i D zs hi hD=>hi) (fun i D zs v H' hi hD y=>⟨y.2,y.1⟩) (fun D zs hD=>Nat.le_refl _) (fun i D zs R hi hD r=>r) (fun i D zs R hi hD _ r=>⟨_,rfl,_,_,rfl,rfl,(by rw[show(100:Int)+(0+(i:Int))=100+(i:Int)by omega];exact r)⟩) fun G ig=>?_
  have t0:=AJ.new (o:=.lst (List.map (fun(i:Nat)=>V.int (100+(i:Int))) (List.filter (fun x=>true) (List.range many)))) ig
  have f0:upd H2 G (.lst (List.map (fun(i:Nat)=>V.int (100+(i:Int))) (List.filter (fun x=>true) (List.range many)))) G=some (.lst ((Kb many).map V.int)):=by
   rw[AF]
   unfold Kb
   rw[List.filter_eq_self.mpr fun _ _=>rfl,List.map_map]
   rfl
  generalize upd H2 G (.lst (List.map (fun(i:Nat)=>V.int (100+(i:Int))) (List.filter (fun x=>true) (List.range many))))=H3 at t0 f0⊢
  refine⟨_,rfl,n,_,_,_,rfl,rfl,Bd.of (t0 _ _ oD),nm 1 g g1,Az (show 3<=1000 by decide),fun a1 Om=>?_⟩
  have t1:=AJ.new (o:=.lst [.int 1000,.int 1001,.int 1002]) Om
  have f1:upd H3 a1 (.lst [.int 1000,.int 1001,.int 1002]) a1=some (.lst [.int 1000,.int 1001,.int 1002]):=AF
  generalize upd H3 a1 (.lst [.int 1000,.int 1001,.int 1002])=H4 at t1 f1⊢
  refine⟨_,rfl,n,_,_,_,rfl,rfl,Bd.of ((t0.trans t1) _ _ oD),nm 2 k g2,Az (show 3<=1000 by decide),fun a2 Tt=>?_⟩
  have t2:=AJ.new (o:=.lst [.int 2000,.int 2001,.int 2002]) Tt
  have f2:upd H4 a2 (.lst [.int 2000,.int 2001,.int 2002]) a2=some (.lst [.int 2000,.int 2001,.int 2002]):=AF
  generalize upd H4 a2 (.lst [.int 2000,.int 2001,.int 2002])=H5 at t2 f2⊢
  have s25:=(t0.trans t1).trans t2
  have s35:=t1.trans t2
  refine⟨s25 _ _ fD,[(Sum.inr b,.ref G),(Sum.inr g,.ref a1),(Sum.inr k,.ref a2)],rfl,by show 3<=15;decide,?_⟩
  have em3:DB [] [((Sum.inr b:Key),V.ref G),(Sum.inr g,.ref a1),(Sum.inr k,.ref a2)]=[(Sum.inr b,.ref G),(Sum.inr g,.ref a1),(Sum.inr k,.ref a2)]:=FC _ _ (by show([Sum.inr b,Sum.inr g,Sum.inr k]:List Key).Nodup;simp[N.h01,N.h02,N.h12])
  rw[em3]
  have nDi:Hi D=none:=hD
  have xl:AJ Hi (upd H5 D (.dK [(Sum.inr b,.ref G),(Sum.inr g,.ref a1),(Sum.inr k,.ref a2)])):=(sD.trans s25).put hD
  have xm:upd H5 D (.dK [((Sum.inr b:Key),V.ref G),(Sum.inr g,.ref a1),(Sum.inr k,.ref a2)]) D=some (.dK [(Sum.inr b,.ref G),(Sum.inr g,.ref a1),(Sum.inr k,.ref a2)]):=AF
  have ka0:G≠D:=fun z=>by rw[z,fD]at ig;cases ig
  have ka1:a1≠D:=fun z=>by rw[z,t0 _ _ fD]at Om;cases Om
  have ka2:a2≠D:=fun z=>by rw[z,(t0.trans t1) _ _ fD]at Tt;cases Tt
  have xn:(Bc D G a1 a2 b g k (Ts many)).At (upd H5 D (.dK [(Sum.inr b,.ref G),(Sum.inr g,.ref a1),(Sum.inr k,.ref a2)])):=cY N (by rw[AR ka0];exact s35 _ _ f0) (by rw[AR ka1];exact t2 _ _ f1) (by rw[AR ka2];exact f2) xm
  generalize upd H5 D (.dK [((Sum.inr b:Key),V.ref G),(Sum.inr g,.ref a1),(Sum.inr k,.ref a2)])=H6 at xl xm xn⊢
  have s26:=xl
  have oE:=(si.trans s26) _ _ hn
  refine⟨_,rfl,c,1,rfl,by decide,fun r1 _ _=>⟨_,rfl,_,_,rfl,rfl,_,_,rfl,rfl,(by show(0:Int)<_;omega),?_⟩⟩
  have mp:=Qz r1 (n:=(many:Int)+1) (by omega)
  obtain⟨M,eP,lP⟩:∃M:Nat,r1 % ((many:Int)+1)=(M:Int)/\M<=many:=⟨(r1 % ((many:Int)+1)).toNat,by omega,by omega⟩
  rw[eP]
  refine⟨_,rfl,_,rfl,_,rfl,_,rfl,c,2,n,ys,many,M,b,g,rfl,.inl rfl,oE,g0,g1,Ne.symm N.h01,b0,b1,l1,l9,lP,fun t1 r1' m1 c1 H7 s7 h1 C1 Wc k1=>?_⟩
  refine⟨_,rfl,_,rfl,_,rfl,_,rfl,c,4,n,ys,many,M,b,k,rfl,.inr rfl,s7 _ _ oE,g0,g2,Ne.symm N.h02,b0,b2,l1,l9,lP,fun t2 r2' m2 c2 H8 s8 h2 C2 Yz k2=>?_⟩
  have xo:=(s7.trans s8) _ _ oE
  have h18:=s8 _ _ h1
  have C18:=C1.up s8
  have oF:=Dc.BS (s7.trans s8) xn
  dsimp only[Dm]
  refine J_ (fun σ' H'=>∃(kQ:Addr) (L:V) (O:Int) (S:Bx),σ'=[some (.ref a),some (.ref n),some (.int (0+(i:Int))),some (.int c),some (.int (many:Int)),some (.ref D),some (.int (M:Int)),some (.ref kQ),some (.ref t2)]/\AJ H8 H'/\H' kQ=some (.tup [L,.int O])/\QQ H' L S b M/\(iB 2 many g S O∨(S=.put 9/\O=9))/\S.Ok b M/\O≠m2) ?_ ?_
  ·rintro σ' H9 ⟨kQ,L,O,S,rfl,s9,h19,C19,kk1,oG,ne⟩
   have T2:=cX N b0 b1 b2 l9 lP kk1 k2 ne oG Yz
   have oH:=Dc.BS s9 oF
   have hn9:=s9 _ _ xo
   refine⟨_,rfl,_,rfl,n,_,_,_,rfl,rfl,Bd.of hn9,nm 0 b g0,Fi,fun tr ie=>?_⟩
   have I:=AJ.new (o:=.tup [.str b]) ie
   have f10:upd H9 tr (.tup [.str b]) tr=some (.tup [.str b]):=AF
   generalize upd H9 tr (.tup [.str b])=H10 at I f10⊢
   refine⟨_,rfl,_,rfl,_,rfl,c,6,rfl,by decide,fun r6 _ _=>⟨_,_,rfl,rfl,(by show(0:Int)<_;decide),rfl,?_⟩⟩
   refine⟨Bc D G a1 a2 b g k (Ts many),tr,kQ,t2,L,r2',S,c2,O,m2,_,b,g,k,Ts many,M,D,G,a1,a2,rfl,rfl,Dc.BS I oH,cZ l9 b0 b1 b2,cb l9,f10,I _ _ h19,(s9.trans I) _ _ h2,C19.up I,C2.up (s9.trans I),T2,fun wR s11=>?_⟩
   exact⟨_,rfl,BO ⟨_,_,_,_,_,_,_,rfl,(si.trans s26).trans ((s7.trans s8).trans (s9.trans (I.trans s11)))⟩⟩
  ·intro go
   refine⟨_,rfl,t1,_,_,_,rfl,rfl,Ah.of h18,rfl,_,rfl,t2,_,_,_,rfl,rfl,Ah.of h2,rfl,rfl,_,rfl,?_⟩
   refine DZ (fun e=>?_) (fun e=>?_)
   ·refine⟨_,rfl,n,_,_,_,rfl,rfl,Bd.of xo,nm 0 b g0,_,rfl,Am,fun x1 hx1=>?_⟩
    have u1:=AJ.new (o:=.tup [.str b,.int (M:Int)]) hx1
    have w1:upd H8 x1 (.tup [.str b,.int (M:Int)]) x1=some (.tup [.str b,.int (M:Int)]):=AF
    generalize upd H8 x1 (.tup [.str b,.int (M:Int)])=G1 at u1 w1⊢
    refine⟨Az (show 3<=1000 by decide),fun x2 hx2=>?_⟩
    have u2:=AJ.new (o:=.tup [.str "put",.ref x1,.int 9]) hx2
    have w2:upd G1 x2 (.tup [.str "put",.ref x1,.int 9]) x2=some (.tup [.str "put",.ref x1,.int 9]):=AF
    generalize upd G1 x2 (.tup [.str "put",.ref x1,.int 9])=G2 at u2 w2⊢
    refine⟨Am,fun x3 hx3=>?_⟩
    have u3:=AJ.new (o:=.tup [.ref x2,.int 9]) hx3
    refine go _ _ ⟨x3,.ref x2,9,.put 9,rfl,(u1.trans u2).trans u3,AF,⟨x1,?_,fun m e=>⟨x2,rfl,by cases e;exact u3 _ _ w2⟩⟩,.inr ⟨rfl,rfl⟩,trivial,fun z=>?_⟩
    ·exact Du (w:="put") (zs:=[]) (u3 _ _ w2) (u3 _ _ (u2 _ _ w1)) (IY b0) Fw (by decide) (fun _=>List.cons_ne_nil _ _) (Gn.val (v:=CC 9) (.inl rfl) (.inl ⟨_,rfl⟩) (.inl ⟨_,rfl,by omega⟩) (by simp[Dc.size]) (KI fun⟨i,e,hi⟩=>by cases e;omega)) (fun z hz=>nomatch hz) (Nat.zero_le _) (fun h=>absurd h (by decide))
    ·rcases k2 with⟨_,e2⟩|⟨a',_,_,e2⟩|⟨i',_,_,e2⟩<;>omega
   ·refine go _ _ ⟨t1,r1',m1,c1,rfl,AJ.refl _,h18,C18,.inl k1,Wc,fun z=>?_⟩
    rw[z]at e
    simp at e
end
end Bu
namespace Bu
open PySem L2
theorem Ey (us:List Value) (h:us.length=1):∃a,us=[a]:=by
 rcases us with _|⟨a,us⟩<;>simp only[List.length_cons,List.length_nil]at h<;>try omega
 rcases us with _|⟨y,us⟩<;>simp only[List.length_cons,List.length_nil]at h<;>try omega
 exact⟨a,rfl⟩
theorem Cq (us:List Value) (h:us.length=2):∃a b,us=[a,b]:=by
 rcases us with _|⟨a,us⟩<;>simp only[List.length_cons,List.length_nil]at h<;>try omega
 rcases us with _|⟨b,us⟩<;>simp only[List.length_cons,List.length_nil]at h<;>try omega
 rcases us with _|⟨y,us⟩<;>simp only[List.length_cons,List.length_nil]at h<;>try omega
 exact⟨a,b,rfl⟩
theorem Oq (us:List Value) (h:us.length=3):∃a b c,us=[a,b,c]:=by
 rcases us with _|⟨a,us⟩<;>simp only[List.length_cons,List.length_nil]at h<;>try omega
 rcases us with _|⟨b,us⟩<;>simp only[List.length_cons,List.length_nil]at h<;>try omega
 rcases us with _|⟨c,us⟩<;>simp only[List.length_cons,List.length_nil]at h<;>try omega
 rcases us with _|⟨y,us⟩<;>simp only[List.length_cons,List.length_nil]at h<;>try omega
 exact⟨a,b,c,rfl⟩
theorem iv (us:List Value) (h:us.length=4):∃a b c d,us=[a,b,c,d]:=by
 rcases us with _|⟨a,us⟩<;>simp only[List.length_cons,List.length_nil]at h<;>try omega
 rcases us with _|⟨b,us⟩<;>simp only[List.length_cons,List.length_nil]at h<;>try omega
 rcases us with _|⟨c,us⟩<;>simp only[List.length_cons,List.length_nil]at h<;>try omega
 rcases us with _|⟨d,us⟩<;>simp only[List.length_cons,List.length_nil]at h<;>try omega
 rcases us with _|⟨y,us⟩<;>simp only[List.length_cons,List.length_nil]at h<;>try omega
 exact⟨a,b,c,d,rfl⟩
theorem ag (us:List Value) (h:us.length=5):∃a b c d e,us=[a,b,c,d,e]:=by
 rcases us with _|⟨a,us⟩<;>simp only[List.length_cons,List.length_nil]at h<;>try omega
 rcases us with _|⟨b,us⟩<;>simp only[List.length_cons,List.length_nil]at h<;>try omega
 rcases us with _|⟨c,us⟩<;>simp only[List.length_cons,List.length_nil]at h<;>try omega
 rcases us with _|⟨d,us⟩<;>simp only[List.length_cons,List.length_nil]at h<;>try omega
 rcases us with _|⟨e,us⟩<;>simp only[List.length_cons,List.length_nil]at h<;>try omega
 rcases us with _|⟨y,us⟩<;>simp only[List.length_cons,List.length_nil]at h<;>try omega
 exact⟨a,b,c,d,e,rfl⟩
theorem all_mk {l:PySem.W.OpenLaw} {w:World} {K:ACH} {h:Heap} {mg:Str->Option Value} {fa f1 f2 f3 f4 f5 f6 f7 f8 f9 f10 f11 f12 f13 f14 f15 f16 f17 f18 f19 f20 f21 f22 f23 f24 f25 f26 f27 f28 f29 f30 f31 f32 f33 f34 f35 f36 f37 f38 f39 f40 f41 f42:Addr} (X:K.In h) (G:h.Ns mainGlobals mg) (hfa:mg "law"=some (.ref fa))
  {od1 an1 od2 an2 od3 an3 od4 an4 od5 an5 od6 an6 od7 an7 od8 an8 od9 an9 oI oJ oK oM oN oO oP oQ oR oS oU oV oW oX oY oZ og oh oj om oq ou ow oz o_ pA pB pC pD pE pF pG pH pI pJ pK pM pN pO pP pQ pR pS pT pU pV pW pX pY pZ pb pd pe ph pj pq pw p_ qA qB qE qF qG qH qI iw:Option Addr} {sl1 sl2 sl3 sl4 sl5 sl6 sl7 sl8 sl9 qJ qK qL qM qN qO qP qQ qR qS qT qU qV qW qX qY qZ qa qb qc qf qg qh qi qk ql qm qo qp qq qr qt qu:Array (Option Value)} {oc1 kV1 dc1 pm1 xp ct1 oc2 kV2 dc2 pm2 xq ct2 oc3 kV3 dc3 pm3 xr ct3 oc4 kV4 dc4 pm4 xt ct4 oc5 kV5 dc5 pm5 xu ct5 oc6 kV6 dc6 pm6 xw ct6 oc7 kV7 dc7 pm7 xx ct7 oc8 kV8 dc8 pm8 xy ct8 oc9 kV9 dc9 pm9 x_ ct9 qv qw qx qy iy qz q_ rA rB rC iz rD rE rF rG rH i_ rJ rK rL rM rN jA rO rP rQ rR rS jB rT rV rW rX rY jC rZ rg rh ri rj jD rk rl rm ro rp jE rq rx ry rz r_ jF sA sC sE sF sH jG sI sJ sN sO sP jH sQ sS sT sU sV jI sW sX sY sZ se jJ sf sj sk so sr jK s_ tD tE tF tG jL tH tJ tK tL tM jM tN tO tQ tR tS jN tT tU tV tW tX jO tY tZ tj tm tq jP tw t_ uA uB uC jQ uD uE uF uG uH jR uI uJ uK uL uM jS uN uO uP uQ uR jT uS uT uU uV uW jU uX uY uZ ua ub jV uc ud ue uf ug jW uh ui uj uk um jX uo uq ur uu uv jY uw ux uy uz u_ jZ vA vB vC vD vE ja vF vG vH vI vJ jb vK vL vM vN vO jc vP vQ jd je jf S jg:Value}
  (a1:PySem.W.nsIn K mainGlobals "steps_of"=some (some (.ref f1))) (l1:K.lookup f1=some ⟨oc1,od1,.func (PySem.W.fnOf "steps_of" "steps_of" (AY Er) (AW Er) (AH Er) .none kV1 dc1 pm1 an1 xp ct1),sl1⟩) (c1:PySem.W.codeIn K xp "steps_of"=true) (k1:PySem.W.keepIn K (.ref f1)=true)
  (a2:PySem.W.nsIn K mainGlobals "outer_copy"=some (some (.ref f2))) (l2:K.lookup f2=some ⟨oc2,od2,.func (PySem.W.fnOf "outer_copy" "outer_copy" (AY DI) (AW DI) (AH DI) .none kV2 dc2 pm2 an2 xq ct2),sl2⟩) (c2:PySem.W.codeIn K xq "outer_copy"=true) (k2:PySem.W.keepIn K (.ref f2)=true)
  (a3:PySem.W.nsIn K mainGlobals "copy_of"=some (some (.ref f3))) (l3:K.lookup f3=some ⟨oc3,od3,.func (PySem.W.fnOf "copy_of" "copy_of" (AY GL) (AW GL) (AH GL) .none kV3 dc3 pm3 an3 xr ct3),sl3⟩) (c3:PySem.W.codeIn K xr "copy_of"=true) (k3:PySem.W.keepIn K (.ref f3)=true)
  (a4:PySem.W.nsIn K mainGlobals "begins"=some (some (.ref f4))) (l4:K.lookup f4=some ⟨oc4,od4,.func (PySem.W.fnOf "begins" "begins" (AY GN) (AW GN) (AH GN) .none kV4 dc4 pm4 an4 xt ct4),sl4⟩) (c4:PySem.W.codeIn K xt "begins"=true) (k4:PySem.W.keepIn K (.ref f4)=true)
  (a5:PySem.W.nsIn K mainGlobals "gone_by"=some (some (.ref f5))) (l5:K.lookup f5=some ⟨oc5,od5,.func (PySem.W.fnOf "gone_by" "gone_by" (AY GO) (AW GO) (AH GO) .none kV5 dc5 pm5 an5 xu ct5),sl5⟩) (c5:PySem.W.codeIn K xu "gone_by"=true) (k5:PySem.W.keepIn K (.ref f5)=true)
  (a6:PySem.W.nsIn K mainGlobals "moved_by"=some (some (.ref f6))) (l6:K.lookup f6=some ⟨oc6,od6,.func (PySem.W.fnOf "moved_by" "moved_by" (AY Es) (AW Es) (AH Es) .none kV6 dc6 pm6 an6 xw ct6),sl6⟩) (c6:PySem.W.codeIn K xw "moved_by"=true) (k6:PySem.W.keepIn K (.ref f6)=true)
  (a7:PySem.W.nsIn K mainGlobals "reads"=some (some (.ref f7))) (l7:K.lookup f7=some ⟨oc7,od7,.func (PySem.W.fnOf "reads" "reads" (AY IB) (AW IB) (AH IB) .none kV7 dc7 pm7 an7 xx ct7),sl7⟩) (c7:PySem.W.codeIn K xx "reads"=true) (k7:PySem.W.keepIn K (.ref f7)=true)
  (a8:PySem.W.nsIn K mainGlobals "is_place"=some (some (.ref f8))) (l8:K.lookup f8=some ⟨oc8,od8,.func (PySem.W.fnOf "is_place" "is_place" (AY Et) (AW Et) (AH Et) .none kV8 dc8 pm8 an8 xy ct8),sl8⟩) (c8:PySem.W.codeIn K xy "is_place"=true) (k8:PySem.W.keepIn K (.ref f8)=true)
  (a9:PySem.W.nsIn K mainGlobals "place_into"=some (some (.ref f9))) (l9:K.lookup f9=some ⟨oc9,od9,.func (PySem.W.fnOf "place_into" "place_into" (AY DJ) (AW DJ) (AH DJ) .none kV9 dc9 pm9 an9 x_ ct9),sl9⟩) (c9:PySem.W.codeIn K x_ "place_into"=true) (k9:PySem.W.keepIn K (.ref f9)=true)
  (a10:PySem.W.nsIn K mainGlobals "with_place"=some (some (.ref f10))) (l10:K.lookup f10=some ⟨qv,oI,.func (PySem.W.fnOf "with_place" "with_place" (AY DK) (AW DK) (AH DK) .none qw qx qy oJ iy qz),qJ⟩) (c10:PySem.W.codeIn K iy "with_place"=true) (k10:PySem.W.keepIn K (.ref f10)=true)
  (a11:PySem.W.nsIn K mainGlobals "ahead_of_taking"=some (some (.ref f11))) (l11:K.lookup f11=some ⟨q_,oK,.func (PySem.W.fnOf "ahead_of_taking" "ahead_of_taking" (AY B') (AW B') (AH B') .none rA rB rC oM iz rD),qK⟩) (c11:PySem.W.codeIn K iz "ahead_of_taking"=true) (k11:PySem.W.keepIn K (.ref f11)=true)
  (a12:PySem.W.nsIn K mainGlobals "comes_to"=some (some (.ref f12))) (l12:K.lookup f12=some ⟨rE,oN,.func (PySem.W.fnOf "comes_to" "comes_to" (AY Eu) (AW Eu) (AH Eu) .none rF rG rH oO i_ rJ),qL⟩) (c12:PySem.W.codeIn K i_ "comes_to"=true) (k12:PySem.W.keepIn K (.ref f12)=true)
  (a13:PySem.W.nsIn K mainGlobals "needs"=some (some (.ref f13))) (l13:K.lookup f13=some ⟨rK,oP,.func (PySem.W.fnOf "needs" "needs" (AY IC) (AW IC) (AH IC) .none rL rM rN oQ jA rO),qM⟩) (c13:PySem.W.codeIn K jA "needs"=true) (k13:PySem.W.keepIn K (.ref f13)=true)
  (a14:PySem.W.nsIn K mainGlobals "bars"=some (some (.ref f14))) (l14:K.lookup f14=some ⟨rP,oR,.func (PySem.W.fnOf "bars" "bars" (AY Lk) (AW Lk) (AH Lk) .none rQ rR rS oS jB rT),qN⟩) (c14:PySem.W.codeIn K jB "bars"=true) (k14:PySem.W.keepIn K (.ref f14)=true)
  (a15:PySem.W.nsIn K mainGlobals "leaves"=some (some (.ref f15))) (l15:K.lookup f15=some ⟨rV,oU,.func (PySem.W.fnOf "leaves" "leaves" (AY GP) (AW GP) (AH GP) .none rW rX rY oV jC rZ),qO⟩) (c15:PySem.W.codeIn K jC "leaves"=true) (k15:PySem.W.keepIn K (.ref f15)=true)
  (a16:PySem.W.nsIn K mainGlobals "place_behind"=some (some (.ref f16))) (l16:K.lookup f16=some ⟨rg,oW,.func (PySem.W.fnOf "place_behind" "place_behind" (AY CY) (AW CY) (AH CY) .none rh ri rj oX jD rk),qP⟩) (c16:PySem.W.codeIn K jD "place_behind"=true) (k16:PySem.W.keepIn K (.ref f16)=true)
  (a17:PySem.W.nsIn K mainGlobals "step_behind"=some (some (.ref f17))) (l17:K.lookup f17=some ⟨rl,oY,.func (PySem.W.fnOf "step_behind" "step_behind" (AY Ck) (AW Ck) (AH Ck) .none rm ro rp oZ jE rq),qQ⟩) (c17:PySem.W.codeIn K jE "step_behind"=true) (k17:PySem.W.keepIn K (.ref f17)=true)
  (a18:PySem.W.nsIn K mainGlobals "after"=some (some (.ref f18))) (l18:K.lookup f18=some ⟨rx,og,.func (PySem.W.fnOf "after" "after" (AY ID) (AW ID) (AH ID) .none ry rz r_ oh jF sA),qR⟩) (c18:PySem.W.codeIn K jF "after"=true) (k18:PySem.W.keepIn K (.ref f18)=true)
  (a19:PySem.W.nsIn K mainGlobals "does_begin"=some (some (.ref f19))) (l19:K.lookup f19=some ⟨sC,oj,.func (PySem.W.fnOf "does_begin" "does_begin" (AY DL) (AW DL) (AH DL) .none sE sF sH om jG sI),qS⟩) (c19:PySem.W.codeIn K jG "does_begin"=true) (k19:PySem.W.keepIn K (.ref f19)=true)
  (a20:PySem.W.nsIn K mainGlobals "begins_some"=some (some (.ref f20))) (l20:K.lookup f20=some ⟨sJ,oq,.func (PySem.W.fnOf "begins_some" "begins_some" (AY Cm) (AW Cm) (AH Cm) .none sN sO sP ou jH sQ),qT⟩) (c20:PySem.W.codeIn K jH "begins_some"=true) (k20:PySem.W.keepIn K (.ref f20)=true)
  (a21:PySem.W.nsIn K mainGlobals "holder_of_coming"=some (some (.ref f21))) (l21:K.lookup f21=some ⟨sS,ow,.func (PySem.W.fnOf "holder_of_coming" "holder_of_coming" (AY Bm) (AW Bm) (AH Bm) .none sT sU sV oz jI sW),qU⟩) (c21:PySem.W.codeIn K jI "holder_of_coming"=true) (k21:PySem.W.keepIn K (.ref f21)=true)
  (a22:PySem.W.nsIn K mainGlobals "spoils_read"=some (some (.ref f22))) (l22:K.lookup f22=some ⟨sX,o_,.func (PySem.W.fnOf "spoils_read" "spoils_read" (AY Cn) (AW Cn) (AH Cn) .none sY sZ se pA jJ sf),qV⟩) (c22:PySem.W.codeIn K jJ "spoils_read"=true) (k22:PySem.W.keepIn K (.ref f22)=true)
  (a23:PySem.W.nsIn K mainGlobals "bars_same"=some (some (.ref f23))) (l23:K.lookup f23=some ⟨sj,pB,.func (PySem.W.fnOf "bars_same" "bars_same" (AY Dl) (AW Dl) (AH Dl) .none sk so sr pC jK s_),qW⟩) (c23:PySem.W.codeIn K jK "bars_same"=true) (k23:PySem.W.keepIn K (.ref f23)=true)
  (a24:PySem.W.nsIn K mainGlobals "bars_needed"=some (some (.ref f24))) (l24:K.lookup f24=some ⟨tD,pD,.func (PySem.W.fnOf "bars_needed" "bars_needed" (AY Co) (AW Co) (AH Co) .none tE tF tG pE jL tH),qX⟩) (c24:PySem.W.codeIn K jL "bars_needed"=true) (k24:PySem.W.keepIn K (.ref f24)=true)
  (a25:PySem.W.nsIn K mainGlobals "moves_same"=some (some (.ref f25))) (l25:K.lookup f25=some ⟨tJ,pF,.func (PySem.W.fnOf "moves_same" "moves_same" (AY DM) (AW DM) (AH DM) .none tK tL tM pG jM tN),qY⟩) (c25:PySem.W.codeIn K jM "moves_same"=true) (k25:PySem.W.keepIn K (.ref f25)=true)
  (a26:PySem.W.nsIn K mainGlobals "moves_into"=some (some (.ref f26))) (l26:K.lookup f26=some ⟨tO,pH,.func (PySem.W.fnOf "moves_into" "moves_into" (AY DN) (AW DN) (AH DN) .none tQ tR tS pI jN tT),qZ⟩) (c26:PySem.W.codeIn K jN "moves_into"=true) (k26:PySem.W.keepIn K (.ref f26)=true)
  (a27:PySem.W.nsIn K mainGlobals "clashes_one_way"=some (some (.ref f27))) (l27:K.lookup f27=some ⟨tU,pJ,.func (PySem.W.fnOf "clashes_one_way" "clashes_one_way" (AY CA) (AW CA) (AH CA) .none tV tW tX pK jO tY),qa⟩) (c27:PySem.W.codeIn K jO "clashes_one_way"=true) (k27:PySem.W.keepIn K (.ref f27)=true)
  (a28:PySem.W.nsIn K mainGlobals "clashes"=some (some (.ref f28))) (l28:K.lookup f28=some ⟨tZ,pM,.func (PySem.W.fnOf "clashes" "clashes" (AY Ew) (AW Ew) (AH Ew) .none tj tm tq pN jP tw),qb⟩) (c28:PySem.W.codeIn K jP "clashes"=true) (k28:PySem.W.keepIn K (.ref f28)=true)
  (a29:PySem.W.nsIn K mainGlobals "coming_over"=some (some (.ref f29))) (l29:K.lookup f29=some ⟨t_,pO,.func (PySem.W.fnOf "coming_over" "coming_over" (AY Cp) (AW Cp) (AH Cp) .none uA uB uC pP jQ uD),qc⟩) (c29:PySem.W.codeIn K jQ "coming_over"=true) (k29:PySem.W.keepIn K (.ref f29)=true)
  (a30:PySem.W.nsIn K mainGlobals "behind_taking"=some (some (.ref f30))) (l30:K.lookup f30=some ⟨uE,pQ,.func (PySem.W.fnOf "behind_taking" "behind_taking" (AY CJ) (AW CJ) (AH CJ) .none uF uG uH pR jR uI),qf⟩) (c30:PySem.W.codeIn K jR "behind_taking"=true) (k30:PySem.W.keepIn K (.ref f30)=true)
  (a31:PySem.W.nsIn K mainGlobals "over"=some (some (.ref f31))) (l31:K.lookup f31=some ⟨uJ,pS,.func (PySem.W.fnOf "over" "over" (AY Ll) (AW Ll) (AH Ll) .none uK uL uM pT jS uN),qg⟩) (c31:PySem.W.codeIn K jS "over"=true) (k31:PySem.W.keepIn K (.ref f31)=true)
  (a32:PySem.W.nsIn K mainGlobals "_law_cell"=some (some (.ref f32))) (l32:K.lookup f32=some ⟨uO,pU,.func (PySem.W.fnOf "_law_cell" "_law_cell" (AY Lm) (AW Lm) (AH Lm) .none uP uQ uR pV jT uS),qh⟩) (c32:PySem.W.codeIn K jT "_law_cell"=true) (k32:PySem.W.keepIn K (.ref f32)=true)
  (a33:PySem.W.nsIn K mainGlobals "_law_mix"=some (some (.ref f33))) (l33:K.lookup f33=some ⟨uT,pW,.func (PySem.W.fnOf "_law_mix" "_law_mix" (AY QW) (AW QW) (AH QW) .none uU uV uW pX jU uX),qi⟩) (c33:PySem.W.codeIn K jU "_law_mix"=true) (k33:PySem.W.keepIn K (.ref f33)=true)
  (a34:PySem.W.nsIn K mainGlobals "_law_names"=some (some (.ref f34))) (l34:K.lookup f34=some ⟨uY,pY,.func (PySem.W.fnOf "_law_names" "_law_names" (AY IE) (AW IE) (AH IE) .none uZ ua ub pZ jV uc),qk⟩) (c34:PySem.W.codeIn K jV "_law_names"=true) (k34:PySem.W.keepIn K (.ref f34)=true)
  (a35:PySem.W.nsIn K mainGlobals "_law_copy"=some (some (.ref f35))) (l35:K.lookup f35=some ⟨ud,pb,.func (PySem.W.fnOf "_law_copy" "_law_copy" (AY Kc) (AW Kc) (AH Kc) .none ue uf ug pd jW uh),ql⟩) (c35:PySem.W.codeIn K jW "_law_copy"=true) (k35:PySem.W.keepIn K (.ref f35)=true)
  (a36:PySem.W.nsIn K mainGlobals "_law_found"=some (some (.ref f36))) (l36:K.lookup f36=some ⟨ui,pe,.func (PySem.W.fnOf "_law_found" "_law_found" (AY IF) (AW IF) (AH IF) .none uj uk um ph jX uo),qm⟩) (c36:PySem.W.codeIn K jX "_law_found"=true) (k36:PySem.W.keepIn K (.ref f36)=true)
  (a37:PySem.W.nsIn K mainGlobals "_law_put"=some (some (.ref f37))) (l37:K.lookup f37=some ⟨uq,pj,.func (PySem.W.fnOf "_law_put" "_law_put" (AY TX) (AW TX) (AH TX) .none ur uu uv pq jY uw),qo⟩) (c37:PySem.W.codeIn K jY "_law_put"=true) (k37:PySem.W.keepIn K (.ref f37)=true)
  (a38:PySem.W.nsIn K mainGlobals "_law_asked"=some (some (.ref f38))) (l38:K.lookup f38=some ⟨ux,pw,.func (PySem.W.fnOf "_law_asked" "_law_asked" (AY Ke) (AW Ke) (AH Ke) .none uy uz u_ p_ jZ vA),qp⟩) (c38:PySem.W.codeIn K jZ "_law_asked"=true) (k38:PySem.W.keepIn K (.ref f38)=true)
  (a39:PySem.W.nsIn K mainGlobals "_law_done"=some (some (.ref f39))) (l39:K.lookup f39=some ⟨vB,qA,.func (PySem.W.fnOf "_law_done" "_law_done" (AY Ln) (AW Ln) (AH Ln) .none vC vD vE qB ja vF),qq⟩) (c39:PySem.W.codeIn K ja "_law_done"=true) (k39:PySem.W.keepIn K (.ref f39)=true)
  (a40:PySem.W.nsIn K mainGlobals "_law_come"=some (some (.ref f40))) (l40:K.lookup f40=some ⟨vG,qE,.func (PySem.W.fnOf "_law_come" "_law_come" (AY Lo) (AW Lo) (AH Lo) .none vH vI vJ qF jb vK),qr⟩) (c40:PySem.W.codeIn K jb "_law_come"=true) (k40:PySem.W.keepIn K (.ref f40)=true)
  (a41:PySem.W.nsIn K mainGlobals "_law_right"=some (some (.ref f41))) (l41:K.lookup f41=some ⟨vL,qG,.func (PySem.W.fnOf "_law_right" "_law_right" (AY IG) (AW IG) (AH IG) .none vM vN vO qH jc vP),qt⟩) (c41:PySem.W.codeIn K jc "_law_right"=true) (k41:PySem.W.keepIn K (.ref f41)=true)
  (a42:PySem.W.nsIn K mainGlobals "law"=some (some (.ref f42))) (l42:K.lookup f42=some ⟨vQ,qI,.func (PySem.W.fnOf "law" "law" (AY Mw) (AW Mw) (AH Mw) .none jd je jf iw S jg),qu⟩) (c42:PySem.W.codeIn K S "law"=true) (k42:PySem.W.keepIn K (.ref f42)=true)
  (z1:PySem.W.nsIn K mainGlobals "isinstance"=some none)
  (z2:PySem.W.nsIn K mainGlobals "int"=some none)
  (z3:PySem.W.nsIn K mainGlobals "bool"=some none)
  (z4:PySem.W.nsIn K mainGlobals "str"=some none)
  (z5:PySem.W.nsIn K mainGlobals "list"=some none)
  (z6:PySem.W.nsIn K mainGlobals "dict"=some none)
  (z7:PySem.W.nsIn K mainGlobals "tuple"=some none)
  (z8:PySem.W.nsIn K mainGlobals "len"=some none)
  (z9:PySem.W.nsIn K mainGlobals "range"=some none)
  (z10:PySem.W.nsIn K mainGlobals "max"=some none)
  (z11:PySem.W.nsIn K mainGlobals "min"=some none)
  (z12:PySem.W.nsIn K mainGlobals "sorted"=some none)
  (z13:PySem.W.nsIn K mainGlobals "all"=some none)
  (z14:PySem.W.nsIn K mainGlobals "any"=some none)
  (z15:PySem.W.nsIn K mainGlobals "reversed"=some none)
  (z16:PySem.W.nsIn K mainGlobals "ValueError"=some none)
  (z17:PySem.W.nsIn K mainGlobals "sum"=some none)
  {tC tP:Addr}
  (eC:PySem.W.nsIn K mainGlobals "WORDS_OF_COMING"=some (some (.ref tC)))
  (hC:Pw K tC HL=true)
  (XX:PySem.W.nsIn K mainGlobals "enumerate"=some none)
  (eP:PySem.W.nsIn K mainGlobals "WORDS_OF_PARTS"=some (some (.ref tP)))
  (hP:Pw K tP MZ=true)
  :∃fd:FuncData,(∀(s:Shared) (v:Value),BindsTo s fd ⟨[v],[]⟩ [("_law_script",v)])/\∀base:Heap,K.In base->base.Ns mainGlobals mg->BG l.prog w K mg base DC 70 fa fd ["_law_script"] (Nz K):=by
 haveI:An K:=⟨trivial⟩
 have e:=hfa.symm.trans (PySem.W.mg_of X G a42)
 cases e
 have T:Txt mg:=⟨PySem.W.mg_none_of X G z1,PySem.W.mg_none_of X G z2,PySem.W.mg_none_of X G z3,PySem.W.mg_none_of X G z4,PySem.W.mg_none_of X G z5,PySem.W.mg_none_of X G z6,PySem.W.mg_none_of X G z7,PySem.W.mg_none_of X G z8,PySem.W.mg_none_of X G z9,PySem.W.mg_none_of X G z10,PySem.W.mg_none_of X G z11,PySem.W.mg_none_of X G z12,PySem.W.mg_none_of X G z13,PySem.W.mg_none_of X G z14,PySem.W.mg_none_of X G z15,PySem.W.mg_none_of X G z16,PySem.W.mg_none_of X G z17⟩
 have F1:=Ai (st:=Er) l1 c1 k1
 have b1:=F1.binds (ps:=["doc"]) fun _ _ _ _ _ _ a b=>by obtain⟨j,rfl⟩:=Ey a b;rfl
 have m1:=PySem.W.mg_of X G a1
 have F2:=Ai (st:=DI) l2 c2 k2
 have b2:=F2.binds (ps:=["doc"]) fun _ _ _ _ _ _ a b=>by obtain⟨j,rfl⟩:=Ey a b;rfl
 have m2:=PySem.W.mg_of X G a2
 have F3:=Ai (st:=GL) l3 c3 k3
 have b3:=F3.binds (ps:=["doc"]) fun _ _ _ _ _ _ a b=>by obtain⟨j,rfl⟩:=Ey a b;rfl
 have m3:=PySem.W.mg_of X G a3
 have F4:=Ai (st:=GN) l4 c4 k4
 have b4:=F4.binds (ps:=["one","other"]) fun _ _ _ _ _ _ a b=>by obtain⟨j,t,rfl⟩:=Cq a b;rfl
 have m4:=PySem.W.mg_of X G a4
 have F5:=Ai (st:=GO) l5 c5 k5
 have b5:=F5.binds (ps:=["row"]) fun _ _ _ _ _ _ a b=>by obtain⟨j,rfl⟩:=Ey a b;rfl
 have m5:=PySem.W.mg_of X G a5
 have F6:=Ai (st:=Es) l6 c6 k6
 have b6:=F6.binds (ps:=["row"]) fun _ _ _ _ _ _ a b=>by obtain⟨j,rfl⟩:=Ey a b;rfl
 have m6:=PySem.W.mg_of X G a6
 have F7:=Ai (st:=IB) l7 c7 k7
 have b7:=F7.binds (ps:=["row"]) fun _ _ _ _ _ _ a b=>by obtain⟨j,rfl⟩:=Ey a b;rfl
 have m7:=PySem.W.mg_of X G a7
 have F8:=Ai (st:=Et) l8 c8 k8
 have b8:=F8.binds (ps:=["step"]) fun _ _ _ _ _ _ a b=>by obtain⟨j,rfl⟩:=Ey a b;rfl
 have m8:=PySem.W.mg_of X G a8
 have F9:=Ai (st:=DJ) l9 c9 k9
 have b9:=F9.binds (ps:=["path","holder"]) fun _ _ _ _ _ _ a b=>by obtain⟨j,t,rfl⟩:=Cq a b;rfl
 have m9:=PySem.W.mg_of X G a9
 have vR:=Ai (st:=DK) l10 c10 k10
 have b10:=vR.binds (ps:=["path","holder","place"]) fun _ _ _ _ _ _ a b=>by obtain⟨j,t,x2,rfl⟩:=Oq a b;rfl
 have m10:=PySem.W.mg_of X G a10
 have vS:=Ai (st:=B') l11 c11 k11
 have b11:=vS.binds (ps:=["to","path"]) fun _ _ _ _ _ _ a b=>by obtain⟨j,t,rfl⟩:=Cq a b;rfl
 have m11:=PySem.W.mg_of X G a11
 have vT:=Ai (st:=Eu) l12 c12 k12
 have b12:=vT.binds (ps:=["row"]) fun _ _ _ _ _ _ a b=>by obtain⟨j,rfl⟩:=Ey a b;rfl
 have m12:=PySem.W.mg_of X G a12
 have vU:=Ai (st:=IC) l13 c13 k13
 have b13:=vU.binds (ps:=["row"]) fun _ _ _ _ _ _ a b=>by obtain⟨j,rfl⟩:=Ey a b;rfl
 have m13:=PySem.W.mg_of X G a13
 have vV:=Ai (st:=Lk) l14 c14 k14
 have b14:=vV.binds (ps:=["row"]) fun _ _ _ _ _ _ a b=>by obtain⟨j,rfl⟩:=Ey a b;rfl
 have m14:=PySem.W.mg_of X G a14
 have vW:=Ai (st:=GP) l15 c15 k15
 have b15:=vW.binds (ps:=["row"]) fun _ _ _ _ _ _ a b=>by obtain⟨j,rfl⟩:=Ey a b;rfl
 have m15:=PySem.W.mg_of X G a15
 have vX:=Ai (st:=CY) l16 c16 k16
 have b16:=vX.binds (ps:=["holder","place","row","ahead"]) fun _ _ _ _ _ _ a b=>by obtain⟨j,t,x2,x3,rfl⟩:=iv a b;rfl
 have m16:=PySem.W.mg_of X G a16
 have vY:=Ai (st:=Ck) l17 c17 k17
 have b17:=vY.binds (ps:=["holder","step","row"]) fun _ _ _ _ _ _ a b=>by obtain⟨j,t,x2,rfl⟩:=Oq a b;rfl
 have m17:=PySem.W.mg_of X G a17
 have vZ:=Ai (st:=ID) l18 c18 k18
 have b18:=vZ.binds (ps:=["path","row"]) fun _ _ _ _ _ _ a b=>by obtain⟨j,t,rfl⟩:=Cq a b;rfl
 have m18:=PySem.W.mg_of X G a18
 have vc:=Ai (st:=DL) l19 c19 k19
 have b19:=vc.binds (ps:=["one","other"]) fun _ _ _ _ _ _ a b=>by obtain⟨j,t,rfl⟩:=Cq a b;rfl
 have m19:=PySem.W.mg_of X G a19
 have vd:=Ai (st:=Cm) l20 c20 k20
 have b20:=vd.binds (ps:=["path","others"]) fun _ _ _ _ _ _ a b=>by obtain⟨j,t,rfl⟩:=Cq a b;rfl
 have m20:=PySem.W.mg_of X G a20
 have ve:=Ai (st:=Bm) l21 c21 k21
 have b21:=ve.binds (ps:=["row"]) fun _ _ _ _ _ _ a b=>by obtain⟨j,rfl⟩:=Ey a b;rfl
 have m21:=PySem.W.mg_of X G a21
 have vf:=Ai (st:=Cn) l22 c22 k22
 have b22:=vf.binds (ps:=["one","other"]) fun _ _ _ _ _ _ a b=>by obtain⟨j,t,rfl⟩:=Cq a b;rfl
 have m22:=PySem.W.mg_of X G a22
 have vg:=Ai (st:=Dl) l23 c23 k23
 have b23:=vg.binds (ps:=["one","other"]) fun _ _ _ _ _ _ a b=>by obtain⟨j,t,rfl⟩:=Cq a b;rfl
 have m23:=PySem.W.mg_of X G a23
 have vh:=Ai (st:=Co) l24 c24 k24
 have b24:=vh.binds (ps:=["one","other"]) fun _ _ _ _ _ _ a b=>by obtain⟨j,t,rfl⟩:=Cq a b;rfl
 have m24:=PySem.W.mg_of X G a24
 have vi:=Ai (st:=DM) l25 c25 k25
 have b25:=vi.binds (ps:=["one","other"]) fun _ _ _ _ _ _ a b=>by obtain⟨j,t,rfl⟩:=Cq a b;rfl
 have m25:=PySem.W.mg_of X G a25
 have vk:=Ai (st:=DN) l26 c26 k26
 have b26:=vk.binds (ps:=["one","other"]) fun _ _ _ _ _ _ a b=>by obtain⟨j,t,rfl⟩:=Cq a b;rfl
 have m26:=PySem.W.mg_of X G a26
 have vm:=Ai (st:=CA) l27 c27 k27
 have b27:=vm.binds (ps:=["one","other"]) fun _ _ _ _ _ _ a b=>by obtain⟨j,t,rfl⟩:=Cq a b;rfl
 have m27:=PySem.W.mg_of X G a27
 have vn:=Ai (st:=Ew) l28 c28 k28
 have b28:=vn.binds (ps:=["one","other"]) fun _ _ _ _ _ _ a b=>by obtain⟨j,t,rfl⟩:=Cq a b;rfl
 have m28:=PySem.W.mg_of X G a28
 have vo:=Ai (st:=Cp) l29 c29 k29
 have b29:=vo.binds (ps:=["one","other","first"]) fun _ _ _ _ _ _ a b=>by obtain⟨j,t,x2,rfl⟩:=Oq a b;rfl
 have m29:=PySem.W.mg_of X G a29
 have vp:=Ai (st:=CJ) l30 c30 k30
 have b30:=vp.binds (ps:=["to","path"]) fun _ _ _ _ _ _ a b=>by obtain⟨j,t,rfl⟩:=Cq a b;rfl
 have m30:=PySem.W.mg_of X G a30
 have vq:=Ai (st:=Ll) l31 c31 k31
 have b31:=vq.binds (ps:=["one","other","first"]) fun _ _ _ _ _ _ a b=>by obtain⟨j,t,x2,rfl⟩:=Oq a b;rfl
 have m31:=PySem.W.mg_of X G a31
 have vr:=Ai (st:=Lm) l32 c32 k32
 have b32:=vr.binds (ps:=["_law_script","_law_k"]) fun _ _ _ _ _ _ a b=>by obtain⟨j,t,rfl⟩:=Cq a b;rfl
 have m32:=PySem.W.mg_of X G a32
 have U:=Ai (st:=QW) l33 c33 k33
 have b33:=U.binds (ps:=["_law_cell_here","_law_k"]) fun _ _ _ _ _ _ a b=>by obtain⟨j,t,rfl⟩:=Cq a b;rfl
 have m33:=PySem.W.mg_of X G a33
 have vt:=Ai (st:=IE) l34 c34 k34
 have b34:=vt.binds (ps:=["_law_one","_law_two"]) fun _ _ _ _ _ _ a b=>by obtain⟨j,t,rfl⟩:=Cq a b;rfl
 have m34:=PySem.W.mg_of X G a34
 have vu:=Ai (st:=Kc) l35 c35 k35
 have b35:=vu.binds (ps:=["_law_doc"]) fun _ _ _ _ _ _ a b=>by obtain⟨j,rfl⟩:=Ey a b;rfl
 have m35:=PySem.W.mg_of X G a35
 have vw:=Ai (st:=IF) l36 c36 k36
 have b36:=vw.binds (ps:=["_law_doc","_law_path"]) fun _ _ _ _ _ _ a b=>by obtain⟨j,t,rfl⟩:=Cq a b;rfl
 have m36:=PySem.W.mg_of X G a36
 have vx:=Ai (st:=TX) l37 c37 k37
 have b37:=vx.binds (ps:=["_law_doc","_law_path","_law_value"]) fun _ _ _ _ _ _ a b=>by obtain⟨j,t,x2,rfl⟩:=Oq a b;rfl
 have m37:=PySem.W.mg_of X G a37
 have vy:=Ai (st:=Ke) l38 c38 k38
 have b38:=vy.binds (ps:=["_law_doc","_law_row"]) fun _ _ _ _ _ _ a b=>by obtain⟨j,t,rfl⟩:=Cq a b;rfl
 have m38:=PySem.W.mg_of X G a38
 have vz:=Ai (st:=Ln) l39 c39 k39
 have b39:=vz.binds (ps:=["_law_doc","_law_row"]) fun _ _ _ _ _ _ a b=>by obtain⟨j,t,rfl⟩:=Cq a b;rfl
 have m39:=PySem.W.mg_of X G a39
 have v_:=Ai (st:=Lo) l40 c40 k40
 have b40:=v_.binds (ps:=["_law_cell_here","_law_k","_law_names_here","_law_many","_law_place"]) fun _ _ _ _ _ _ a b=>by obtain⟨j,t,x2,x3,x4,rfl⟩:=ag a b;rfl
 have m40:=PySem.W.mg_of X G a40
 have wA:=Ai (st:=IG) l41 c41 k41
 have b41:=wA.binds (ps:=["_law_doc","_law_row","_law_one","_law_other","_law_first"]) fun _ _ _ _ _ _ a b=>by obtain⟨j,t,x2,x3,x4,rfl⟩:=ag a b;rfl
 have m41:=PySem.W.mg_of X G a41
 have F42:=Ai (st:=Mw) l42 c42 k42
 have mC:=PySem.W.mg_of X G eC
 have Wy:=PySem.W.mg_none_of X G XX
 have mP:=PySem.W.mg_of X G eP
 refine⟨PySem.W.fnOf "law" "law" (AY Mw) (AW Mw) (AH Mw) .none jd je jf iw S jg,fun s v=>.of_eq rfl,fun base _ _=>?_⟩
 have eI:Df l.prog w K mg base "_law_cell" ["_law_script","_law_k"] 1 (Pc K):=Df.mk' vr b32 m32 (ZL vr T)
 have V:Df l.prog w K mg base "_law_mix" ["_law_cell_here","_law_k"] 1 Nw:=Df.mk' U b33 m33 (ZM U T)
 have jh:Df l.prog w K mg base "_law_mix" ["_law_cell_here","_law_k"] 1 MN:=Df.mk' U b33 m33 (XI U T)
 have Y:Df l.prog w K mg base "_law_names" ["_law_one","_law_two"] 2 MO:=Df.mk' vt b34 m34 (XJ vt T jh)
 have eJ:Df l.prog w K mg base "_law_come" ["_law_cell_here","_law_k","_law_names_here","_law_many","_law_place"] 3 QR:=Df.mk' v_ b40 m40 (ZQ v_ T V)
 have N:Df l.prog w K mg base "steps_of" ["doc"] 1 MR:=Df.mk' F1 b1 m1 (QX F1 T)
 have H:Df l.prog w K mg base "outer_copy" ["doc"] 1 MU:=Df.mk' F2 b2 m2 (Mx F2 T)
 have P:Df l.prog w K mg base "copy_of" ["doc"] 2 Jv:=Df.mk' F3 b3 m3 (TY F3 T N H)
 have u:Df l.prog w K mg base "begins" ["one","other"] 1 Fy:=Df.mk' F4 b4 m4 (Tb F4 T)
 have x:Df l.prog w K mg base "gone_by" ["row"] 1 (Fm [.str "take",.str "change"]):=Df.mk' F5 b5 m5 (Tc F5 T)
 have g:Df l.prog w K mg base "moved_by" ["row"] 1 GH:=Df.mk' F6 b6 m6 (Qb F6 T)
 have c:Df l.prog w K mg base "is_place" ["step"] 1 Dg:=Df.mk' F8 b8 m8 (Qc F8 T)
 have o:Df l.prog w K mg base "place_into" ["path","holder"] 2 MX:=Df.mk' F9 b9 m9 (My F9 T u c)
 have p:Df l.prog w K mg base "with_place" ["path","holder","place"] 1 MY:=Df.mk' vR b10 m10 (Mz vR T)
 have q:Df l.prog w K mg base "ahead_of_taking" ["to","path"] 3 KD:=Df.mk' vS b11 m11 (IH vS T c o p)
 have d:Df l.prog w K mg base "comes_to" ["row"] 4 FE:=Df.mk' vT b12 m12 (Qd vT T q mC hC)
 have O:Df l.prog w K mg base "leaves" ["row"] 1 (Fm [.str "take",.str "move"]):=Df.mk' vW b15 m15 (Td vW T)
 have k:Df l.prog w K mg base "place_behind" ["holder","place","row","ahead"] 5 JF:=Df.mk' vX b16 m16 (Kf vX T c d O)
 have z:Df l.prog w K mg base "step_behind" ["holder","step","row"] 6 Me:=Df.mk' vY b17 m17 (Kt vY T c k)
 have J:Df l.prog w K mg base "after" ["path","row"] 7 JG:=Df.mk' vZ b18 m18 (Wx vZ T u x g z Wy)
 have F:Df l.prog w K mg base "needs" ["row"] 5 JD:=Df.mk' vU b13 m13 (Ws vU T d mC hC mP hP)
 have i:Df l.prog w K mg base "does_begin" ["one","other"] 2 HQ:=Df.mk' vc b19 m19 (NC vc T u)
 have m:Df l.prog w K mg base "begins_some" ["path","others"] 3 GI:=Df.mk' vd b20 m20 (Ku vd T i)
 have Q:Df l.prog w K mg base "reads" ["row"] 1 (Fm [.str "ask",.str "copy"]):=Df.mk' F7 b7 m7 (Wr F7 T)
 have f:Df l.prog w K mg base "holder_of_coming" ["row"] 5 Mm:=Df.mk' ve b21 m21 (HZ ve T d)
 have A:Df l.prog w K mg base "spoils_read" ["one","other"] 6 (Cb Fq):=Df.mk' vf b22 m22 (Kv vf T x g Q i f)
 have L:Df l.prog w K mg base "bars" ["row"] 5 Ma:=Df.mk' vV b14 m14 (ZC vV T c d)
 have I:Df l.prog w K mg base "bars_same" ["one","other"] 6 (Cb Ci):=Df.mk' vg b23 m23 (Ol vg T L)
 have B:Df l.prog w K mg base "bars_needed" ["one","other"] 6 (Cb Cj):=Df.mk' vh b24 m24 (Kw vh T F L m)
 have D:Df l.prog w K mg base "moves_same" ["one","other"] 6 (Cb CT):=Df.mk' vi b25 m25 (ND vi T g)
 have E:Df l.prog w K mg base "moves_into" ["one","other"] 6 (Cb CF):=Df.mk' vk b26 m26 (NF vk T g i f)
 have r:Df l.prog w K mg base "clashes_one_way" ["one","other"] 7 (Cb Cd):=Df.mk' vm b27 m27 (II vm T x F m A I B D E)
 have M:Df l.prog w K mg base "clashes" ["one","other"] 8 (Cb EO):=Df.mk' vn b28 m28 (Qg vn T r)
 have C:Df l.prog w K mg base "coming_over" ["one","other","first"] 8 Gr:=Df.mk' vo b29 m29 (Kx vo T c d k J)
 have y:Df l.prog w K mg base "behind_taking" ["to","path"] 3 Hv:=Df.mk' vp b30 m30 (Iw vp T c o p)
 have eK:Df l.prog w K mg base "over" ["one","other","first"] 9 QG:=Df.mk' vq b31 m31 (ZH vq T P J M C y)
 have n:Df l.prog w K mg base "_law_found" ["_law_doc","_law_path"] 1 Ek:=Df.mk' vw b36 m36 (XO vw T)
 have Z:Df l.prog w K mg base "_law_copy" ["_law_doc"] 61 (Jt 61):=Df.mk' vu b35 m35 (Oo vu T b35 m35 61)
 have eM:Df l.prog w K mg base "_law_put" ["_law_doc","_law_path","_law_value"] 2 Mr:=Df.mk' vx b37 m37 (dV vx T n)
 have R:Df l.prog w K mg base "_law_asked" ["_law_doc","_law_row"] 1 Mb:=Df.mk' vy b38 m38 (XR vy T n)
 have ZT:Df l.prog w K mg base "_law_done" ["_law_doc","_law_row"] 62 Ms:=Df.mk' vz b39 m39 (ZO vz T Z n eM R)
 have ZU:Df l.prog w K mg base "_law_right" ["_law_doc","_law_row","_law_one","_law_other","_law_first"] 66 IA:=Df.mk' wA b41 m41 (XU wA T eK n ZT)
 exact du F42 T eI V Y eJ ZU
theorem walk {l:PySem.W.OpenLaw} {q:Program} {loose:List Str} {g:(Str->Option Value)->Heap->Prop} {YP:World->Heap->Prop} {d:DefRec} {K:Params->ACH} (i:l.most=some 63) (b:d.params.defaults=[])
  (j:∀(w:World) (h:Heap),YP w h->(K w.params).In h)
  (F:∀(w:World) (mg:Str->Option Value) (c:Addr) (h:Heap),(K w.params).In h->h.Ns mainGlobals mg->mg d.name=some (.ref c)->
   ∃e:FuncData,(∀(s:Shared) (u:Value),BindsTo s e ⟨[u],[]⟩ [("_law_script",u)])/\∀base:Heap,(K w.params).In base->base.Ns mainGlobals mg->BG l.prog w (K w.params) mg base DC 70 c e ["_law_script"] (Nz (K w.params))):
  PySem.W.WalkO q loose g YP l.row.toRowW d [] (fun f vs=>PySem.call f vs):=
 L2.YA (n:=63) (k:=70) (x:="_law_script") (CX:=fun _=>DC) (sp:=fun w=>Nz (K w.params)) i (by decide) b ⟨rfl,by decide,by decide,rfl⟩ j F (fun _ _ a m o _ p=>⟨a,m,rfl,p,o,fun _=>rfl⟩) fun _ _ _ _ _ z=>z
theorem walkZ {l:PySem.W.OpenLaw} {q:Program} {loose:List Str} {p:(Str->Option Value)->Heap->Prop} {d:DefRec} {K:Params->ACH} {j:List Addr} {n t:Nat} (e:∀P:Params,j=List.map (fun x=>x.fst) (K P)) (r:l.most=some 63) (g:d.params.defaults=[])
  (F:∀(w:World) (mg:Str->Option Value) (k:Addr) (h:Heap),(K w.params).In h->h.Ns mainGlobals mg->mg d.name=some (.ref k)->
   ∃m:FuncData,(∀(s:Shared) (u:Value),BindsTo s m ⟨[u],[]⟩ [("_law_script",u)])/\∀base:Heap,(K w.params).In base->base.Ns mainGlobals mg->BG l.prog w (K w.params) mg base DC 70 k m ["_law_script"] (Nz (K w.params))):
  PySem.W.WalkX q loose p (PySem.W.X.obsZ j) (PySem.W.X.valZ K n t) l.row.toRowW d [] (fun f vs=>PySem.call f vs):=
 fun w b c mg v G y a o A B doc C kV D E H I J M args vals i L N O Q R S=>
  walk (YP:=fun w h=>(K w.params).In h) r g (fun _ _ z=>z) F w b c mg v G ((show(K w.params).In b.heap from(PySem.W.X.z_facts e y).2.1).keeps L.keeps) a o A B doc C kV D E H I J M args vals i N O Q R S
end Bu
def PySem.W.Fast.tw16941047744648325318:=0
def PySem.W.Fast.tw18118859196539462003:=0
def PySem.W.Fast.tw3976823965476029873:=0
def PySem.W.Fast.tw1972580093061731481:=0
def PySem.W.Fast.tw7048603692725560585:=0
def PySem.W.Fast.tw16993719035640377013:=0
def PySem.W.Fast.tw15102513468894370508:=0
def PySem.W.Fast.tw7018841075591605378:=0
def PySem.W.Fast.tw4813174494434194666:=0
def PySem.W.Fast.tw15289405775730118450:=0
def PySem.W.Fast.tw14634511382286271770:=0
def PySem.W.Fast.tw9926392099049354809:=0
def PySem.W.Fast.tw3862739546056065150:=0
def PySem.W.Fast.tw14940161671303824096:=0
def PySem.W.Fast.tw18219156883073430792:=0
def PySem.W.Fast.tw14281284197268361406:=0
def PySem.W.Fast.tw13282280294438595066:=0
def PySem.W.Fast.tw16912535699994589472:=0
def PySem.W.Fast.tw14685204741095673569:=0
def PySem.W.Fast.tw12685005775988874185:=0
def PySem.W.Fast.tw16593575228549403798:=0
def PySem.W.Fast.tw13372232154358363801:=0
def PySem.W.Fast.tw7676910811513482206:=0
def PySem.W.Fast.tw10380507785137933367:=0
def PySem.W.Fast.tw5952717225280074175:=0
def PySem.W.Fast.tw9950673364362848709:=0
def PySem.W.Fast.tw10033594662319349181:=0
def PySem.W.Fast.tw16203588601141548716:=0
open PySem PySem.W PyProof.Rows
set_option maxRecDepth 100000 in
set_option maxHeartbeats 0 in
theorem PySem.Challenge.cw_patchbough_k86_who_stands_ahead_holds : PySem.Challenge.rw_patchbough_k86_who_stands_ahead.Holds := by
 w_on;o_law;z_head;(case hw=>w_witness2)
 k_fill
 refine Bu.walkZ (l:=PySem.Challenge.rw_patchbough_k86_who_stands_ahead) (fun _=>rfl) rfl rfl ?F
 case F=>
  intro w c d h b G a
  refine' Bu.all_mk b G a ?a1 ?l1 ?c1 ?k1 ?a2 ?l2 ?c2 ?k2 ?a3 ?l3 ?c3 ?k3 ?a4 ?l4 ?c4 ?k4 ?a5 ?l5 ?c5 ?k5 ?a6 ?l6 ?c6 ?k6 ?a7 ?l7 ?c7 ?k7 ?a8 ?l8 ?c8 ?k8 ?a9 ?l9 ?c9 ?k9 ?a10 ?l10 ?c10 ?k10 ?a11 ?l11 ?c11 ?k11 ?a12 ?l12 ?c12 ?k12 ?a13 ?l13 ?c13 ?k13 ?a14 ?l14 ?c14 ?k14 ?a15 ?l15 ?c15 ?k15 ?a16 ?l16 ?c16 ?k16 ?a17 ?l17 ?c17 ?k17 ?a18 ?l18 ?c18 ?k18 ?a19 ?l19 ?c19 ?k19 ?a20 ?l20 ?c20 ?k20 ?a21 ?l21 ?c21 ?k21 ?a22 ?l22 ?c22 ?k22 ?a23 ?l23 ?c23 ?k23 ?a24 ?l24 ?c24 ?k24 ?a25 ?l25 ?c25 ?k25 ?a26 ?l26 ?c26 ?k26 ?a27 ?l27 ?c27 ?k27 ?a28 ?l28 ?c28 ?k28 ?a29 ?l29 ?c29 ?k29 ?a30 ?l30 ?c30 ?k30 ?a31 ?l31 ?c31 ?k31 ?a32 ?l32 ?c32 ?k32 ?a33 ?l33 ?c33 ?k33 ?a34 ?l34 ?c34 ?k34 ?a35 ?l35 ?c35 ?k35 ?a36 ?l36 ?c36 ?k36 ?a37 ?l37 ?c37 ?k37 ?a38 ?l38 ?c38 ?k38 ?a39 ?l39 ?c39 ?k39 ?a40 ?l40 ?c40 ?k40 ?a41 ?l41 ?c41 ?k41 ?a42 ?l42 ?c42 ?k42 ?z1 ?z2 ?z3 ?z4 ?z5 ?z6 ?z7 ?z8 ?z9 ?z10 ?z11 ?z12 ?z13 ?z14 ?z15 ?z16 ?z17 ?eC ?hC ?XX ?eP ?hP
  (case a1=>k_is)
  (case l1=>k_is)
  (case c1=>k_is)
  (case k1=>k_is)
  (case a2=>k_is)
  (case l2=>k_is)
  (case c2=>k_is)
  (case k2=>k_is)
  (case a3=>k_is)
  (case l3=>k_is)
  (case c3=>k_is)
  (case k3=>k_is)
  (case a4=>k_is)
  (case l4=>k_is)
  (case c4=>k_is)
  (case k4=>k_is)
  (case a5=>k_is)
  (case l5=>k_is)
  (case c5=>k_is)
  (case k5=>k_is)
  (case a6=>k_is)
  (case l6=>k_is)
  (case c6=>k_is)
  (case k6=>k_is)
  (case a7=>k_is)
  (case l7=>k_is)
  (case c7=>k_is)
  (case k7=>k_is)
  (case a8=>k_is)
  (case l8=>k_is)
  (case c8=>k_is)
  (case k8=>k_is)
  (case a9=>k_is)
  (case l9=>k_is)
  (case c9=>k_is)
  (case k9=>k_is)
  (case a10=>k_is)
  (case l10=>k_is)
  (case c10=>k_is)
  (case k10=>k_is)
  (case a11=>k_is)
  (case l11=>k_is)
  (case c11=>k_is)
  (case k11=>k_is)
  (case a12=>k_is)
  (case l12=>k_is)
  (case c12=>k_is)
  (case k12=>k_is)
  (case a13=>k_is)
  (case l13=>k_is)
  (case c13=>k_is)
  (case k13=>k_is)
  (case a14=>k_is)
  (case l14=>k_is)
  (case c14=>k_is)
  (case k14=>k_is)
  (case a15=>k_is)
  (case l15=>k_is)
  (case c15=>k_is)
  (case k15=>k_is)
  (case a16=>k_is)
  (case l16=>k_is)
  (case c16=>k_is)
  (case k16=>k_is)
  (case a17=>k_is)
  (case l17=>k_is)
  (case c17=>k_is)
  (case k17=>k_is)
  (case a18=>k_is)
  (case l18=>k_is)
  (case c18=>k_is)
  (case k18=>k_is)
  (case a19=>k_is)
  (case l19=>k_is)
  (case c19=>k_is)
  (case k19=>k_is)
  (case a20=>k_is)
  (case l20=>k_is)
  (case c20=>k_is)
  (case k20=>k_is)
  (case a21=>k_is)
  (case l21=>k_is)
  (case c21=>k_is)
  (case k21=>k_is)
  (case a22=>k_is)
  (case l22=>k_is)
  (case c22=>k_is)
  (case k22=>k_is)
  (case a23=>k_is)
  (case l23=>k_is)
  (case c23=>k_is)
  (case k23=>k_is)
  (case a24=>k_is)
  (case l24=>k_is)
  (case c24=>k_is)
  (case k24=>k_is)
  (case a25=>k_is)
  (case l25=>k_is)
  (case c25=>k_is)
  (case k25=>k_is)
  (case a26=>k_is)
  (case l26=>k_is)
  (case c26=>k_is)
  (case k26=>k_is)
  (case a27=>k_is)
  (case l27=>k_is)
  (case c27=>k_is)
  (case k27=>k_is)
  (case a28=>k_is)
  (case l28=>k_is)
  (case c28=>k_is)
  (case k28=>k_is)
  (case a29=>k_is)
  (case l29=>k_is)
  (case c29=>k_is)
  (case k29=>k_is)
  (case a30=>k_is)
  (case l30=>k_is)
  (case c30=>k_is)
  (case k30=>k_is)
  (case a31=>k_is)
  (case l31=>k_is)
  (case c31=>k_is)
  (case k31=>k_is)
  (case a32=>k_is)
  (case l32=>k_is)
  (case c32=>k_is)
  (case k32=>k_is)
  (case a33=>k_is)
  (case l33=>k_is)
  (case c33=>k_is)
  (case k33=>k_is)
  (case a34=>k_is)
  (case l34=>k_is)
  (case c34=>k_is)
  (case k34=>k_is)
  (case a35=>k_is)
  (case l35=>k_is)
  (case c35=>k_is)
  (case k35=>k_is)
  (case a36=>k_is)
  (case l36=>k_is)
  (case c36=>k_is)
  (case k36=>k_is)
  (case a37=>k_is)
  (case l37=>k_is)
  (case c37=>k_is)
  (case k37=>k_is)
  (case a38=>k_is)
  (case l38=>k_is)
  (case c38=>k_is)
  (case k38=>k_is)
  (case a39=>k_is)
  (case l39=>k_is)
  (case c39=>k_is)
  (case k39=>k_is)
  (case a40=>k_is)
  (case l40=>k_is)
  (case c40=>k_is)
  (case k40=>k_is)
  (case a41=>k_is)
  (case l41=>k_is)
  (case c41=>k_is)
  (case k41=>k_is)
  (case a42=>k_is)
  (case l42=>k_is)
  (case c42=>k_is)
  (case k42=>k_is)
  (case z1=>k_is)
  (case z2=>k_is)
  (case z3=>k_is)
  (case z4=>k_is)
  (case z5=>k_is)
  (case z6=>k_is)
  (case z7=>k_is)
  (case z8=>k_is)
  (case z9=>k_is)
  (case z10=>k_is)
  (case z11=>k_is)
  (case z12=>k_is)
  (case z13=>k_is)
  (case z14=>k_is)
  (case z15=>k_is)
  (case z16=>k_is)
  (case z17=>k_is)
  (case eC=>k_is)
  (case hC=>kernel_rfl)
  (case XX=>k_is)
  (case eP=>k_is)
  (case hP=>kernel_rfl)
#print axioms PySem.Challenge.cw_patchbough_k86_who_stands_ahead_holds
