import PyProof.Rows.All
import Wide.All
import OpenK.AllK
import Wide.FinOn
import Lean
import PyProof.EqAt
import PyProof.EqKinds
import PyProof.TupleCall
import PyProof.ReprRoads
import PyProof.ReprBulk
import PyProof.ZipIter
import PyProof.P3Eq
import PyProof.Rows.Range3
import PyProof.Rows.SetFrom
import PySem.Challenge.RW_patchbough_k54_makes_over_asks
set_option Elab.async false
set_option linter.all false
set_option maxRecDepth 100000
set_option maxHeartbeats 40000000
theorem AGS {α:Type _} {l:List α} {i:Nat} (h:i<l.length):l[i]?=some l[i]:=List.getElem?_eq_getElem h
theorem AGT {α:Type _} {l:List α} {i:Nat} {a:α} (h:l[i]?=some a):∃h:i<l.length,l[i]=a:=List.getElem?_eq_some_iff.mp h
theorem AGU {α:Type _} {a b:α} (h:some a=some b):a=b:=Option.some.inj h
theorem AGV {α:Type _} {l:List α} {i:Nat} {a:α} (h:l[i]?=some a):a∈l:=List.mem_of_getElem? h
abbrev AGW:=PySem.W.Frag
namespace L2
open PySem PySem.Spec PyProof.Rows
abbrev Key:=Sum Int Str
def JQ:Key->Value->Bool
 | .inl k,v=>Value.isInt k v
 | .inr x,v=>Value.isStrOf x v
def nY (w:World):Key->Int
 | .inl k=>hashInt k
 | .inr x=>hashStr w x
theorem BW:∀{k:Key} {v:Value},JQ k v=true->(∃i t,k=Sum.inl i/\v=Value.int i t)∨(∃x t,k=Sum.inr x/\v=Value.str x t)
 | .inl i,v,h=>by
  obtain⟨t,e⟩:=Value.isInt_shape (k:=i) (v:=v) h
  exact .inl ⟨i,t,rfl,e⟩
 | .inr x,v,h=>by
  obtain⟨t,e⟩:=Value.isStrOf_shape (x:=x) (v:=v) h
  exact .inr ⟨x,t,rfl,e⟩
theorem TY (i:Int) (t:Tok):JQ (.inl i) (.int i t)=true:=by simp[JQ,Value.isInt]
theorem TZ (x:Str) (t:Tok):JQ (.inr x) (.str x t)=true:=by simp[JQ,Value.isStrOf]
theorem bY (a b:Int):decide ((Sum.inl a:Key)=Sum.inl b)=(a==b):=by
 by_cases e:a=b
 ·subst e;simp
 ·have h:¬(Sum.inl a:Key)=Sum.inl b:=fun q=>e (Sum.inl.inj q)
  rw[decide_eq_false h]
  exact(beq_eq_false_iff_ne.mpr e).symm
theorem bZ (a b:Str):decide ((Sum.inr a:Key)=Sum.inr b)=decide (a=b):=by
 by_cases e:a=b
 ·subst e;simp
 ·have h:¬(Sum.inr a:Key)=Sum.inr b:=fun q=>e (Sum.inr.inj q)
  rw[decide_eq_false h,decide_eq_false e]
theorem bb (a:Int) (b:Str):decide ((Sum.inl a:Key)=Sum.inr b)=false:=decide_eq_false (fun q=>nomatch q)
theorem bc (a:Str) (b:Int):decide ((Sum.inr a:Key)=Sum.inl b)=false:=decide_eq_false (fun q=>nomatch q)
def Ay (prog:Program) (w:World):PySem.KeyKind prog w Key where
 is:=JQ
 hash:=nY w
 inj:=fun v a b ha hb=>by
  rcases BW ha with⟨i,t,rfl,rfl⟩|⟨x,t,rfl,rfl⟩
  ·rcases BW hb with⟨j,u,rfl,e⟩|⟨y,u,rfl,e⟩
   ·injection e with e1 _;rw[e1]
   ·exact nomatch e
  ·rcases BW hb with⟨j,u,rfl,e⟩|⟨y,u,rfl,e⟩
   ·exact nomatch e
   ·injection e with e1 _;rw[e1]
 byValue:=fun k v h=>by
  rcases BW h with⟨i,t,rfl,rfl⟩|⟨x,t,rfl,rfl⟩<;>rfl
 pyHash:=fun hv h=>by
  rcases BW hv with⟨i,t,rfl,rfl⟩|⟨x,t,rfl,rfl⟩
  ·exact wpAny_pyHash_int h
  ·exact wpAny_pyHash_str h
 eqBool:=fun hu hv h=>by
  rcases BW hu with⟨i,t,rfl,rfl⟩|⟨x,t,rfl,rfl⟩
  ·rcases BW hv with⟨j,u,rfl,rfl⟩|⟨y,u,rfl,rfl⟩
   ·rw[bY]at h;exact wpAny_eqBool_int h
   ·rw[bb]at h;exact SeqAt.EqAt.int_str i t y u _ _ _ _ h
  ·rcases BW hv with⟨j,u,rfl,rfl⟩|⟨y,u,rfl,rfl⟩
   ·rw[bc]at h;exact SeqAt.EqAt.str_int x t j u _ _ _ _ h
   ·rw[bZ]at h;exact wpAny_eqBool_str h
 «strs»:=fun k x t v h=>by
  rcases BW h with⟨i,u,rfl,e⟩|⟨y,u,rfl,e⟩
  ·exact nomatch e
  ·injection e with e1 _
   subst e1
   cases v<;>rfl
theorem Na (prog:Program) (w:World) (i:Int) (t:Tok):(Ay prog w).is (.inl i) (.int i t)=true:=TY i t
theorem Nb (prog:Program) (w:World) (x:Str) (t:Tok):(Ay prog w).is (.inr x) (.str x t)=true:=TZ x t
inductive V where
 |Av|bl (b:Bool)|int (i:Int)|str (x:Str)|Nc (b:Array UInt8)|gC (b:UInt64)|ref (a:Addr)|ty (n:String)
 deriving DecidableEq
def RelV:V->Value->Prop
 | .Av,u=>u=Value.none
 | .bl b,u=>u=Value.bool b
 | .int i,u=>∃t,u=Value.int i t
 | .str x,u=>∃t,u=Value.str x t
 | .Nc b,u=>∃t,u=Value.bytes b t
 | .gC b,u=>∃t,u=Value.float b t
 | .ref a,u=>u=Value.ref a
 | .ty n,u=>u=Value.type n
abbrev Vals:List V->List Value->Prop:=Paired RelV
theorem Vals.length {xs:List V} {us:List Value} (r:Vals xs us):xs.length=us.length:=Paired.length r
theorem Vals.inv {x:V} {xs:List V} {us:List Value} (r:Vals (x::xs) us):∃u c,us=u::c/\RelV x u/\Vals xs c:=by
 cases r with
 |cons a b=>exact⟨_,_,rfl,a,b⟩
theorem Vals.get {xs:List V} {us:List Value} {i:Nat} {x:V} (r:Vals xs us) (e:xs[i]?=some x):∃u,us[i]?=some u/\RelV x u:=by
 induction r generalizing i with
 |nil=>rw[List.getElem?_nil]at e;exact nomatch e
 |cons a b c=>
  cases i with
  |zero=>exact⟨_,rfl,AGU e▸a⟩
  |succ j=>exact c (i:=j) e
theorem Vals.set {x:V} {u:Value} (r:RelV x u):∀{xs:List V} {us:List Value} (i:Nat),Vals xs us->Vals (xs.set i x) (us.set i u)
 |_,_,_,.nil=>.nil
 |_,_,0,.cons _ t=>.cons r t
 |_,_,i+1,.cons q t=>.cons q (Vals.set r i t)
theorem Vals.append {xs ys:List V} {us ws:List Value} (r:Vals xs us) (s:Vals ys ws):Vals (xs++ys) (us++ws):=by
 induction r with
 |nil=>exact s
 |cons a _ b=>exact .cons a b
theorem Vals.take:∀{xs:List V} {us:List Value} (n:Nat),Vals xs us->Vals (xs.take n) (us.take n)
 |_,_,0,_=>.nil
 |_,_,_+1,.nil=>.nil
 |_,_,n+1,.cons r t=>.cons r (Vals.take n t)
theorem Vals.drop:∀{xs:List V} {us:List Value} (n:Nat),Vals xs us->Vals (xs.drop n) (us.drop n)
 |_,_,0,r=>r
 |_,_,_+1,.nil=>.nil
 |_,_,n+1,.cons _ t=>Vals.drop n t
def Il:Option V->Option Value->Prop
 |some v,some u=>RelV v u
 |none,none=>True
 |_,_=>False
def KV {a:Type}:List (a×V)->List (a×Value)->Prop:=Paired fun(p:a×V) (q:a×Value)=>p.1=q.1/\RelV p.2 q.2
def kV:Key->V
 | .inl i=>.int i
 | .inr x=>.str x
inductive HO where
 |lst (xs:List V)
 |tup (xs:List V)
 |dK (kvs:List (Key×V))|dT (kvs:List (List Key×V))
 |set (S:Int->Bool) (n:Nat)
 |ins (C a:Addr) (fs:List (Str×V))
 |own (x:Addr)
 |xd (fs:List (Str×V))
 |met (f x:Addr)
 |bg (lo b:Int)
 |Cg (o:Obj) (u:HO)
 |bh (c:Array Value)
 |ext (d:Heap->Prop)
abbrev Hp:=Addr->Option HO
def upd (H:Hp) (a:Addr) (o:HO):Hp:=fun b=>if b=a then some o else H b
theorem AF {H:Hp} {a:Addr} {o:HO}:upd H a o a=some o:=by unfold upd;rw[if_pos rfl]
theorem AJ {H:Hp} {a b:Addr} {o:HO} (h:b≠a):upd H a o b=H b:=by unfold upd;rw[if_neg h]
theorem RX {H:Hp} {a:Addr} {o u:HO}:upd (upd H a o) a u=upd H a u:=by
 funext b;unfold upd;split<;>rfl
theorem gh {H:Hp} {a b:Addr} {o u:HO} (h:H a=some o) (h':H b=some u) (d:o≠u):a≠b:=by
 intro e;subst e;rw[h]at h';exact d (AGU h')
theorem Au {H:Hp} {a b:Addr} {o:HO} (h:H a=some o) (h':H b=none):a≠b:=by
 intro e;subst e;rw[h]at h';cases h'
section
variable(P:Program) (w:World)
def BO (H:Hp) (h:Heap) (a:Addr):HO->Prop
 | .lst xs=>xs.length<=sizeLine/\∃(its:List Value) (n:Nat),Vals xs its/\h.get? a=some {cls:=.type "list",data:=.seq its.toArray n}
 | .tup xs=>xs.length<=sizeLine/\∃its:List Value,Vals xs its/\IsTup h a its.toArray
 | .dK kvs=>kvs.length<=sizeLine/\(a==sysModules)=false/\∃e,KV kvs e/\h.DictOf (Ay P w) a e
 | .dT kvs=>kvs.length<=sizeLine/\(a==sysModules)=false/\∃xs:List (List Key×Addr×Value),
   Paired (fun(p:List Key×V) (q:List Key×Addr×Value)=>p.1=q.1/\H q.2.1=some (.tup (p.1.map kV))/\RelV p.2 q.2.2) kvs xs/\
   ∃o g k,h.get? a=some o/\o.ExactDict/\o.data=.dict g k/\g.toList=xs.map (entryOfKey (tupleKind (Ay P w)))/\(xs.map (·.1)).Nodup
 | .set S n=>h.SetOf (intKind P w) a S n
 | .ins C c fs=>H c=some (.own a)/\fs.length<=1000/\c≠a/\h.get? a=some (PySem.W.instObj C c)/\
   ∃b,h.Ns1 c b/\(∀f,Il (fs.lookup f) (b f))/\PySem.Within b (fs.map (·.1))
 | .own _=>∃o,h.get? a=some o
 | .xd fs=>∃b,h.Ns1 a b/\∀f,Il (fs.lookup f) (b f)
 | .bg lo l=>∃t u v,h.get? a=some {cls:=.type "range",data:=.fields #[.int lo t,.int l u,.int 1 v]}
 | .Cg o u=>h.get? a=some o/\BO H h a u
 | .bh m=>h.get? a=some {cls:=.none,data:=.fields m}
 | .met f x=>h.get? a=some (PySem.W.methodObj (.ref f) (.ref x))
 | .ext d=>d h/\(∃o,h.get? a=some o)/\∀i j:Heap,d i->(∀o,i.get? a=some o->j.get? a=some o)->d j
def F' (H:Hp) (h:Heap):Prop:=∀a o,H a=some o->BO P w H h a o
end
section
variable{P:Program} {w:World} {H H':Hp} {h h':Heap} {a:Addr} {o:HO}
theorem BO.lt (x:BO P w H h a o):a<h.objs.size:=by
 cases o with
 |lst b=>obtain⟨_,_,_,_,e⟩:=x;exact Heap.lt_size e
 |tup b=>obtain⟨_,_,_,p⟩:=x;exact p.lt
 |dK kvs=>obtain⟨_,_,_,_,o,_,_,e,_⟩:=x;exact Heap.lt_size e
 |dT kvs=>obtain⟨_,_,_,_,o,_,_,e,_⟩:=x;exact Heap.lt_size e
 |set S n=>obtain⟨o,_,_,_,e,_⟩:=x;exact Heap.lt_size e
 |ins C c fs=>obtain⟨_,_,_,e,_⟩:=x;exact Heap.lt_size e
 |own y=>obtain⟨_,e⟩:=x;exact Heap.lt_size e
 |xd fs=>obtain⟨_,⟨_,_,_,e,_⟩,_⟩:=x;exact Heap.lt_size e
 |bg lo d=>obtain⟨_,_,_,e⟩:=x;exact Heap.lt_size e
 |Cg g u=>obtain⟨e,_⟩:=x;exact Heap.lt_size e
 |bh i=>exact Heap.lt_size (show h.get? a=some _ from x)
 |met f y=>exact Heap.lt_size (show h.get? a=some _ from x)
 |ext j=>obtain⟨_,⟨_,e⟩,_⟩:=x;exact Heap.lt_size e
theorem Paired.gj {d e:Type} {F G:d->e->Prop} {c:List d} {l₂:List e} (r:Paired F c l₂) (f:∀a b,F a b->G a b):Paired G c l₂:=by
 induction r with
 |nil=>exact .nil
 |cons a _ g=>exact .cons (f _ _ a) g
theorem BO.Ta (x:BO P w H h a o) (k:∀b u,(b=a∨H b=some (.own a))->h.get? b=some u->h'.get? b=some u)
  (B:∀b,H b=some (.own a)->H' b=some (.own a)) (D:∀b xs,H b=some (.tup xs)->H' b=some (.tup xs)):BO P w H' h' a o:=by
 induction o with
 |lst xs=>obtain⟨z,l,n,r,e⟩:=x;exact⟨z,l,n,r,k _ _ (.inl rfl) e⟩
 |tup xs=>obtain⟨z,l,r,g,e,c⟩:=x;exact⟨z,l,r,g,k _ _ (.inl rfl) e,c⟩
 |dK kvs=>obtain⟨z,y,E,r,g,i,j,e,c⟩:=x;exact⟨z,y,E,r,g,i,j,k _ _ (.inl rfl) e,c⟩
 |dT kvs=>
  obtain⟨z,y,xs,r,g,i,j,e,c⟩:=x
  exact⟨z,y,xs,Paired.gj r fun p q z=>⟨z.1,D _ _ z.2.1,z.2.2⟩,g,i,j,k _ _ (.inl rfl) e,c⟩
 |set S n=>obtain⟨g,i,j,t,e,c⟩:=x;exact⟨g,i,j,t,k _ _ (.inl rfl) e,c⟩
 |ins C J fs=>
  obtain⟨d,z,F,e,m,⟨s,i,j,G,c⟩,r⟩:=x
  exact⟨B _ d,z,F,k _ _ (.inl rfl) e,m,⟨s,i,j,k _ _ (.inr d) G,c⟩,r⟩
 |own y=>obtain⟨g,e⟩:=x;exact⟨g,k _ _ (.inl rfl) e⟩
 |xd fs=>obtain⟨m,⟨s,i,j,e,c⟩,r⟩:=x;exact⟨m,⟨s,i,j,k _ _ (.inl rfl) e,c⟩,r⟩
 |bg lo K=>obtain⟨t,u,v,e⟩:=x;exact⟨t,u,v,k _ _ (.inl rfl) e⟩
 |Cg g u I=>obtain⟨e,q⟩:=x;exact⟨k _ _ (.inl rfl) e,I q⟩
 |bh A=>
  have e:h.get? a=some {cls:=.none,data:=.fields A}:=x
  show h'.get? a=some {cls:=.none,data:=.fields A}
  exact k a _ (.inl rfl) e
 |met f y=>
  have e:h.get? a=some (PySem.W.methodObj (.ref f) (.ref y)):=x
  show h'.get? a=some (PySem.W.methodObj (.ref f) (.ref y))
  exact k a _ (.inl rfl) e
 |ext L=>obtain⟨p,⟨o,e⟩,st⟩:=x;exact⟨st _ _ p fun o q=>k _ _ (.inl rfl) q,⟨o,k _ _ (.inl rfl) e⟩,st⟩
theorem F'.lt (x:F' P w H h) (e:H a=some o):a<h.objs.size:=(x a o e).lt
theorem F'.fresh (x:F' P w H h) (e:h.objs.size<=a):H a=none:=by
 cases q:H a with
 |none=>rfl
 |some u=>exact absurd (Nat.lt_of_lt_of_le (x.lt q) e) (Nat.lt_irrefl _)
theorem F'.kept (x:F' P w H h) (k:∀b u,h.get? b=some u->h'.get? b=some u):F' P w H h':=fun a o e=>
 (x a o e).Ta (fun b u _ q=>k b u q) (fun _ q=>q) fun _ _ q=>q
theorem F'.laid (x:F' P w H h) (k:∀b u,h.get? b=some u->h'.get? b=some u) (g:h.objs.size<=a) (new:BO P w (upd H a o) h' a o):F' P w (upd H a o) h':=fun b u e=>by
 have d:=x.fresh g
 by_cases f:b=a
 ·subst f;rw[AF]at e;cases e;exact new
 ·rw[AJ f]at e
  exact(x b u e).Ta (fun c v _ q=>k c v q) (fun c q=>by rw[AJ (Au q d)];exact q) fun c i q=>by rw[AJ (Au q d)];exact q
end
def Rd (H:Hp) (a:Addr) (u:HO):Prop:=H a=some u∨∃o,H a=some (.Cg o u)
theorem Rd.ok {P:Program} {w:World} {H:Hp} {h:Heap} {a:Addr} {u:HO} (r:Rd H a u) (x:F' P w H h):BO P w H h a u:=by
 rcases r with r|⟨o,r⟩
 ·exact x a u r
 ·obtain⟨_,q⟩:=x a _ r
  exact q
def gm:Option HO->Prop
 |some (.lst _)=>True
 |some (.dK _)=>True
 |some (.dT _)=>True
 |some (.set _ _)=>True
 |some (.ins _ _ _)=>True
 |some (.ext _)=>True
 |_=>False
section
variable{P:Program} {w:World} {H:Hp} {h h':Heap} {x e:Addr} {o':HO}
theorem F'.write (ok:F' P w H h) (g:gm (H x)) (n:e=x∨H e=some (.own x)) (k:∀b u,b≠e->h.get? b=some u->h'.get? b=some u) (m:∃u,h'.get? e=some u)
  (new:BO P w (upd H x o') h' x o'):F' P w (upd H x o') h':=fun b u q=>by
 have d:∀c y,H c=some (.own y)->c≠x:=fun c y r z=>by subst z;rw[r]at g;exact g
 have f:∀c i,H c=some (.tup i)->c≠x:=fun c i r z=>by subst z;rw[r]at g;exact g
 by_cases j:b=x
 ·subst j;rw[AF]at q;cases q;exact new
 ·rw[AJ j]at q
  by_cases a:b=e
  ·have o:H b=some (.own x):=by
    rcases n with z|z
    ·exact absurd (a.trans z) j
    ·rw[a];exact z
   rw[q]at o;cases o
   obtain⟨v,p⟩:=m
   exact⟨v,by rw[a];exact p⟩
  ·refine(ok b u q).Ta (fun c v l r=>k c v ?_ r) (fun c r=>by rw[AJ (d c b r)];exact r) fun c i r=>by rw[AJ (f c i r)];exact r
   rcases l with rfl|l
   ·exact a
   ·rintro rfl
    rcases n with z|z
    ·exact d c b l z
    ·rw[l]at z;cases z;exact j rfl
end
structure Un (fs ex:List Addr) (H H':Hp) (h h':Heap):Prop where
 keep:∀b o,h.get? b=some o->H b=none->b∉fs->b∉ex->h'.get? b=some o
 slot:∀b o,h.get? b=some o->H b=none->b∈fs->b∉ex->∃sl,h'.get? b=some {o with slots:=sl}
 free:∀b o,h.get? b=some o->H b=none->b∉ex->H' b=none
 there:∀b o,h.get? b=some o->b∉ex->∃o',h'.get? b=some o'
 Kx:∀b xs,H b=some (.tup xs)->H' b=some (.tup xs)
 JR:∀b o u,H b=some (.Cg o u)->H' b=some (.Cg o u)
 MI:∀b ps,H b=some (.bh ps)->∃more,H' b=some (.bh (ps++more))
section
variable{fs fs' ex ex':List Addr} {H H1 H2:Hp} {h h1 h2 h':Heap} {a x e:Addr} {o:HO}
theorem Un.any (u:Un fs ex H H1 h h1) {b:Addr} {c:Obj} (q:h.get? b=some c) (n:H b=none) (d:b∉ex):∃g,h1.get? b=some {c with slots:=g}:=by
 by_cases f:b∈fs
 ·exact u.slot b c q n f d
 ·exact⟨c.slots,u.keep b c q n f d⟩
theorem Un.kept (k:∀b u,h.get? b=some u->h'.get? b=some u):Un fs ex H H h h':=
 ⟨fun b c q _ _ _=>k b c q,fun b c q _ _ _=>⟨c.slots,k b c q⟩,fun _ _ _ n _=>n,fun b c q _=>⟨c,k b c q⟩,fun _ _ q=>q,fun _ _ _ q=>q,fun _ d q=>⟨#[],by rw[q];simp⟩⟩
theorem Un.refl:Un fs ex H H h h:=Un.kept fun _ _ q=>q
theorem Un.laid (k:∀b u,h.get? b=some u->h'.get? b=some u) (hp:h.objs.size<=a) (hn:H a=none):Un fs ex H (upd H a o) h h' where
 keep:=fun b u q _ _ _=>k b u q
 slot:=fun b u q _ _ _=>⟨u.slots,k b u q⟩
 free:=fun b u q n _=>by rw[AJ (Nat.ne_of_lt (Nat.lt_of_lt_of_le (Heap.lt_size q) hp))];exact n
 there:=fun b u q _=>⟨u,k b u q⟩
 Kx:=fun b xs q=>by rw[AJ (Au q hn)];exact q
 JR:=fun b u xs q=>by rw[AJ (Au q hn)];exact q
 MI:=fun b ps q=>⟨#[],by rw[AJ (Au q hn),q];simp⟩
theorem Un.write (d:gm (H x)) (l:e=x∨H e=some (.own x)) (k:∀b u,b≠e->h.get? b=some u->h'.get? b=some u) (f:∃u,h'.get? e=some u):Un fs ex H (upd H x o) h h':=by
 have i:∀b,H b=none->b≠x:=fun b n z=>by subst z;rw[n]at d;exact d
 have j:∀b,H b=none->b≠e:=fun b n z=>by
  subst z
  rcases l with r|r
  ·exact i b n r
  ·rw[n]at r;cases r
 have g:∀b u,H b=some u->¬gm (some u)->b≠x:=fun b u q nm z=>by subst z;rw[q]at d;exact nm d
 refine⟨fun b u q n _ _=>k b u (j b n) q,fun b u q n _ _=>⟨u.slots,k b u (j b n) q⟩,fun b u q n _=>by rw[AJ (i b n)];exact n,fun b u q _=>?_,
  fun b m q=>by rw[AJ (g b _ q fun z=>z)];exact q,fun b u m q=>by rw[AJ (g b _ q fun z=>z)];exact q,fun b p q=>⟨#[],by rw[AJ (g b _ q fun z=>z),q];simp⟩⟩
 by_cases c:b=e
 ·subst c;exact f
 ·exact⟨u,k b u c q⟩
end
def mC (h:Heap) (H:Hp):List Addr:=(List.range h.objs.size).filter fun a=>(H a).isSome
def MJ (h:Heap) (H:Hp):Heap:=PySem.W.hideAll h (mC h H)
theorem Tb (h:Heap) (H:Hp):(MJ h H).objs.size=h.objs.size:=PySem.W.hideAll_size _ _
theorem VA {h:Heap} {H:Hp} {b:Addr} {o:Obj} (e:h.get? b=some o) (n:H b=none):(MJ h H).get? b=some o:=
 PySem.W.hideAll_get _ e fun a=>by
  have q:(H b).isSome=true:=(List.mem_filter.mp a).2
  rw[n]at q;simp at q
theorem YC {h:Heap} {H:Hp} {b:Addr} {o:Obj} (e:(MJ h H).get? b=some o):h.get? b=some o/\H b=none:=by
 have a:h.get? b=some o:=PySem.W.of_hideAll (mC h H) e
 refine⟨a,?_⟩
 cases q:H b with
 |none=>rfl
 |some x=>
  have c:b∈mC h H:=List.mem_filter.mpr ⟨List.mem_range.mpr (Heap.lt_size a),by simp[q]⟩
  have z:(MJ h H).get? b=none:=PySem.W.hideAll_none (mC h H) c
  rw[z]at e;cases e
def YD (g h:Heap) (L:Addr):List (Addr×Obj):=(List.range h.objs.size).filterMap fun a=>if a=L∨(g.get? a).isSome=true then none else(h.get? a).map fun o=>(a,o)
def rest (g h:Heap) (L d:Addr):List (Addr×Obj):=(YD g h L).filter fun p=>decide (p.1≠d)
structure Mod (K:AGW) (mg:Str->Option Value) (base:Heap):Prop where
 mD:K.In base
 glob:base.Ns mainGlobals mg
 blt:∃mb,base.Ns builtinsNs mb/\∀x:Str,x≠"__name__"->mb x=bootBuiltins x
 nolimit:base.NoLimit
structure Cx where
 prog:Program
 w:World
 K:AGW
 mg:Str->Option Value
 base:Heap
 A:Around
 N:List Str
 s₀:Shared
 H₀:Hp
 env:Env
 outer:List Env
 stack:List Env
 ex:List Addr
 fn:Str->Bool
 calm:Bool
 pn:List (Addr×Obj)
 xe:Value->Shared->Prop
def VB (l:List Env):List Addr:=l.filterMap (·.frame)
abbrev Cx.fs (X:Cx):List Addr:=VB X.outer
def mE (a:Scope) (x:Str):Prop:=a.names.lookup x=some .local∨a.names.lookup x=some .cell∨a.names.lookup x=some .free
def Loc (a:Scope) (x:Str):Prop:=a.names.lookup x=some .local∨a.names.lookup x=some .cell
def Look (env:Env) (h:Heap) (m:Str->Option Value) (x:Str) (u:Value):Prop:=
 (env.kindOf x=some .local/\m x=some u)∨((env.kindOf x=some .cell∨env.kindOf x=some .free)/\∃c,env.cells.lookup x=some c/\h.IsCell c (some u))
structure Cx.Ok (X:Cx):Prop where
 mod:Mod X.K X.mg X.base
 kind:X.env.scope.kind=.function
 glob:X.env.globals=mainGlobals
 blt:X.env.builtins=builtinsNs
 above:X.s₀.heap.objs.size<=X.env.locals
 inj:∀x y c,X.env.cells.lookup x=some c->X.env.cells.lookup y=some c->x=y
 has:∀x,(X.env.kindOf x=some .cell∨X.env.kindOf x=some .free)->∃c,X.env.cells.lookup x=some c
 gp:∀x c,X.fn x=true->X.env.cells.lookup x=some c->X.s₀.heap.objs.size<=c
 hd:X.calm=true->X.A.handled=none
 frames:X.A.frames=some X.stack
 mF:X.stack=X.outer∨(X.stack=X.env::X.outer/\X.env.frame=some X.env.locals)
 gD:∀b∈X.ex,b≠X.env.locals/\∀x c,X.env.cells.lookup x=some c->c≠b
 bs:∀b o,X.base.get? b=some o->X.s₀.heap.get? b=some o/\X.H₀ b=none
 Xx:X.base.objs.size<=X.s₀.heap.objs.size
 Tc:∀b o,X.base.get? b=some o->b∉X.ex
 Td:∀b∈X.ex,b∉X.fs
 JS:X.s₀.heap.FunFrames X.base X.outer
 gE:∀b∈X.fs,X.H₀ b=none
structure Inv (X:Cx) (pins:List (Addr×Obj)) (σ:List (Option V)) (H:Hp) (s:Shared):Prop where
 ok:X.Ok
 os:s.os=X.s₀.os
 bare:AllBare s.gens
 base:Un X.fs X.ex X.H₀ H X.s₀.heap s.heap
 loc:∃m,s.heap.Ns X.env.locals m/\∀(i:Nat) (x:Str) (v:V),X.N[i]?=some x->σ[i]?=some (some v)->mE X.env.scope x->∃u,RelV v u/\Look X.env s.heap m x u
 cell:∀x c,X.env.cells.lookup x=some c->∃v,s.heap.IsCell c v
 free:H X.env.locals=none
 EV:∀x c,X.env.cells.lookup x=some c->H c=none
 pin:∀p∈X.pn++pins,s.heap.get? p.1=some p.2/\H p.1=none/\p.1≠X.env.locals/\p.1∉X.fs/\∀v,p.2.data≠.cell v
 Be:F' X.prog X.w H s.heap
 len:σ.length=X.N.length
section
variable{X:Cx} {pins:List (Addr×Obj)} {σ:List (Option V)} {H H':Hp} {s:Shared} {h':Heap}
theorem Cx.Ok.nZ (ok:X.Ok) {b:Addr} {o:Obj} (e:X.base.get? b=some o):b∉X.fs:=fun a=>by
 have:=(ok.JS.mem a).1
 rw[e]at this;cases this
theorem Inv.bs (I:Inv X pins σ H s):∀b o,X.base.get? b=some o->s.heap.get? b=some o/\H b=none:=fun b o e=>
 ⟨I.base.keep b o (I.ok.bs b o e).1 (I.ok.bs b o e).2 (I.ok.nZ e) (I.ok.Tc b o e),I.base.free b o (I.ok.bs b o e).1 (I.ok.bs b o e).2 (I.ok.Tc b o e)⟩
theorem Inv.bk (I:Inv X pins σ H s):∀b o,X.base.get? b=some o->s.heap.get? b=some o:=fun b o e=>(I.bs b o e).1
theorem Inv.mod (I:Inv X pins σ H s):Mod X.K X.mg X.base:=I.ok.mod
theorem Inv.Ky (I:Inv X pins σ H s):X.K.In s.heap:=I.ok.mod.mD.keeps I.bk
theorem Inv.lt (I:Inv X pins σ H s):X.env.locals<s.heap.objs.size:=let⟨_,a,_⟩:=I.loc;a.lt
theorem Inv.sz (I:Inv X pins σ H s):X.s₀.heap.objs.size<=s.heap.objs.size:=Nat.le_trans I.ok.above (Nat.le_of_lt I.lt)
theorem Inv.nc (I:Inv X pins σ H s) {a:Addr} (h:s.heap.objs.size<=a):a∉X.fs:=fun b=>by
 obtain⟨_,o,c,_⟩:=I.ok.JS.mem b
 exact absurd (Nat.lt_of_lt_of_le (Heap.lt_size c) (Nat.le_trans I.sz h)) (Nat.lt_irrefl _)
theorem Inv.bj (I:Inv X pins σ H s):∀x c,X.env.cells.lookup x=some c->c≠X.env.locals:=fun x c e z=>by
 obtain⟨v,o,d,f⟩:=I.cell x c e
 obtain⟨m,⟨g,h,i,a,b,_⟩,_⟩:=I.loc
 rw[z,a]at d;cases d;rw[b]at f;cases f
theorem Inv.JS (I:Inv X pins σ H s):s.heap.FunFrames X.base X.outer:=by
 have all:∀(l:List Env),(∀b∈VB l,b∈X.fs)->X.s₀.heap.FunFrames X.base l->s.heap.FunFrames X.base l:=by
  intro l
  induction l with
  |nil=>intro _ _;trivial
  |cons env r g=>
   intro f h
   obtain⟨i,⟨L,o,a,j,k,m⟩,n⟩:=h
   have c:L∈X.fs:=f L (by unfold VB;rw[List.filterMap_cons,a];exact List.mem_cons_self)
   obtain⟨p,e⟩:=I.base.slot L o k (I.ok.gE L c) c fun z=>I.ok.Td L z c
   exact⟨i,⟨L,_,a,j,e,m⟩,g (fun b d=>f b (by unfold VB;rw[List.filterMap_cons,a];exact List.mem_cons_of_mem _ d)) n⟩
 exact all X.outer (fun _ d=>d) I.ok.JS
theorem Inv.stack (I:Inv X pins σ H s):s.heap.FunFrames X.base X.stack:=by
 rcases I.ok.mF with e|⟨e,a⟩
 ·rw[e];exact I.JS
 ·rw[e]
  obtain⟨m,b,_⟩:=I.loc
  refine .cons (by rw[I.ok.kind];decide) a b ?_ I.JS
  exact Heap.get?_none_of_le (Nat.le_trans I.ok.Xx I.ok.above)
theorem Inv.MK (I:Inv X pins σ H s):∀b∈VB X.stack,b∈X.env.locals::X.fs:=fun b a=>by
 rcases I.ok.mF with e|⟨e,c⟩
 ·rw[e]at a;exact List.mem_cons_of_mem _ a
 ·rw[e]at a
  unfold VB at a
  rw[List.filterMap_cons,c]at a
  exact a
theorem Inv.ML (I:Inv X pins σ H s):∀b∈VB X.stack,H b=none:=fun b a=>by
 rcases List.mem_cons.mp (I.MK b a)with e|a
 ·rw[e];exact I.free
 ·obtain⟨_,o,c,_⟩:=I.ok.JS.mem a
  exact I.base.free b o c (I.ok.gE b a) fun z=>I.ok.Td b z a
theorem Inv.step {g':Array GenState} {t':Nat} {d':Drawn} {ch:List Addr} (I:Inv X pins σ H s)
  (f:∀b∈ch,(b∈X.ex∨X.s₀.heap.objs.size<=b)/\b≠X.env.locals/\(∀x c,X.env.cells.lookup x=some c->c≠b)/\∀p∈X.pn++pins,p.1≠b)
  (keep:∀b o,b≠X.env.locals->b∉X.fs->b∉ch->s.heap.get? b=some o->H b=none->h'.get? b=some o)
  (slot:∀b o,b≠X.env.locals->b∈X.fs->b∉ch->s.heap.get? b=some o->H b=none->∃F,h'.get? b=some {o with slots:=F}) (free:∀b o,b∉ch->s.heap.get? b=some o->H b=none->H' b=none)
  (there:∀b o,b∉ch->s.heap.get? b=some o->∃B,h'.get? b=some B)
  (Kx:∀b t,H b=some (.tup t)->H' b=some (.tup t)) (JR:∀b o u,H b=some (.Cg o u)->H' b=some (.Cg o u)) (MI:∀b E,H b=some (.bh E)->∃more,H' b=some (.bh (E++more)))
  (O:∀m,s.heap.Ns X.env.locals m->h'.Ns X.env.locals m) (G:F' X.prog X.w H' h') (P:AllBare g'):
  Inv X pins σ H' {s with heap:=h',gens:=g',drawn:=d',toks:=t'}:=by
 have C:∀b o,X.s₀.heap.get? b=some o->b≠X.env.locals:=fun b o e=>Nat.ne_of_lt (Nat.lt_of_lt_of_le (Heap.lt_size e) I.ok.above)
 have h:∀b o,X.s₀.heap.get? b=some o->b∉X.ex->b∉ch:=fun b o e a y=>by
  rcases(f b y).1 with z|z
  ·exact a z
  ·exact absurd (Nat.lt_of_lt_of_le (Heap.lt_size e) z) (Nat.lt_irrefl _)
 have cellK:∀x c,X.env.cells.lookup x=some c->∀v,s.heap.IsCell c v->h'.IsCell c v:=fun x c e v ⟨o,A,J⟩=>by
  have g:c∉ch:=fun z=>(f c z).2.2.1 x c e rfl
  by_cases L:c∈X.fs
  ·obtain⟨F,q⟩:=slot c o (I.bj x c e) L g A (I.EV x c e)
   exact⟨_,q,J⟩
  ·exact⟨o,keep c o (I.bj x c e) L g A (I.EV x c e),J⟩
 refine⟨I.ok,I.os,P,⟨fun b o e n y a=>?_,fun b o e n y a=>?_,fun b o e n a=>?_,fun b o e a=>?_,fun b t e=>Kx b t (I.base.Kx b t e),fun b o t e=>JR b o t (I.base.JR b o t e),fun b E e=>?_⟩,?_,fun x c e=>?_,?_,fun x c e=>?_,fun p M=>?_,G,I.len⟩
 ·exact keep b o (C b o e) y (h b o e a) (I.base.keep b o e n y a) (I.base.free b o e n a)
 ·obtain⟨F,j⟩:=I.base.slot b o e n y a
  obtain⟨K,D⟩:=slot b _ (C b o e) y (h b o e a) j (I.base.free b o e n a)
  exact⟨K,D⟩
 ·obtain⟨B,j⟩:=I.base.there b o e a
  exact free b B (h b o e a) j (I.base.free b o e n a)
 ·obtain⟨B,j⟩:=I.base.there b o e a
  exact there b B (h b o e a) j
 ·obtain⟨Q,j⟩:=I.base.MI b E e
  obtain⟨R,D⟩:=MI b _ j
  exact⟨Q++R,by rw[D,Array.append_assoc]⟩
 ·obtain⟨m,S,T⟩:=I.loc
  refine⟨m,O m S,fun i x v j D U=>?_⟩
  obtain⟨u,r,l⟩:=T i x v j D U
  refine⟨u,r,?_⟩
  rcases l with l|⟨k,c,e,z⟩
  ·exact .inl l
  ·exact .inr ⟨k,c,e,cellK x c e _ z⟩
 ·obtain⟨v,z⟩:=I.cell x c e
  exact⟨v,cellK x c e v z⟩
 ·obtain⟨m,⟨o,_,_,A,_⟩,_⟩:=I.loc
  exact free _ o (fun z=>(f _ z).2.1 rfl) A I.free
 ·obtain⟨v,o,A,J⟩:=I.cell x c e
  exact free c o (fun z=>(f c z).2.2.1 x c e rfl) A (I.EV x c e)
 ·obtain⟨e,n,N,nf,d⟩:=I.pin p M
  have g:p.1∉ch:=fun z=>(f p.1 z).2.2.2 p M rfl
  exact⟨keep p.1 p.2 N nf g e n,free p.1 p.2 g e n,N,nf,d⟩
theorem Inv.un {t':Nat} (I:Inv X pins σ H s) (u:Un X.fs [] H H' s.heap h') (c:F' X.prog X.w H' h'):Inv X pins σ H' {s with heap:=h',toks:=t'}:=by
 obtain⟨m,⟨o,l,p,h,r⟩,_⟩:=id I.loc
 obtain⟨q,i⟩:=u.any h I.free (by simp)
 exact I.step (g':=s.gens) (d':=s.drawn) (ch:=[]) (fun _ z=>nomatch z) (fun b o _ d _ e n=>u.keep b o e n d (by simp)) (fun b o _ d _ e n=>u.slot b o e n d (by simp)) (fun b o _ e n=>u.free b o e n (by simp)) (fun b o _ e=>u.there b o e (by simp)) u.Kx u.JR u.MI (fun t j=>by
  obtain⟨v,f,g,a,k⟩:=j
  rw[h]at a;cases a
  exact⟨_,f,g,i,k⟩) c I.bare
theorem Inv.call {g':Array GenState} {t':Nat} {d':Drawn} {ch:List Addr} (I:Inv X pins σ H s) (u:Un (VB X.stack) ch H H' s.heap h') (g:F' X.prog X.w H' h') (l:AllBare g')
  (d:∀b∈ch,(b∈X.ex∨X.s₀.heap.objs.size<=b)/\b≠X.env.locals/\(∀x c,X.env.cells.lookup x=some c->c≠b)/\∀p∈X.pn++pins,p.1≠b):
  Inv X pins σ H' {s with heap:=h',gens:=g',drawn:=d',toks:=t'}:=by
 obtain⟨m,⟨o,y,A,k,r⟩,_⟩:=id I.loc
 obtain⟨B,h⟩:=u.any k I.free fun z=>(d _ z).2.1 rfl
 exact I.step (ch:=ch) d (fun b o h q a e n=>u.keep b o e n (fun z=>(List.mem_cons.mp (I.MK b z)).elim h q) a) (fun b o _ _ a e n=>u.any e n a) (fun b o a e n=>u.free b o e n a) (fun b o a e=>u.there b o e a) u.Kx u.JR u.MI (fun C t=>by
  obtain⟨D,i,j,f,v⟩:=t
  rw[k]at f;cases f
  exact⟨_,i,j,h,v⟩) g l
theorem Inv.turned {t':Nat} {a:Addr} (I:Inv X pins σ H s) (k:∀b o,b≠a->s.heap.get? b=some o->h'.get? b=some o) (h:H a=none) (g:a≠X.env.locals)
  (i:a∈X.ex∨X.s₀.heap.objs.size<=a) (j:∀x c,X.env.cells.lookup x=some c->c≠a) (l:∀p∈X.pn++pins,p.1≠a):Inv X pins σ H {s with heap:=h',toks:=t'}:=by
 have f:∀b u,H b=some u->b≠a:=fun b u e z=>by rw[z,h]at e;cases e
 refine I.step (g':=s.gens) (d':=s.drawn) (ch:=[a]) (fun b t=>?_) (fun b o _ _ d e _=>k b o (fun z=>d (by simp[z])) e) (fun b o _ _ d e _=>⟨o.slots,k b o (fun z=>d (by simp[z])) e⟩) (fun _ _ _ _ n=>n)
  (fun b o d e=>⟨o,k b o (fun z=>d (by simp[z])) e⟩) (fun _ _ e=>e) (fun _ _ _ e=>e) (fun b C e=>⟨#[],by rw[e];simp⟩) (fun m w=>?_) (fun b u e=>?_) I.bare
 ·have e:b=a:=by simpa using t
  subst e
  exact⟨i,g,j,l⟩
 ·obtain⟨o,y,A,B,r⟩:=w
  exact⟨o,y,A,k _ o (Ne.symm g) B,r⟩
 ·refine(I.Be b u e).Ta (fun c v d q=>k c v ?_ q) (fun _ q=>q) fun _ _ q=>q
  rcases d with z|z
  ·rw[z];exact f b u e
  ·exact f c _ z
theorem Inv.tok (I:Inv X pins σ H s) (t:Nat):Inv X pins σ H {s with toks:=t}:=I.un (h':=s.heap) (t':=t) Un.refl I.Be
theorem Inv.kept {t':Nat} (I:Inv X pins σ H s) (k:∀b u,s.heap.get? b=some u->h'.get? b=some u):Inv X pins σ H {s with heap:=h',toks:=t'}:=I.un (Un.kept k) (I.Be.kept k)
theorem Inv.laid {a:Addr} {o:HO} {t':Nat} (I:Inv X pins σ H s) (k:∀b u,s.heap.get? b=some u->h'.get? b=some u) (c:s.heap.objs.size<=a) (new:BO X.prog X.w (upd H a o) h' a o):
  Inv X pins σ (upd H a o) {s with heap:=h',toks:=t'}:=I.un (Un.laid k c (I.Be.fresh c)) (I.Be.laid k c new)
theorem Inv.write {x e:Addr} {o:HO} {t':Nat} (I:Inv X pins σ H s) (c:gm (H x)) (d:e=x∨H e=some (.own x)) (k:∀b u,b≠e->s.heap.get? b=some u->h'.get? b=some u) (a:∃u,h'.get? e=some u)
  (new:BO X.prog X.w (upd H x o) h' x o):Inv X pins σ (upd H x o) {s with heap:=h',toks:=t'}:=I.un (Un.write c d k a) (I.Be.write c d k a new)
theorem Inv.RY {a:List (Addr×Obj)} (I:Inv X pins σ H s) (h:∀p∈a,s.heap.get? p.1=some p.2/\H p.1=none/\p.1≠X.env.locals/\p.1∉X.fs/\∀v,p.2.data≠.cell v):Inv X a σ H s:=
 ⟨I.ok,I.os,I.bare,I.base,I.loc,I.cell,I.free,I.EV,fun p b=>(List.mem_append.mp b).elim (fun z=>I.pin p (List.mem_append_left _ z)) (h p),I.Be,I.len⟩
theorem Nf {N:List Str} (c:N.Nodup) {i j:Nat} {x:Str} (a:N[i]?=some x) (b:N[j]?=some x):i=j:=by
 obtain⟨f,d⟩:=AGT a
 obtain⟨g,e⟩:=AGT b
 exact(List.getElem_inj c).mp (d.trans e.symm)
theorem HV {M:Model} {A:Around} {E:Value->Shared->Prop} {i:Nat} {x:Str} {v:V} {u:Value} {Q:Unit->Shared->Prop} (I:Inv X pins σ H s) (hN:X.N.Nodup) (L:X.N[i]?=some x) (t:Loc X.env.scope x) (r:RelV v u)
  (h:∀Z,Inv X pins (σ.set i (some v)) H Z->(∃a,Heap.SameBut a s.heap Z.heap/\(a=X.env.locals∨X.env.cells.lookup x=some a))->Q () Z) (hf:X.fn x=true∨X.env.scope.names.lookup x=some .local:=by first|exact .inl rfl|exact .inr rfl|assumption):wpAny M A (storeName X.env x u) Q E s:=by
 obtain⟨m,hn,hl⟩:=id I.loc
 have O:(X.env.scope.kind==.class||(X.env.scope.kind==.module&&X.env.locals !=X.env.globals))=false:=by rw[I.ok.kind];rfl
 have D:i<σ.length:=by rw[I.len];exact(AGT L).1
 have bj:=I.bj
 have tracked:∀{a:Addr} {h':Heap},(∃o,s.heap.get? a=some o/\H a=none)->Heap.SameBut a s.heap h'->F' X.prog X.w H h':=fun{a h'} ha f b ob e=>by
  obtain⟨_,_,B⟩:=ha
  refine(I.Be b ob e).Ta (fun c U l q=>(f.2 c ?_).trans q) (fun _ q=>q) fun _ _ q=>q
  rintro rfl
  rcases l with rfl|l
  ·rw[B]at e;cases e
  ·rw[B]at l;cases l
 rcases t with F|F
 ·refine wpAny_storeName_local F hn (fun h' zI f=>?_) O
  obtain⟨oL,_,_,hoL,_⟩:=id hn
  refine h _ ⟨I.ok,I.os,I.bare,⟨fun b o e n G t=>?_,fun b o e n G t=>?_,I.base.free,fun b o e t=>?_,I.base.Kx,I.base.JR,I.base.MI⟩,⟨_,zI,fun j y v' g C e3=>?_⟩,fun y c e=>?_,I.free,I.EV,fun p hp=>?_,tracked ⟨oL,hoL,I.free⟩ f,by simpa using I.len⟩ ⟨_,f,.inl rfl⟩
  ·exact(f.2 b (Nat.ne_of_lt (Nat.lt_of_lt_of_le (Heap.lt_size e) I.ok.above))).trans (I.base.keep b o e n G t)
  ·obtain⟨sl,g⟩:=I.base.slot b o e n G t
   exact⟨sl,(f.2 b (Nat.ne_of_lt (Nat.lt_of_lt_of_le (Heap.lt_size e) I.ok.above))).trans g⟩
  ·obtain⟨o',g⟩:=I.base.there b o e t
   exact⟨o',(f.2 b (Nat.ne_of_lt (Nat.lt_of_lt_of_le (Heap.lt_size e) I.ok.above))).trans g⟩
  ·by_cases J:j=i
   ·subst J
    rw[L]at g;cases g
    rw[List.getElem?_set_self D]at C
    cases C
    exact⟨u,r,.inl ⟨F,by simp⟩⟩
   ·rw[List.getElem?_set_ne (Ne.symm J)]at C
    obtain⟨u',r',q⟩:=hl j y v' g C e3
    refine⟨u',r',?_⟩
    rcases q with⟨k,e⟩|⟨k,c,e,z⟩
    ·refine .inl ⟨k,?_⟩
     have:y≠x:=fun e=>J (Nf hN g (e▸L))
     simp[this,e]
    ·exact .inr ⟨k,c,e,z.sameBut f (bj y c e)⟩
  ·obtain⟨U,z⟩:=I.cell y c e
   exact⟨U,z.sameBut f (bj y c e)⟩
  ·obtain⟨e,n,W,nf,d⟩:=I.pin p hp
   exact⟨(f.2 p.1 W).trans e,n,W,nf,d⟩
 ·have K:X.fn x=true:=by
   rcases hf with z|z
   ·exact z
   ·rw[z]at F;cases F
  obtain⟨c,l⟩:=I.ok.has x (.inl F)
  obtain⟨U,z⟩:=I.cell x c l
  refine wpAny_storeName_cell I.ok.kind F l z (fun h' P f=>?_)
  obtain⟨oc,R,S⟩:=id z
  refine h {s with heap:=h'} ⟨I.ok,I.os,I.bare,⟨fun b o e n G t=>?_,fun b o e n G t=>?_,I.base.free,fun b o e t=>?_,I.base.Kx,I.base.JR,I.base.MI⟩,⟨m,hn.sameBut f (Ne.symm (bj x c l)),fun j y v' g C e3=>?_⟩,fun y Y e=>?_,I.free,I.EV,fun p hp=>?_,tracked ⟨oc,R,I.EV x c l⟩ f,by simpa using I.len⟩ ⟨c,f,.inr l⟩
  ·exact(f.2 b (Nat.ne_of_lt (Nat.lt_of_lt_of_le (Heap.lt_size e) (I.ok.gp x c K l)))).trans (I.base.keep b o e n G t)
  ·obtain⟨sl,g⟩:=I.base.slot b o e n G t
   exact⟨sl,(f.2 b (Nat.ne_of_lt (Nat.lt_of_lt_of_le (Heap.lt_size e) (I.ok.gp x c K l)))).trans g⟩
  ·obtain⟨o',g⟩:=I.base.there b o e t
   exact⟨o',(f.2 b (Nat.ne_of_lt (Nat.lt_of_lt_of_le (Heap.lt_size e) (I.ok.gp x c K l)))).trans g⟩
  ·by_cases J:j=i
   ·subst J
    rw[L]at g;cases g
    rw[List.getElem?_set_self D]at C
    cases C
    exact⟨u,r,.inr ⟨.inl F,c,l,P⟩⟩
   ·rw[List.getElem?_set_ne (Ne.symm J)]at C
    obtain⟨u',r',q⟩:=hl j y v' g C e3
    refine⟨u',r',?_⟩
    rcases q with q|⟨k,Y,e,z'⟩
    ·exact .inl q
    ·refine .inr ⟨k,Y,e,z'.sameBut f ?_⟩
     rintro rfl
     exact J (Nf hN g (I.ok.inj _ _ _ e l▸L))
  ·by_cases T:Y=c
   ·subst T;exact⟨_,P⟩
   ·obtain⟨w2,z2⟩:=I.cell y Y e
    exact⟨w2,z2.sameBut f T⟩
  ·obtain⟨e,n,W,nf,d⟩:=I.pin p hp
   refine⟨(f.2 p.1 ?_).trans e,n,W,nf,d⟩
   intro q
   rw[q,R]at e
   have q':oc=p.2:=AGU e
   exact d U (by rw[<-q'];exact S)
theorem Ng {M:Model} {A:Around} {E:Value->Shared->Prop} {i:Nat} {x:Str} {v:V} {u:Value} {Q:Unit->Shared->Prop} (I:Inv X pins σ H s) (b:X.N.Nodup) (c:X.N[i]?=some x) (d:Loc X.env.scope x) (r:RelV v u)
  (h:∀a,Inv X pins (σ.set i (some v)) H a->Q () a) (e:X.fn x=true∨X.env.scope.names.lookup x=some .local:=by first|exact .inl rfl|exact .inr rfl|assumption):wpAny M A (storeName X.env x u) Q E s:=
 HV I b c d r (fun a f _=>h a f) e
theorem Inv.gq {a:Shared} {ch:List Addr} (I:Inv X pins σ H s) (g:a.os=s.os) (u:Un (VB X.stack) ch H H' s.heap a.heap) (d:F' X.prog X.w H' a.heap) (h:AllBare a.gens)
  (f:∀b∈ch,(b∈X.ex∨X.s₀.heap.objs.size<=b)/\b≠X.env.locals/\(∀x c,X.env.cells.lookup x=some c->c≠b)/\∀p∈X.pn++pins,p.1≠b):Inv X pins σ H' a:=by
 obtain⟨h',g',d',t',i⟩:=a
 have e:i=s.os:=g
 subst e
 exact I.call (g':=g') (t':=t') (d':=d') u d h f
end
abbrev XK:=Value->Option Addr->Hp->Prop
abbrev St:=List (Option V)
abbrev VK:=V->Hp->Prop
abbrev TE:=St->Hp->VK->Prop
abbrev TT:=St->Hp->(Bool->Hp->Prop)->Prop
abbrev TA:=St->Hp->(List V->Hp->Prop)->Prop
structure Ends where
 nx:St->Hp->Prop
 rt:VK
 bk:St->Hp->Prop:=fun _ _=>False
 ct:St->Hp->Prop:=fun _ _=>False
abbrev TS:=Ends->St->Hp->Prop
inductive ng (x:V) (H:Hp) (Q:Bool->Hp->Prop):Prop
 |mk (c:Bool) (e:x=.bl c) (q:Q c H):ng x H Q
inductive gu (a:TE) (b:St) (x:V) (H:Hp) (Q:VK):Prop
 |mk (c:Bool) (e:x=.bl c) (q:if c=true then a b H Q else Q (.bl false) H):gu a b x H Q
inductive zJ (a:TE) (b:St) (x:V) (H:Hp) (Q:VK):Prop
 |mk (c:Bool) (e:x=.bl c) (q:if c=true then Q (.bl true) H else a b H Q):zJ a b x H Q
inductive nh (x:V) (H:Hp) (Q:VK):Prop
 |mk (c:Bool) (e:x=.bl c) (q:Q (.bl (!c)) H):nh x H Q
inductive IIQ (x y:V) (H:Hp) (k:Int->Int->Hp->Prop):Prop
 |mk (i j:Int) (e:x=.int i) (a:y=.int j) (q:k i j H):IIQ x y H k
inductive zK (x:V) (H:Hp) (Q:Option Int->Hp->Prop):Prop
 |mk (i:Int) (e:x=.int i) (q:Q (some i) H):zK x H Q
inductive ni (i j:Nat) (N:St->Hp->Prop) (a:St) (vs:List V) (H:Hp):Prop
 |mk (v w:V) (e:vs=[v,w]) (q:N ((a.set i (some v)).set j (some w)) H):ni i j N a vs H
inductive EP (X:Cx) (pins:List (Addr×Obj)) (a:St) (Q:VK) (u:Value) (b:Shared):Prop
 |mk (v:V) (H':Hp) (I:Inv X pins a H' b) (r:RelV v u) (q:Q v H'):EP X pins a Q u b
inductive TP (X:Cx) (pins:List (Addr×Obj)) (a:St) (Q:Bool->Hp->Prop) (b:Bool) (c:Shared):Prop
 |mk (H':Hp) (I:Inv X pins a H' c) (q:Q b H'):TP X pins a Q b c
inductive AP (X:Cx) (pins:List (Addr×Obj)) (a:St) (Q:List V->Hp->Prop) (us:List Value) (b:Shared):Prop
 |mk (vs:List V) (H':Hp) (I:Inv X pins a H' b) (r:Vals vs us) (q:Q vs H'):AP X pins a Q us b
theorem EP.elim {X:Cx} {pins:List (Addr×Obj)} {a:St} {Q:VK} {u:Value} {b:Shared} {G:Prop} (h:EP X pins a Q u b) (k:∀(v:V) (H':Hp),Inv X pins a H' b->RelV v u->Q v H'->G):G:=by
 cases h with
 |mk v H' I r q=>exact k v H' I r q
theorem AP.elim {X:Cx} {pins:List (Addr×Obj)} {a:St} {Q:List V->Hp->Prop} {us:List Value} {b:Shared} {G:Prop} (h:AP X pins a Q us b) (k:∀(vs:List V) (H':Hp),Inv X pins a H' b->Vals vs us->Q vs H'->G):G:=by
 cases h with
 |mk v H' I r q=>exact k v H' I r q
theorem TP.elim {X:Cx} {pins:List (Addr×Obj)} {a:St} {Q:Bool->Hp->Prop} {b:Bool} {c:Shared} {G:Prop} (h:TP X pins a Q b c) (k:∀H':Hp,Inv X pins a H' c->Q b H'->G):G:=by
 cases h with
 |mk H' I q=>exact k H' I q
inductive mG (X:Cx) (pins:List (Addr×Obj)) (N:St->Hp->Prop) (a:Shared):Prop
 |mk (b:St) (H':Hp) (I:Inv X pins b H' a) (q:N b H'):mG X pins N a
inductive zL (X:Cx) (pins:List (Addr×Obj)) (Q:VK) (u:Value) (a:Shared):Prop
 |mk (v:V) (b:St) (H':Hp) (I:Inv X pins b H' a) (r:RelV v u) (q:Q v H'):zL X pins Q u a
def SP (X:Cx) (pins:List (Addr×Obj)) (D:Ends) (f:Flow) (a:Shared):Prop:=
 match f with
 | .next=>mG X pins D.nx a
 | .brk=>mG X pins D.bk a
 | .cont=>mG X pins D.ct a
 | .ret u=>zL X pins D.rt u a
def PE (X:Cx) (e:Expr) (t:TE):Prop:=
 ∀(pins:List (Addr×Obj)) (s:Shared) (a:St) (H:Hp) (Q:VK),Inv X pins a H s->t a H Q->wpAny (model X.prog X.w) X.A (eval e X.env) (EP X pins a Q) X.xe s
def PT (X:Cx) (e:Expr) (t:TT):Prop:=
 ∀(pins:List (Addr×Obj)) (s:Shared) (a:St) (H:Hp) (Q:Bool->Hp->Prop),Inv X pins a H s->t a H Q->wpAny (model X.prog X.w) X.A (isTrue e X.env (eval e X.env)) (TP X pins a Q) X.xe s
def PW (X:Cx) (e:Expr) (t:TT):Prop:=
 ∀(whole:Sem Value) (pins:List (Addr×Obj)) (s:Shared) (a:St) (H:Hp) (Q:Bool->Hp->Prop),Inv X pins a H s->t a H Q->wpAny (model X.prog X.w) X.A (isTrue e X.env whole) (TP X pins a Q) X.xe s
theorem PW.pt {X:Cx} {e:Expr} {t:TT} (h:PW X e t):PT X e t:=h _
def PA (X:Cx) (b:List Expr) (t:TA):Prop:=
 ∀(pos:Pos) (pins:List (Addr×Obj)) (s:Shared) (a:St) (H:Hp) (Q:List V->Hp->Prop),Inv X pins a H s->t a H Q->wpAny (model X.prog X.w) X.A (spliced (backTo pos (starEach b X.env))) (AP X pins a Q) X.xe s
def PS (X:Cx) (st:Stmt) (t:TS):Prop:=
 ∀(pins:List (Addr×Obj)) (s:Shared) (a:St) (H:Hp) (D:Ends),Inv X pins a H s->t D a H->wpAny (model X.prog X.w) X.A (exec st X.env) (SP X pins D) X.xe s
def Te (X:Cx) (st:List Stmt) (t:TS):Prop:=
 ∀(pins:List (Addr×Obj)) (s:Shared) (a:St) (H:Hp) (D:Ends),Inv X pins a H s->t D a H->wpAny (model X.prog X.w) X.A (execs st X.env) (SP X pins D) X.xe s
theorem BS {b:Type} {t:Sem b} {Q c:b->Shared->Prop} {M:Model} {A:Around} {E:Value->Shared->Prop} {s:Shared} (h:wpAny M A t Q E s) (d:∀a s,Q a s->c a s):wpAny M A t c E s:=wpAny_mono h d fun _ _ x=>x
section
variable{X:Cx}
inductive aG (i:Nat) (a:St) (H:Hp) (Q:VK):Prop
 |mk (v:_) (b:a[i]?=some (some v)) (c:Q v H):aG i a H Q
def Ga (i:Nat):TE:=fun a H Q=>aG i a H Q
def tC (v:V):TE:=fun _ H Q=>Q v H
theorem bp {i:Nat} {x:Str} {pos:Pos} (j:X.N[i]?=some x) (k:mE X.env.scope x) (d:(x==("__debug__":Str))=false:=by decide) (f:(x==("__classdict__":Str))=false:=by decide):PE X (.Name x pos) (Ga i):=by
 intro pins s n H Q I h
 obtain⟨v,e,h⟩:=h
 obtain⟨m,o,p⟩:=I.loc
 obtain⟨u,r,l⟩:=p i x v j e k
 have fin:EP X pins n Q u s:=⟨v,H,I,r,h⟩
 rcases l with⟨b,q⟩|⟨b,c,g,a⟩
 ·exact wpAny_Name (wpAny_loadName_local I.ok.kind b o q fin) d
 ·rcases b with b|b
  ·exact wpAny_Name (wpAny_loadName_cell I.ok.kind b g a fin) d
  ·exact wpAny_Name (wpAny_loadName_free I.ok.kind b g a fin f) d
theorem AG {i j pos}:PE X (.Constant (.int i) j pos) (tC (.int i)):=fun _ _ _ H _ I h=>wpAny_Constant_int ⟨.int i,H,I.tok _,⟨_,rfl⟩,h⟩
theorem Gb {b j pos}:PE X (.Constant (.bool b) j pos) (tC (.bl b)):=fun _ _ _ H _ I h=>Constant_bool ⟨.bl b,H,I,rfl,h⟩
theorem CL {j pos}:PE X (.Constant .none j pos) (tC .Av):=fun _ _ _ H _ I h=>Constant_none ⟨.Av,H,I,rfl,h⟩
theorem AR {x j pos}:PE X (.Constant (.str x) j pos) (tC (.str x)):=fun _ _ _ H _ I h=>Calls.Constant_str ⟨.str x,H,I.tok _,⟨_,rfl⟩,h⟩
def Gl (X:Cx) (x:Str):Prop:=X.env.kindOf x=some .globalImplicit
theorem RZ {E:Value->Shared->Prop} {pins:List (Addr×Obj)} {s:Shared} {a:St} {H:Hp} {x:Str} {u:Value} {pos:Pos} {Q:Value->Shared->Prop} (I:Inv X pins a H s) (b:Gl X x) (c:X.mg x=some u) (h:Q u s)
  (d:(x==("__debug__":Str))=false:=by decide):wpAny (model X.prog X.w) X.A (eval (.Name x pos) X.env) Q E s:=
 Calls.Name_function_global I.ok.kind b (Calls.loadGlobal_global (by rw[I.ok.glob];exact I.mod.glob.keeps I.bk) c h) d
theorem El {E:Value->Shared->Prop} {pins:List (Addr×Obj)} {s:Shared} {a:St} {H:Hp} {x:Str} {u:Value} {pos:Pos} {Q:Value->Shared->Prop} (I:Inv X pins a H s) (b:Gl X x) (c:X.mg x=none) (d:bootBuiltins x=some u) (h:Q u s)
  (e:x≠"__name__":=by decide) (f:(x==("__debug__":Str))=false:=by decide):wpAny (model X.prog X.w) X.A (eval (.Name x pos) X.env) Q E s:=by
 obtain⟨j,g,i⟩:=I.mod.blt
 exact Calls.Name_function_global I.ok.kind b (Calls.loadGlobal_builtin (by rw[I.ok.glob];exact I.mod.glob.keeps I.bk) c (by rw[I.ok.blt];exact g.keeps I.bk) ((i x e).trans d) h) f
theorem I_ {x:Str} {v:V} {u:Value} {pos:Pos} (a:Gl X x) (b:X.mg x=some u) (r:RelV v u) (c:(x==("__debug__":Str))=false:=by decide):PE X (.Name x pos) (tC v):=
 fun _ _ _ H _ I h=>RZ I a b ⟨v,H,I,r,h⟩ c
theorem Bv {x:Str} {v:V} {u:Value} {pos:Pos} (a:Gl X x) (b:X.mg x=none) (c:bootBuiltins x=some u) (r:RelV v u) (d:x≠"__name__":=by decide) (e:(x==("__debug__":Str))=false:=by decide):PE X (.Name x pos) (tC v):=
 fun _ _ _ H _ I h=>El I a b c ⟨v,H,I,r,h⟩ d e
variable{a b:Expr} {ta tb:TE} {pos:Pos}
def PC (X:Cx) (op:CmpOp) (a b:Expr) (t:TE):Prop:=
 ∀(pins:List (Addr×Obj)) (s:Shared) (e:St) (H:Hp) (Q:VK),Inv X pins e H s->t e H Q->
  wpAny (model X.prog X.w) X.A (eval a X.env) (fun v c=>wpAny (model X.prog X.w) X.A (eval b X.env) (fun u d=>wpAny (model X.prog X.w) X.A (compareOp op v u) (EP X pins e Q) X.xe d) X.xe c) X.xe s
def tB (t:TE):TT:=fun c H Q=>t c H fun x d=>ng x d Q
theorem VC {op:CmpOp} {t:TE} (h:PC X op a b t) (d:behindInMarks op b=false:=by first|exact c _ (by decide) (by decide)|rfl):PE X (.Compare a [op] [b] pos) t:=fun pins s e H Q I hw=>wpAny_Compare1 (h pins s e H Q I hw) d
theorem QE {op:CmpOp} {t:TE} (h:PC X op a b t) (f:behindInMarks op b=false:=by first|exact e _ (by decide) (by decide)|rfl):PT X (.Compare a [op] [b] pos) (tB t):=by
 intro pins s g H Q I hw
 refine wpAny_isTrue_Compare1 (BS (h pins s g H _ I hw) fun v o f=>BS f fun u p i=>BS i fun c r j=>j.elim fun x k l m n=>?_) f
 obtain⟨d,rfl,q⟩:=n
 cases m
 exact wpAny_truthy_bool ⟨k,l,q⟩
theorem Bd {e:Expr} {t:TE} (h:PE X e t) (c:∀whole,isTrue e X.env whole=(do let v<-whole;standAt e.pos;holding [v] (truthy v)):=by intro _;rfl):PT X e (tB t):=by
 intro pins s f H Q I hw
 refine isTrue_plain (BS (h pins s f H _ I hw) fun v m g=>g.elim fun x i j k l=>?_) (c _)
 obtain⟨d,rfl,q⟩:=l
 cases k
 exact wpAny_truthy_bool ⟨i,j,q⟩
variable{tA mH:TT} {rest:List Expr}
def nj (t u:TT):TT:=fun d H Q=>t d H fun c e=>if c=true then u d e Q else Q false e
def tOr (t u:TT):TT:=fun d H Q=>t d H fun c e=>if c=true then Q true e else u d e Q
def nq (t:TT):TT:=fun d H Q=>t d H fun c e=>Q (!c) e
theorem pw_and1 (d:PT X a tA):PW X (.BoolOp .And [a] pos) tA:=by
 intro g pins s f H Q I h
 refine isTrue_and (BS (d pins s f H Q I h) fun c i e=>?_)
 cases c with
 |true=>exact isTrue_and_nil e
 |false=>exact e
theorem pw_or1 (d:PT X a tA):PW X (.BoolOp .Or [a] pos) tA:=by
 intro g pins s f H Q I h
 refine isTrue_or (BS (d pins s f H Q I h) fun c i e=>?_)
 cases c with
 |false=>exact isTrue_or_nil e
 |true=>exact e
theorem pw_and (i:PT X a tA) (j:PW X (.BoolOp .And (b::rest) pos) mH):PW X (.BoolOp .And (a::b::rest) pos) (nj tA mH):=by
 intro k pins s d H Q I h
 refine isTrue_and (BS (i pins s d H _ I h) fun c l m=>m.elim fun e f g=>?_)
 cases c with
 |true=>exact j k pins l d e Q f g
 |false=>exact⟨e,f,g⟩
theorem pw_or (i:PT X a tA) (j:PW X (.BoolOp .Or (b::rest) pos) mH):PW X (.BoolOp .Or (a::b::rest) pos) (tOr tA mH):=by
 intro k pins s d H Q I h
 refine isTrue_or (BS (i pins s d H _ I h) fun c l m=>m.elim fun e f g=>?_)
 cases c with
 |true=>exact⟨e,f,g⟩
 |false=>exact j k pins l d e Q f g
theorem MM (e:PT X a tA):PT X (.UnaryOp .Not a pos) (nq tA):=by
 intro pins s f H Q I h
 exact isTrue_not (BS (e pins s f H (fun c d=>Q (!c) d) I h) fun c k g=>g.elim fun d i j=>⟨d,i,j⟩)
def gx (ta tb:TE):TE:=fun c H Q=>ta c H fun x d=>gu tb c x d Q
def gy (ta tb:TE):TE:=fun c H Q=>ta c H fun x d=>zJ tb c x d Q
theorem Em {op} {t:TE} (h:PE X a t):PE X (.BoolOp op [a] pos) t:=fun pins s c H Q I hw=>BoolOp_one (h pins s c H Q I hw)
theorem JT (i:PE X a ta) (j:PE X (.BoolOp .And (b::rest) pos) tb):PE X (.BoolOp .And (a::b::rest) pos) (gx ta tb):=by
 intro pins s e H Q I h
 refine BoolOp_and (BS (i pins s e H _ I h) fun v k l=>l.elim fun x f g m d=>?_)
 obtain⟨c,rfl,d⟩:=d
 cases m
 refine wpAny_truthy_bool ?_
 cases c with
 |true=>exact j pins k e f Q g d
 |false=>exact⟨.bl false,f,g,rfl,d⟩
theorem Nh (i:PE X a ta) (j:PE X (.BoolOp .Or (b::rest) pos) tb):PE X (.BoolOp .Or (a::b::rest) pos) (gy ta tb):=by
 intro pins s e H Q I h
 refine BoolOp_or (BS (i pins s e H _ I h) fun v k l=>l.elim fun x f g m d=>?_)
 obtain⟨c,rfl,d⟩:=d
 cases m
 refine wpAny_truthy_bool ?_
 cases c with
 |false=>exact j pins k e f Q g d
 |true=>exact⟨.bl true,f,g,rfl,d⟩
end
def An (K:AGW) (H:Hp) (a:Addr) (xs:List V):Prop:=
 Rd H a (.lst xs)∨
  ∃(o:Obj) (b:Array Value) (n:Nat),K.lookup a=some o/\o.cls=.type "list"/\o.dict=none/\o.data=.seq b n/\b.size<=sizeLine/\Vals xs b.toList
def Bf (K:AGW) (H:Hp) (a:Addr) (xs:List V):Prop:=
 Rd H a (.tup xs)∨
  ∃(o:Obj) (b:Array Value) (n:Nat),K.lookup a=some o/\o.cls=.type "tuple"/\o.data=.seq b n/\b.size<=sizeLine/\Vals xs b.toList
def nv:Value->Option V
 | .none=>some .Av
 | .bool b=>some (.bl b)
 | .int i _=>some (.int i)
 | .str x _=>some (.str x)
 | .bytes b _=>some (.Nc b)
 | .float b _=>some (.gC b)
 | .ref a=>some (.ref a)
 | .type n=>some (.ty n)
 |_=>none
theorem RelV.abs {x:V} {u:Value} (r:RelV x u):nv u=some x:=by
 cases x with
 |Av=>cases r;rfl
 |bl _=>cases r;rfl
 |int _=>obtain⟨t,rfl⟩:=r;rfl
 |str _=>obtain⟨t,rfl⟩:=r;rfl
 |Nc _=>obtain⟨t,rfl⟩:=r;rfl
 |gC _=>obtain⟨t,rfl⟩:=r;rfl
 |ref _=>cases r;rfl
 |ty _=>cases r;rfl
theorem RelV.inj {x y:V} {u:Value} (r:RelV x u) (q:RelV y u):x=y:=AGU (r.abs.symm.trans q.abs)
theorem Vals.inj {xs ys:List V} {us:List Value} (r:Vals xs us) (s:Vals ys us):xs=ys:=by
 induction r generalizing ys with
 |nil=>exact(List.eq_nil_of_length_eq_zero (Paired.length s)).symm
 |cons a _ b=>
  cases ys with
  |nil=>exact absurd (Paired.length s) (Nat.succ_ne_zero _).symm
  |cons y f=>
   obtain⟨u,g,e,h,t⟩:=Vals.inv s
   injection e with c d
   subst c d
   rw[a.inj h,b t]
section
variable{X:Cx} {pins:List (Addr×Obj)} {σ:St} {H:Hp} {s:Shared} {a:Addr} {xs ys:List V}
theorem An.of {K:AGW} (h:H a=some (.lst xs)):An K H a xs:=.inl (.inl h)
theorem Bf.of {K:AGW} (h:H a=some (.tup xs)):Bf K H a xs:=.inl (.inl h)
theorem Inv.list (I:Inv X pins σ H s) (h:An X.K H a xs):∃its:List Value,Vals xs its/\PlainL s.heap a its.toArray/\xs.length<=sizeLine:=by
 rcases h with h|⟨o,its,n,b,c,d,f,g,r⟩
 ·obtain⟨z,its,n,r,e⟩:=h.ok I.Be
  exact⟨its,r,⟨_,n,e,rfl,rfl,rfl⟩,z⟩
 ·refine⟨its.toList,r,⟨o,n,I.Ky a o b,c,d,by simpa using f⟩,?_⟩
  have e:=r.length
  simp only[Array.length_toList]at e
  lia
theorem Inv.tuple (I:Inv X pins σ H s) (h:Bf X.K H a xs):∃its:List Value,Vals xs its/\IsTup s.heap a its.toArray/\xs.length<=sizeLine:=by
 rcases h with h|⟨o,its,n,b,c,d,f,r⟩
 ·obtain⟨z,its,r,p⟩:=h.ok I.Be
  exact⟨its,r,p,z⟩
 ·refine⟨its.toList,r,⟨o,I.Ky a o b,c,n,by simpa using d⟩,?_⟩
  have e:=r.length
  simp only[Array.length_toList]at e
  lia
theorem Inv.Ni (I:Inv X pins σ H s) (h:An X.K H a xs) (h':An X.K H a ys):xs=ys:=by
 obtain⟨c,r,⟨o,n,e,_,_,d⟩,_⟩:=I.list h
 obtain⟨b,i,⟨k,l,f,_,_,g⟩,_⟩:=I.list h'
 rw[e]at f;cases f
 rw[d]at g
 injection g with j _
 have:c=b:=by simpa using congrArg Array.toList j
 subst this
 exact r.inj i
theorem Inv.Tf (I:Inv X pins σ H s) (h:Bf X.K H a xs) (h':Bf X.K H a ys):xs=ys:=by
 obtain⟨c,r,⟨o,e,_,n,d⟩,_⟩:=I.tuple h
 obtain⟨b,i,⟨k,f,_,l,g⟩,_⟩:=I.tuple h'
 rw[e]at f;cases f
 rw[d]at g
 injection g with j _
 have:c=b:=by simpa using congrArg Array.toList j
 subst this
 exact r.inj i
end
abbrev Cx.Kz (X:Cx) (E:Value->Shared->Prop):Cx:={X with xe:=E}
abbrev Cx.mJ (X:Cx):Cx:=X.Kz fun _ _=>False
theorem Cx.Ok.Kz {X:Cx} (ok:X.Ok) (E:Value->Shared->Prop):(X.Kz E).Ok:=
 ⟨ok.mod,ok.kind,ok.glob,ok.blt,ok.above,ok.inj,ok.has,ok.gp,ok.hd,ok.frames,ok.mF,ok.gD,ok.bs,ok.Xx,ok.Tc,ok.Td,ok.JS,ok.gE⟩
theorem Cx.Ok.FK {X:Cx} {E:Value->Shared->Prop} (ok:(X.Kz E).Ok):X.Ok:=
 ⟨ok.mod,ok.kind,ok.glob,ok.blt,ok.above,ok.inj,ok.has,ok.gp,ok.hd,ok.frames,ok.mF,ok.gD,ok.bs,ok.Xx,ok.Tc,ok.Td,ok.JS,ok.gE⟩
section
variable{X:Cx} {pins:List (Addr×Obj)} {σ:St} {H:Hp} {s:Shared} {E:Value->Shared->Prop}
theorem Inv.Kz (I:Inv X pins σ H s) (E:Value->Shared->Prop):Inv (X.Kz E) pins σ H s:=⟨I.ok.Kz E,I.os,I.bare,I.base,I.loc,I.cell,I.free,I.EV,I.pin,I.Be,I.len⟩
theorem Inv.FK (I:Inv (X.Kz E) pins σ H s):Inv X pins σ H s:=⟨I.ok.FK,I.os,I.bare,I.base,I.loc,I.cell,I.free,I.EV,I.pin,I.Be,I.len⟩
theorem SP.FK {D:Ends} {f:Flow} {c:Shared} (h:SP (X.Kz E) pins D f c):SP X pins D f c:=by
 cases f with
 |next=>obtain⟨a,b,I,q⟩:=h;exact⟨a,b,I.FK,q⟩
 |brk=>obtain⟨a,b,I,q⟩:=h;exact⟨a,b,I.FK,q⟩
 |cont=>obtain⟨a,b,I,q⟩:=h;exact⟨a,b,I.FK,q⟩
 |ret u=>obtain⟨v,a,b,I,r,q⟩:=h;exact⟨v,a,b,I.FK,r,q⟩
theorem Te.mJ {st:List Stmt} {t:TS} (h:Te X.mJ st t):Te X st t:=fun pins s σ H D I hw=>
 wpAny_mono (h pins s σ H D (I.Kz _) hw) (fun _ _ q=>q.FK) fun _ _ z=>False.elim z
end
section
variable{X:Cx} {st:Stmt} {rest:List Stmt} {t u:TS} {e:Expr} {te:TE} {pos:Pos}
def aH:TS:=fun D a H=>D.nx a H
def QF (t u:TS):TS:=fun D a H=>t {D with nx:=u D} a H
theorem AV:Te X [] aH:=fun _ _ a H _ I h=>wpAny_execs_nil ⟨a,H,I,h⟩
theorem AD (b:PS X st t) (c:Te X rest u):Te X (st::rest) (QF t u):=by
 intro pins s d H D I h
 refine wpAny_execs_cons (BS (b pins s d H {D with nx:=u D} I h) fun f g q=>?_)
 cases f with
 |next=>
  obtain⟨a,i,j,q⟩:=q
  exact c pins g a i D j q
 |ret v=>exact q
 |brk=>exact q
 |cont=>exact q
theorem AH (a:PS X st t):Te X [st] t:=by
 intro pins s b H D I h
 refine wpAny_execs_cons (BS (a pins s b H D I h) fun f c q=>?_)
 cases f with
 |next=>exact wpAny_execs_nil q
 |ret v=>exact q
 |brk=>exact q
 |cont=>exact q
theorem Inv.quiet {pins:List (Addr×Obj)} {a:St} {H:Hp} {s:Shared} (I:Inv X pins a H s):interactive X.env=false:=by simp[interactive,I.ok.kind]
def g_ (te:TE):TS:=fun D a H=>te a H fun _ b=>D.nx a b
theorem DL (b:PE X e te) (c:swapsWith e none pos.line X.env=pure false:=by rfl):PS X (.Expr e pos) (g_ te):=by
 intro pins s a H D I h
 exact wpAny_Expr_any (BS (b pins s a H _ I h) fun v j d=>d.elim fun x f g k i=>⟨a,f,g,i⟩) I.quiet c
def ny (te:TE):TS:=fun D a H=>te a H D.rt
theorem AQ (b:PE X e te):PS X (.Return (some e) pos) (ny te):=by
 intro pins s a H D I h
 exact wpAny_Return_some (BS (b pins s a H _ I h) fun v j c=>c.elim fun x d f g i=>⟨x,a,d,f,g,i⟩)
def MN (c:TT) (t u:TS):TS:=fun D a H=>c a H fun b d=>if b=true then t D a d else u D a d
theorem Ap {c:Expr} {a b:List Stmt} {g:TT} (m:PT X c g) (n:Te X a t) (o:Te X b u):PS X (.If c a b pos) (MN g t u):=by
 intro pins s f H D I h
 refine wpAny_If (BS (m pins s f H _ I h) fun d i p=>p.elim fun j k l=>?_)
 cases d with
 |true=>exact n pins i f j D k l
 |false=>exact o pins i f j D k l
end
abbrev TG:=V->St->Hp->(St->Hp->Prop)->Prop
abbrev YE:=List V->St->Hp->(St->Hp->Prop)->Prop
def PG (X:Cx) (target:Expr) (t:TG):Prop:=
 ∀(pins:List (Addr×Obj)) (s:Shared) (b:St) (H:Hp) (v:V) (u:Value) (Q:St->Hp->Prop),Inv X pins b H s->RelV v u->t v b H Q->
  wpAny (model X.prog X.w) X.A (assign target X.env u) (fun _ d=>∃a c,Inv X pins a c d/\Q a c) X.xe s
def mK (X:Cx) (ts:List Expr) (t:YE):Prop:=
 ∀(pins:List (Addr×Obj)) (s:Shared) (b:St) (H:Hp) (c:List V) (d:List Value) (Q:St->Hp->Prop),Inv X pins b H s->Vals c d->t c b H Q->
  wpAny (model X.prog X.w) X.A (assignInOrder ((assignEach ts X.env).map (·.2)) d) (fun _ f=>∃a e,Inv X pins a e f/\Q a e) X.xe s
abbrev bq:=V->V->V->Hp->(Hp->Prop)->Prop
def hC (X:Cx) (t:bq):Prop:=
 ∀(pins:List (Addr×Obj)) (s:Shared) (a:St) (H:Hp) (o i v:V) (ov b u:Value) (Q:Hp->Prop),Inv X pins a H s->RelV o ov->RelV i b->RelV v u->t o i v H Q->
  wpAny (model X.prog X.w) X.A (setItem ov b u) (fun _ d=>∃c,Inv X pins a c d/\Q c) X.xe s
abbrev TIp:=V->V->Hp->VK->Prop
section
variable{X:Cx} {pos:Pos}
def BP (i:Nat):TG:=fun v a H Q=>Q (a.set i (some v)) H
theorem Gd {i:Nat} {x:Str} (a:X.N.Nodup) (b:X.N[i]?=some x) (c:Loc X.env.scope x) (d:X.fn x=true∨X.env.scope.names.lookup x=some .local:=by first|exact .inl rfl|exact .inr rfl|assumption):PG X (.Name x pos) (BP i):=by
 intro pins s f H v u Q I r h
 exact wpAny_assign_Name (Ng I a b c r (fun g e=>⟨_,H,e,h⟩) d)
def hF:YE:=fun a b H Q=>a=[]/\Q b H
inductive VD (t:TG) (u:YE) (vs:List V) (b:St) (H:Hp) (Q:(St->Hp->Prop)):Prop
 |mk (v:_) (r:_) (c:vs=v::r) (d:t v b H fun a H'=>u r a H' Q):VD t u vs b H Q
def VE (t:TG) (u:YE):YE:=fun a b H Q=>VD t u a b H Q
theorem MO:mK X [] hF:=by
 intro pins s a H b c Q I r h
 obtain⟨e,h⟩:=h
 subst e
 cases r
 exact assignInOrder_nil ⟨a,H,I,h⟩
theorem EW {e:Expr} {a:List Expr} {t:TG} {u:YE} (c:PG X e t) (d:mK X a u)
  (f:(assignEach (e::a) X.env).map (·.2)=assign e X.env::(assignEach a X.env).map (·.2):=by rfl):mK X (e::a) (VE t u):=by
 intro pins s g H o p Q I r h
 obtain⟨v,q,i,h⟩:=h
 subst i
 cases r with
 |cons r j=>
  rw[f]
  refine assignInOrder_cons (BS (c pins s g H _ _ _ I r h) fun _ k ⟨b,l,m,n⟩=>?_)
  exact d pins k b l _ _ Q m j n
inductive aJ (K:AGW) (n:Nat) (t:YE) (v:V) (b:St) (H:Hp) (Q:(St->Hp->Prop)):Prop
 |mk (a:_) (xs:_) (c:v=.ref a) (d:Bf K H a xs) (e:xs.length=n) (f:t xs b H Q):aJ K n t v b H Q
def hG (K:AGW) (n:Nat) (t:YE):TG:=fun v a H Q=>aJ K n t v a H Q
theorem QG {c:List Expr} {k:Nat} {t:YE} {n:Nat} (i:X.calm=true) (h:mK X c t)
  (j:(assignEach c X.env).length=n:=by rfl) (d:(assignEach c X.env).findIdx? (·.1)=none:=by rfl):PG X (.Tuple c k pos) (hG X.K n t):=by
 intro pins s f H v u Q I r hw
 obtain⟨a,l,m,p,q,hw⟩:=hw
 subst m
 cases r
 obtain⟨w,g,x,B⟩:=I.tuple p
 refine assign_Tuple_tuple (I.ok.hd i) x (by simp[j,<-q,g.length]) d fun y z=>?_
 have A:Inv X pins f H {s with heap:=y}:=I.kept (t':=s.toks) fun b o e=>z b o (Nat.ne_of_lt (Heap.lt_size e)) e
 exact h pins _ f H l _ Q A (by simpa using g) hw
def n_ (b c:TE) (t:bq):TG:=fun v a H Q=>b a H fun o d=>c a d fun i e=>t o i v e fun f=>Q a f
theorem VF {o i:Expr} {d e:TE} {t:bq} (f:PE X o d) (g:PE X i e) (j:hC X t)
  (k:∀v,assign (.Subscript o i pos) X.env v=(do
   let ov<-holding [v] (eval o X.env)
   let a<-holding [v,ov] (eval i X.env)
   standAt pos
   holding [v,ov,a] (setItem ov a v)
   release [v,ov,a] []):=by intro _;rfl):PG X (.Subscript o i pos) (n_ d e t):=by
 intro pins s b H v u Q I r h
 rw[k]
 refine wpAny_bind (wpAny_holding (BS (f pins s b H _ I h) fun ov l c=>c.elim fun x m n p q=>?_))
 refine wpAny_bind (wpAny_holding (BS (g pins l b m _ n q) fun a w c=>c.elim fun y z A B C=>?_))
 refine wpAny_bind (wpAny_standAt (wpAny_bind (wpAny_holding (BS (j pins w b z x y v ov a u _ A p B r C) fun _ G ⟨D,E,F⟩=>?_))))
 exact wpAny_release ⟨b,D,E,F⟩
def QH (b:TE) (g:TG):TS:=fun D a H=>b a H fun x c=>g x a c D.nx
theorem QI {a e:Expr} {c:TE} {g:TG} (f:PE X e c) (i:PG X a g) (j:swapsWithSole [a] e pos.line X.env=pure false:=by rfl) (hw:swappedStores [a] e X.env=pure none:=by rfl)
  (k:(assignEach [a] X.env).map (·.2)=[assign a X.env]:=by rfl):PS X (.Assign [a] e pos) (QH c g):=by
 intro pins s d H D I h
 refine wpAny_Assign_stores (BS (f pins s d H _ I h) fun v l m=>m.elim fun x n o p q=>?_) j hw
 rw[k]
 exact BS (i pins l d n x v _ o p q) fun _ w ⟨b,r,t,u⟩=>⟨b,r,t,u⟩
theorem En {i:Nat} {x:Str} {e:Expr} {a:TE} {pos':Pos} (b:X.N.Nodup) (c:X.N[i]?=some x) (d:Loc X.env.scope x) (f:PE X e a) (g:swapsWith e (some (.Name x pos')) pos.line X.env=pure false:=by rfl) (j:X.fn x=true∨X.env.scope.names.lookup x=some .local:=by first|exact .inl rfl|exact .inr rfl|assumption):
  PS X (.Assign [.Name x pos'] e pos) (QH a (BP i)):=by
 intro pins s k H D I h
 refine wpAny_Assign_Name (BS (f pins s k H _ I h) fun v r l=>l.elim fun y m n o p=>?_) g
 exact Ng n b c d o (fun t q=>⟨_,m,q,p⟩) j
inductive hJ (i:Nat) (b:TE) (c:TIp) (D:Ends) (a:St) (H:Hp):Prop
 |mk (x:_) (e:a[i]?=some (some x)) (f:b a H fun y d=>c x y d fun z H2=>D.nx (a.set i (some z)) H2):hJ i b c D a H
inductive oA (f:Int->Int->Int) (x:V) (y:V) (H:Hp) (Q:VK):Prop
 |mk (i:_) (j:_) (a:x=.int i) (b:y=.int j) (c:Q (.int (f i j)) H):oA f x y H Q
end
section
variable{X:Cx} {pos:Pos}
inductive Ra (c:TT) (e:TS) (D:Ends) (a:St) (H:Hp):Prop
 |mk (W:Nat->St->Hp->Prop) (h:(∃m,W m a H)) (i:∀m a H,W m a H->c a H fun b f=>if b=true then∃N:St->Hp->Prop,(∀d H',N d H'->∃g,g<m/\W g d H')/\e {D with nx:=N,ct:=N,bk:=D.nx} a f else D.nx a f):Ra c e D a H
def VG (c:TT) (a:TS):TS:=fun D b H=>Ra c a D b H
theorem Nj {c:Expr} {body:List Stmt} {q:TT} {r:TS} (t:PassesOwn (model X.prog X.w) X.A X.env X.xe) (C:PT X c q) (E:Te X body r):PS X (.While c body [] pos) (VG q r):=by
 intro pins s F H D I h
 obtain⟨W,⟨G,J⟩,turn⟩:=h
 refine wpAny_While (codeAny_whileLoop (fun n K=>∃e u,Inv X pins e u K/\W n e u) ?_ G ⟨F,H,I,J⟩)
 rintro n L ⟨d,x,M,O⟩
 refine wpAny_passesOwn t (BS (C pins L d x _ M (turn n d x O)) fun b P Q=>Q.elim fun y z i=>?_)
 cases b with
 |true=>
  obtain⟨N,B,i⟩:=i
  rw[if_pos rfl]
  refine wpAny_passesOwn t (BS (E pins P d y _ z i) fun f R j=>?_)
  cases f with
  |next=>
   obtain⟨a,g,k,l⟩:=j
   obtain⟨m,o,p⟩:=B a g l
   exact⟨m,o,a,g,k,p⟩
  |cont=>
   obtain⟨a,g,k,l⟩:=j
   obtain⟨m,o,p⟩:=B a g l
   exact⟨m,o,a,g,k,p⟩
  |brk=>exact j
  |ret v=>exact j
 |false=>
  rw[if_neg Bool.false_ne_true]
  exact wpAny_execs_nil ⟨d,y,z,i⟩
end
structure It where
 go:Nat->Hp->Prop
 NX:Nat->Hp->V->Hp->Prop
 stop:Nat->Hp->Prop
def FJ (X:Cx) (pins:List (Addr×Obj)) (H:Hp) (b:Addr):Prop:=
 H b=none/\b≠X.env.locals/\b∉X.fs/\(b∈X.ex∨X.s₀.heap.objs.size<=b)/\(∀x c,X.env.cells.lookup x=some c->c≠b)/\∀p∈X.pn++pins,p.1≠b
theorem Inv.Nk {X:Cx} {pins:List (Addr×Obj)} {d:St} {H H':Hp} {s:Shared} {b:Addr} (I:Inv X pins d H s) (a:s.heap.objs.size<=b) (f:H' b=none):FJ X pins H' b:=by
 refine⟨f,Nat.ne_of_gt (Nat.lt_of_lt_of_le I.lt a),I.nc a,.inr (Nat.le_trans I.sz a),fun x c e z=>?_,fun p g z=>?_⟩
 ·obtain⟨v,q⟩:=I.cell x c e
  exact absurd (Nat.lt_of_lt_of_le q.lt (by rw[z];exact a)) (Nat.lt_irrefl _)
 ·exact absurd (Nat.lt_of_lt_of_le (Heap.lt_size (I.pin p g).1) (by rw[z];exact a)) (Nat.lt_irrefl _)
structure Turn (P:Program) (w:World) (K:AGW) (tg:Expr) (J:It) (fp:List Addr) (it:Addr) (tn:Nat->Heap->Prop):Prop where
 mem:it∈fp
 obj:∀i h,tn i h->∀b∈fp,∃o,h.get? b=some o/\∀v,o.data≠.cell v
 keep:∀i h h',tn i h->(∀b∈fp,∀o,h.get? b=some o->h'.get? b=some o)->tn i h'
 item:∀(X:Cx),X.prog=P->X.w=w->X.K=K->X.calm=true->∀(i:Nat) (pins:List (Addr×Obj)) (s:Shared) (σ:St) (H:Hp) (E:Value->Shared->Prop),Inv X pins σ H s->(∀b∈fp,FJ X pins H b)->tn i s.heap->J.go i H->
  wpAny (model P w) X.A (pyNext (.ref it)) (fun r s1=>∃u,r=some u/\
   wpAny (model P w) X.A (letOwnedTupleGo tg (.ref it) u) (fun _ s2=>∃x H',Inv X pins σ H' s2/\RelV x u/\J.NX i H x H'/\tn (i+1) s2.heap/\∀b∈fp,H' b=none) E s1) E s
 done:∀(X:Cx),X.prog=P->X.w=w->X.K=K->X.calm=true->∀(i:Nat) (pins:List (Addr×Obj)) (s:Shared) (σ:St) (H:Hp) (E:Value->Shared->Prop),Inv X pins σ H s->(∀b∈fp,FJ X pins H b)->tn i s.heap->J.stop i H->
  wpAny (model P w) X.A (pyNext (.ref it)) (fun r s1=>r=none/\Inv X pins σ H s1) E s
 self:∀(A:Around) (i:Nat) (s:Shared) (Q:Value->Shared->Prop) (E:Value->Shared->Prop),tn i s.heap->Q (.ref it) s->wpAny (model P w) A (pyIter (.ref it)) Q E s
abbrev TI:=St->Hp->(It->Hp->Prop)->Prop
inductive mL (X:Cx) (pins:List (Addr×Obj)) (d:St) (g:Expr) (R:It->Hp->Prop) (a:Value) (c:Shared):Prop
 |mk (h:Addr) (i:List Addr) (j:Nat->Heap->Prop) (J:It) (H':Hp) (e:a=.ref h) (I:Inv X pins d H' c) (t:Turn X.prog X.w X.K g J i h j) (z:j 0 c.heap) (f:∀b∈i,FJ X pins H' b) (q:R J H'):mL X pins d g R a c
def PI (X:Cx) (b iter:Expr) (c:TI):Prop:=
 ∀(pins:List (Addr×Obj)) (s:Shared) (a:St) (H:Hp) (R:It->Hp->Prop),Inv X pins a H s->c a H R->
  wpAny (model X.prog X.w) X.A (eval iter X.env) (fun v d=>wpAny (model X.prog X.w) X.A (pyIter v) (mL X pins a b R) X.xe d) X.xe s
theorem LQ {M:Model} {A:Around} {E:Value->Shared->Prop} {s:Shared} {b:Expr} {c:Addr} {u:Value} {o:Obj} {n:String} {vs:Array Value} {Q:Unit->Shared->Prop} (d:s.heap.get? c=some o) (e:o.cls=.type n) (f:o.data=.fields vs)
  (g:["enumerate","zip","dict_itemiterator","dict_reverseitemiterator","odict_iterator","itertools.zip_longest","itertools.pairwise"].contains n=false) (a:Q () s):wpAny M A (letOwnedTupleGo b (.ref c) u) Q E s:=by
 unfold letOwnedTupleGo
 cases b<;>first
  |exact wpAny_pure a
  |(cases u<;>first
    |exact wpAny_pure a
    |(refine wpAny_bind (wpAny_load d ?_)
      rw[e,f]
      show wpAny M A (if(["enumerate","zip","dict_itemiterator","dict_reverseitemiterator","odict_iterator","itertools.zip_longest","itertools.pairwise"].contains n&&vs[0]?==some (rawInt _))=true then _ else _) Q E s
      rw[if_neg (by intro h;rw[g,Bool.false_and]at h;cases h)]
      exact wpAny_pure a))
def gF (K:AGW) (a:Addr):It:=
 ⟨fun i H=>∃b x,An K H a b/\b[i]?=some x,fun i H x c=>c=H/\∀b,An K H a b->b[i]?=some x,fun i H=>∃b,An K H a b/\b.length<=i⟩
def hR (K:AGW) (a:Addr):It:=
 ⟨fun i H=>∃b x,Bf K H a b/\b[i]?=some x,fun i H x c=>c=H/\∀b,Bf K H a b->b[i]?=some x,fun i H=>∃b,Bf K H a b/\b.length<=i⟩
def gH (lo:Int) (n:Nat):It:=⟨fun i _=>i<n,fun i H x a=>a=H/\x=.int (lo+i),fun i _=>n<=i⟩
theorem Tg {P:Program} {w:World} {K:AGW} {tg:Expr} (a it:Addr):Turn P w K tg (gF K a) [it] it (fun i h=>h.IsListIter it a i)where
 mem:=by simp
 obj:=fun i h st b hb=>by
  have e:b=it:=by simpa using hb
  subst e
  obtain⟨o,e,c,d⟩:=st
  exact⟨o,e,fun v z=>by rw[d]at z;cases z⟩
 keep:=fun i h h' st k=>st.at fun o e=>k it (by simp) o e
 item:=by
  intro X hP hw hK hc i pins s σ H E I hf st hg
  subst hP hw hK
  obtain⟨xs,x,hq,hx⟩:=hg
  obtain⟨its,rv,p,hz⟩:=I.list hq
  obtain⟨u,hu,ru⟩:=rv.get hx
  obtain⟨f0,f1,f2,f3,f4,f5⟩:=hf it (by simp)
  refine wpAny_pyNext_list_item st p.isList (x:=u) (by simpa using hu) fun h' NY sb=>?_
  have I1:Inv X pins σ H {s with heap:=h'}:=I.turned (t':=s.toks) (fun b o hb e=>(sb.2 b hb).trans e) f0 f1 f3 f4 f5
  obtain⟨o,e,c,d⟩:=id NY
  exact⟨u,rfl,LQ (s:={s with heap:=h'}) e c d (by decide) ⟨x,H,I1,ru,⟨rfl,fun ys hy=>by rw[I.Ni hy hq];exact hx⟩,NY,fun b hb=>(hf b hb).1⟩⟩
 done:=by
  intro X hP hw hK hc i pins s σ H E I hf st hg
  subst hP hw hK
  obtain⟨xs,hq,hx⟩:=hg
  obtain⟨its,rv,p,hz⟩:=I.list hq
  obtain⟨f0,f1,f2,f3,f4,f5⟩:=hf it (by simp)
  have hl:=rv.length
  exact wpAny_pyNext_list_end (I.ok.hd hc) st p.isList (by simp;lia) fun h' eb=>⟨rfl,I.turned (t':=s.toks) (fun b o hb e=>eb b o hb e) f0 f1 f3 f4 f5⟩
 self:=fun _ _ _ _ _ st h=>wpAny_pyIter_listiter st h
theorem QJ {P:Program} {w:World} {K:AGW} {tg:Expr} (a it:Addr):Turn P w K tg (hR K a) [it] it (fun i h=>h.IsTupleIter it a i)where
 mem:=by simp
 obj:=fun i h st b hb=>by
  have e:b=it:=by simpa using hb
  subst e
  obtain⟨o,e,c,d⟩:=st
  exact⟨o,e,fun v z=>by rw[d]at z;cases z⟩
 keep:=fun i h h' st k=>st.at fun o e=>k it (by simp) o e
 item:=by
  intro X hP hw hK hc i pins s σ H E I hf st hg
  subst hP hw hK
  obtain⟨xs,x,hq,hx⟩:=hg
  obtain⟨its,rv,p,hz⟩:=I.tuple hq
  obtain⟨u,hu,ru⟩:=rv.get hx
  obtain⟨f0,f1,f2,f3,f4,f5⟩:=hf it (by simp)
  refine wpAny_pyNext_tuple_item st (show s.heap.IsTuple a its.toArray from p) (x:=u) (by simpa using hu) fun h' NY sb=>?_
  have I1:Inv X pins σ H {s with heap:=h'}:=I.turned (t':=s.toks) (fun b o hb e=>(sb.2 b hb).trans e) f0 f1 f3 f4 f5
  obtain⟨o,e,c,d⟩:=id NY
  exact⟨u,rfl,LQ (s:={s with heap:=h'}) e c d (by decide) ⟨x,H,I1,ru,⟨rfl,fun ys hy=>by rw[I.Tf hy hq];exact hx⟩,NY,fun b hb=>(hf b hb).1⟩⟩
 done:=by
  intro X hP hw hK hc i pins s σ H E I hf st hg
  subst hP hw hK
  obtain⟨xs,hq,hx⟩:=hg
  obtain⟨its,rv,p,hz⟩:=I.tuple hq
  obtain⟨f0,f1,f2,f3,f4,f5⟩:=hf it (by simp)
  have hl:=rv.length
  exact wpAny_pyNext_tuple_end (I.ok.hd hc) st (show s.heap.IsTuple a its.toArray from p) (by simp;lia) fun h' eb=>⟨rfl,I.turned (t':=s.toks) (fun b o hb e=>eb b o hb e) f0 f1 f3 f4 f5⟩
 self:=fun _ _ _ _ _ st h=>wpAny_pyIter_tupleiter st h
theorem QK {P:Program} {w:World} {K:AGW} {tg:Expr} (it:Addr) (lo:Int) (n:Nat):Turn P w K tg (gH lo n) [it] it (fun i h=>IsRangeIter h it (lo+(i:Nat)*1) ((n:Int)-(i:Nat)) 1)where
 mem:=by simp
 obj:=fun i h st b hb=>by
  have e:b=it:=by simpa using hb
  subst e
  exact⟨_,st,fun v z=>by
   have z':Data.fields _=Data.cell v:=z
   cases z'⟩
 keep:=fun i h h' st k=>k it (by simp) _ st
 item:=by
  intro X hP hw hK hc i pins s σ H E I hf st hg
  subst hP hw hK
  obtain⟨f0,f1,f2,f3,f4,f5⟩:=hf it (by simp)
  have W:=Walks.range (prog:=X.prog) (w:=X.w) (I.ok.hd hc) it lo 1 n
  refine W.item i s _ _ hg st fun v h' tk hv NY kk=>?_
  obtain⟨t,rfl⟩:=hv
  have I1:Inv X pins σ H {s with heap:=h',toks:=tk}:=I.turned (fun b o hb e=>kk b o (by simpa using hb) e) f0 f1 f3 f4 f5
  refine⟨_,rfl,LQ (s:={s with heap:=h',toks:=tk}) (n:="range_iterator") NY rfl rfl (by decide) ⟨.int (lo+i),H,I1,⟨t,?_⟩,⟨rfl,rfl⟩,NY,fun b hb=>(hf b hb).1⟩⟩
  rw[Int.mul_one]
 done:=by
  intro X hP hw hK hc i pins s σ H E I hf st hg
  subst hP hw hK
  obtain⟨f0,f1,f2,f3,f4,f5⟩:=hf it (by simp)
  exact wpAny_pyNext_range_end (I.ok.hd hc) st (by have:n<=i:=hg;lia) fun h' eb=>⟨rfl,I.turned (t':=s.toks) (fun b o hb e=>eb b o hb e) f0 f1 f3 f4 f5⟩
 self:=fun _ _ _ _ _ st h=>wpAny_pyIter_rangeiter st h
section
variable{X:Cx} {tg:Expr}
def aK (K:AGW) (tl:TE):TI:=fun c H R=>tl c H fun x b=>∃a,x=.ref a/\(∃d,An K b a d)/\R (gF K a) b
def oB (K:AGW) (tl:TE):TI:=fun c H R=>tl c H fun x b=>∃a,x=.ref a/\(∃d,Bf K b a d)/\R (hR K a) b
theorem Bg {l:Expr} {tl:TE} (hl:PE X l tl):PI X tg l (aK X.K tl):=by
 intro pins s f H R I h
 refine BS (hl pins s f H _ I h) fun v c g=>g.elim fun x i d j k=>?_
 obtain⟨a,e,⟨t,m⟩,q⟩:=k
 subst e
 cases j
 obtain⟨n,u,p,w⟩:=d.list m
 refine wpAny_pyIter_list p.isList ?_
 refine⟨c.heap.objs.size,[c.heap.objs.size],_,_,i,rfl,d.kept (t':=c.toks) fun b o e=>Heap.get?_push_of_some _ e,Tg a _,⟨_,Heap.get?_push_size _ rfl,rfl,rfl⟩,fun b r=>?_,q⟩
 have e:b=c.heap.objs.size:=by simpa using r
 subst e
 exact d.Nk (Nat.le_refl _) (d.Be.fresh (Nat.le_refl _))
theorem VH {l:Expr} {tl:TE} (hl:PE X l tl):PI X tg l (oB X.K tl):=by
 intro pins s g H R I h
 refine BS (hl pins s g H _ I h) fun v c i=>i.elim fun x j d k m=>?_
 obtain⟨a,e,⟨t,n⟩,q⟩:=m
 subst e
 cases k
 obtain⟨f,u,p,w⟩:=d.tuple n
 refine wpAny_pyIter_tuple (show c.heap.IsTuple a f.toArray from p) ?_
 refine⟨c.heap.objs.size,[c.heap.objs.size],_,_,j,rfl,d.kept (t':=c.toks) fun b o e=>Heap.get?_push_of_some _ e,QJ a _,⟨_,Heap.get?_push_size _ rfl,rfl,rfl⟩,fun b r=>?_,q⟩
 have e:b=c.heap.objs.size:=by simpa using r
 subst e
 exact d.Nk (Nat.le_refl _) (d.Be.fresh (Nat.le_refl _))
theorem VI {pins:List (Addr×Obj)} {c:St} {H:Hp} {s:Shared} {R:It->Hp->Prop} {E:Value->Shared->Prop} {lo a:Int} {t u v:Tok} {tk:Nat} (I:Inv X pins c H s) (f: -(2 ^ 62)<=lo) (g:lo<2 ^ 62) (h: -(2 ^ 62)<=a) (h4:a<2 ^ 62)
  (q:R (gH lo (a-lo).toNat) H):wpAny (model X.prog X.w) X.A (pyIter (.ref s.heap.objs.size)) (mL X pins c tg R) E {s with heap:=s.heap.push {cls:=.type "range",data:=.fields #[.int lo t,.int a u,.int 1 v]},toks:=tk}:=by
 refine wpAny_pyIter_range (IsRange.new ..) (small_one f g h h4) ?_
 have d:Inv X pins c H {s with heap:=s.heap.push {cls:=.type "range",data:=.fields #[.int lo t,.int a u,.int 1 v]},toks:=tk}:=I.kept fun b o e=>Heap.get?_push_of_some _ e
 refine⟨(s.heap.push {cls:=.type "range",data:=.fields #[.int lo t,.int a u,.int 1 v]}).objs.size,[(s.heap.push {cls:=.type "range",data:=.fields #[.int lo t,.int a u,.int 1 v]}).objs.size],_,_,H,rfl,
  d.kept (t':=tk) fun b o e=>Heap.get?_push_of_some _ e,QK _ lo (a-lo).toNat,?_,fun b i=>?_,q⟩
 ·have j:lo+((0:Nat):Int)*1=lo:=by simp
  have k:(((a-lo).toNat:Nat):Int)-((0:Nat):Int)=Builtin.Range.rangeSize lo a 1:=by rw[rangeSize_one];split<;>lia
  show IsRangeIter _ _ (lo+((0:Nat):Int)*1) ((((a-lo).toNat:Nat):Int)-((0:Nat):Int)) 1
  rw[j,k]
  exact Heap.get?_push_size _ rfl
 ·have e:b=(s.heap.push {cls:=.type "range",data:=.fields #[.int lo t,.int a u,.int 1 v]}).objs.size:=by simpa using i
  subst e
  exact d.Nk (Nat.le_refl _) (d.Be.fresh (Nat.le_refl _))
def hU (a:TA):TI:=fun b H R=>a b H fun c d=>∃j:Int,c=[.int j]/\ -(2 ^ 62)<=j/\j<2 ^ 62/\R (gH 0 j.toNat) d
theorem BJ {a:Expr} {c:TA} {p pos:Pos} (d:Gl X "range") (f:X.mg "range"=none) (g:PA X [a] c) (i:starEach [a] X.env=[(false,eval a X.env)]:=by rfl):PI X tg (.Call (.Name "range" p) [a] [] pos) (hU c):=by
 intro pins s k H R I h
 refine Call_ (El I d f boot_range (PyProof.Rows.callWith_type1 (BS (g pos pins s k H _ I h) fun v w l=>l.elim fun x y m n b=>?_) i rfl))
 obtain⟨j,e,b,o,q⟩:=b
 subst e
 cases n with
 |cons r u=>
  cases u
  obtain⟨t,rfl⟩:=r
  exact call_range_1 (VI m (by lia) (by lia) b o (by simpa using q))
def oC (f:TI) (g:TG) (h:TS):TS:=fun D a H=>f a H fun J j=>∃W:Nat->Nat->St->Hp->Prop,(∃m,W 0 m a j)/\∀i m a H,W i m a H->
 (J.stop i H/\D.nx a H)∨(J.go i H/\∃N:St->Hp->Prop,(∀b c,N b c->∃e,e<m/\W (i+1) e b c)/\∀x c,J.NX i H x c->g x a c fun d k=>h {D with nx:=N,ct:=N,bk:=D.nx} d k)
def HW (a:List Addr) (h:Heap):List (Addr×Obj):=a.filterMap fun b=>(h.get? b).map fun o=>(b,o)
theorem DC {a:List Addr} {h:Heap} {b:Addr} {o:Obj} (c:b∈a) (e:h.get? b=some o):(b,o)∈HW a h:=List.mem_filterMap.mpr ⟨b,c,by rw[e];rfl⟩
theorem Th {a:List Addr} {h:Heap} {p:Addr×Obj} (c:p∈HW a h):p.1∈a/\h.get? p.1=some p.2:=by
 obtain⟨b,d,e⟩:=List.mem_filterMap.mp c
 cases q:h.get? b with
 |none=>rw[q]at e;cases e
 |some o=>
  rw[q]at e
  have f:(b,o)=p:=AGU e
  subst f
  exact⟨d,q⟩
theorem Inv.pinned {pins:List (Addr×Obj)} {c:St} {H:Hp} {s:Shared} {a:List Addr} (I:Inv X pins c H s) (h:∀b∈a,FJ X pins H b) (i:∀b∈a,∃o,s.heap.get? b=some o/\∀v,o.data≠.cell v):Inv X (pins++HW a s.heap) c H s:=
 I.RY fun p j=>(List.mem_append.mp j).elim (fun z=>I.pin p (List.mem_append_right _ z)) fun z=>by
  obtain⟨f,e⟩:=Th z
  obtain⟨k,l,m,_⟩:=h p.1 f
  obtain⟨o,g,d⟩:=i p.1 f
  rw[e]at g;cases g
  exact⟨e,k,l,m,d⟩
theorem Inv.Du {pins pl:List (Addr×Obj)} {a:St} {H:Hp} {s:Shared} (I:Inv X (pins++pl) a H s):Inv X pins a H s:=I.RY fun p b=>I.pin p (List.mem_append_right _ (List.mem_append_left _ b))
theorem CM {iter:Expr} {body:List Stmt} {S:TI} {g:TG} {U:TS} {pos:Pos} (B:PassesOwn (model X.prog X.w) X.A X.env X.xe) (V:X.calm=true) (hi:PI X tg iter S) (hg:PG X tg g) (c:Te X body U)
  (hs:∀x,foldedSetIterable iter X.env x=pure x:=by intro _;rfl):PS X (.For tg iter body [] pos) (oC S g U):=by
 intro pins s Y H D I h
 refine wpAny_For (BS (hi pins s Y H _ I h) fun v s1 h1=>BS h1 fun itv s2 h2=>?_) hs
 obtain⟨it,C,Z,J,H2,e,I2,T,L,f2,W,⟨m0,w0⟩,turn⟩:=h2
 subst e
 have j:∀{t:Hp},(∀b∈C,t b=none)->∀b∈C,FJ X pins t b:=fun hn b c=>⟨hn b c,(f2 b c).2⟩
 refine codeAny_forLoop_any (fun n s'=>∃i k t,Inv X pins k t s'/\Z i s'.heap/\(∀b∈C,t b=none)/\W i n k t) ?_ m0 ⟨0,Y,H2,I2,L,fun b c=>(f2 b c).1,w0⟩
 rintro n s3 ⟨i,l,K,I3,E,F,w3⟩
 rcases turn i n l K w3 with⟨stop,qn⟩|⟨go,N,hN,step⟩
 ·refine wpAny_passesOwn B (BS (T.done X rfl rfl rfl V i pins s3 l K X.xe I3 (j F) E stop) fun r s4 ⟨M,I4⟩=>?_)
  subst M
  exact wpAny_execs_nil ⟨l,K,I4,qn⟩
 ·refine wpAny_passesOwn B (BS (T.item X rfl rfl rfl V i pins s3 l K X.xe I3 (j F) E go) fun r s4 ⟨u,M,h4⟩=>?_)
  subst M
  refine wpAny_passesOwn B (BS h4 fun _ s5 ⟨x,H5,I5,r5,y5,z,O⟩=>?_)
  have P:=I5.pinned (j O) (T.obj _ _ z)
  refine wpAny_passesOwn B (BS (hg _ s5 l H5 x u _ P r5 (step x H5 y5)) fun _ s6 ⟨Q,H6,I6,q6⟩=>?_)
  refine wpAny_passesOwn B (BS (c _ s6 Q H6 _ I6 q6) fun f R y=>?_)
  have again:∀{a:St} {p:Hp},Inv X (pins++HW C s5.heap) a p R->N a p->∃m,m<n/\∃i k t,Inv X pins k t R/\Z i R.heap/\(∀b∈C,t b=none)/\W i m k t:=fun{a p} q G=>by
   obtain⟨m',hm,w7⟩:=hN a p G
   refine⟨m',hm,i+1,a,p,q.Du,T.keep _ _ _ z fun b c o e=>(q.pin (b,o) (List.mem_append_right _ (List.mem_append_right _ (DC c e)))).1,fun b c=>?_,w7⟩
   obtain⟨o,e,d⟩:=T.obj _ _ z b c
   exact(q.pin (b,o) (List.mem_append_right _ (List.mem_append_right _ (DC c e)))).2.1
  cases f with
  |next=>obtain⟨a,p,q,G⟩:=y;exact again q G
  |cont=>obtain⟨a,p,q,G⟩:=y;exact again q G
  |brk=>obtain⟨a,p,q,y⟩:=y;exact⟨a,p,q.Du,y⟩
  |ret v=>obtain⟨x7,a,p,q,r7,y⟩:=y;exact⟨x7,a,p,q.Du,r7,y⟩
end
theorem DQ {K:AGW} {a:Addr} {xs:List V} {g:TG} {j:TS} {D:Ends} {b:St} {H:Hp} (Pv:Nat->St->Hp->Prop) (l:Pv 0 b H) (hl:∀i b H,i<=xs.length->Pv i b H->An K H a xs)
  (n:∀i x b H,xs[i]?=some x->Pv i b H->g x b H fun c H2=>j {D with nx:=Pv (i+1),ct:=Pv (i+1),bk:=D.nx} c H2) (o:∀b H,Pv xs.length b H->D.nx b H):
  ∃W:Nat->Nat->St->Hp->Prop,(∃m,W 0 m b H)/\∀i m b H,W i m b H->
   ((gF K a).stop i H/\D.nx b H)∨((gF K a).go i H/\∃N:St->Hp->Prop,(∀d f,N d f->∃k,k<m/\W (i+1) k d f)/\∀x f,(gF K a).NX i H x f->g x b f fun c H2=>j {D with nx:=N,ct:=N,bk:=D.nx} c H2):=by
 refine⟨fun i m b H=>m=xs.length-i/\i<=xs.length/\Pv i b H,⟨xs.length,by simp,Nat.zero_le _,l⟩,?_⟩
 rintro i m b H ⟨rfl,r,p⟩
 have q:=hl i b H r p
 by_cases h:i<xs.length
 ·refine .inr ⟨⟨xs,xs[i],q,by simp[h]⟩,Pv (i+1),fun d f s=>⟨xs.length-(i+1),by lia,rfl,h,s⟩,fun x f y=>?_⟩
  obtain⟨e,y⟩:=y
  subst e
  exact n i x b _ (y xs q) p
 ·have e:i=xs.length:=by lia
  subst e
  exact .inl ⟨⟨xs,q,Nat.le_refl _⟩,o b H p⟩
theorem YF {K:AGW} {a:Addr} {xs:List V} {g:TG} {j:TS} {D:Ends} {b:St} {H:Hp} (Pv:Nat->St->Hp->Prop) (l:Pv 0 b H) (hl:∀i b H,i<=xs.length->Pv i b H->Bf K H a xs)
  (n:∀i x b H,xs[i]?=some x->Pv i b H->g x b H fun c H2=>j {D with nx:=Pv (i+1),ct:=Pv (i+1),bk:=D.nx} c H2) (o:∀b H,Pv xs.length b H->D.nx b H):
  ∃W:Nat->Nat->St->Hp->Prop,(∃m,W 0 m b H)/\∀i m b H,W i m b H->
   ((hR K a).stop i H/\D.nx b H)∨((hR K a).go i H/\∃N:St->Hp->Prop,(∀d f,N d f->∃k,k<m/\W (i+1) k d f)/\∀x f,(hR K a).NX i H x f->g x b f fun c H2=>j {D with nx:=N,ct:=N,bk:=D.nx} c H2):=by
 refine⟨fun i m b H=>m=xs.length-i/\i<=xs.length/\Pv i b H,⟨xs.length,by simp,Nat.zero_le _,l⟩,?_⟩
 rintro i m b H ⟨rfl,r,p⟩
 have q:=hl i b H r p
 by_cases h:i<xs.length
 ·refine .inr ⟨⟨xs,xs[i],q,by simp[h]⟩,Pv (i+1),fun d f s=>⟨xs.length-(i+1),by lia,rfl,h,s⟩,fun x f y=>?_⟩
  obtain⟨e,y⟩:=y
  subst e
  exact n i x b _ (y xs q) p
 ·have e:i=xs.length:=by lia
  subst e
  exact .inl ⟨⟨xs,q,Nat.le_refl _⟩,o b H p⟩
theorem Ci {lo:Int} {n:Nat} {g:TG} {h:TS} {D:Ends} {a:St} {H:Hp} (Pv:Nat->St->Hp->Prop) (k:Pv 0 a H)
  (l:∀i a H,i<n->Pv i a H->g (.int (lo+i)) a H fun b H2=>h {D with nx:=Pv (i+1),ct:=Pv (i+1),bk:=D.nx} b H2) (o:∀a H,Pv n a H->D.nx a H):
  ∃W:Nat->Nat->St->Hp->Prop,(∃m,W 0 m a H)/\∀i m a H,W i m a H->
   ((gH lo n).stop i H/\D.nx a H)∨((gH lo n).go i H/\∃N:St->Hp->Prop,(∀c d,N c d->∃j,j<m/\W (i+1) j c d)/\∀x d,(gH lo n).NX i H x d->g x a d fun b H2=>h {D with nx:=N,ct:=N,bk:=D.nx} b H2):=by
 refine⟨fun i m a H=>m=n-i/\i<=n/\Pv i a H,⟨n,by simp,Nat.zero_le _,k⟩,?_⟩
 rintro i m a H ⟨rfl,r,p⟩
 by_cases f:i<n
 ·refine .inr ⟨f,Pv (i+1),fun c d q=>⟨n-(i+1),by lia,rfl,f,q⟩,fun x d y=>?_⟩
  obtain⟨e,y⟩:=y
  subst e y
  exact l i a _ f p
 ·have e:i=n:=by lia
  subst e
  exact .inl ⟨Nat.le_refl _,o a H p⟩
abbrev R2:=V->V->Hp->VK->Prop
def EL (X:Cx) (f:Value->Value->Sem Value) (r:R2):Prop:=
 ∀(pins:List (Addr×Obj)) (s:Shared) (a:St) (H:Hp) (x y:V) (v u:Value) (Q:VK),Inv X pins a H s->RelV x v->RelV y u->r x y H Q->
  wpAny (model X.prog X.w) X.A (f v u) (EP X pins a Q) X.xe s
def oE (X:Cx) (f:Value->Sem Value) (r:V->Hp->VK->Prop):Prop:=
 ∀(pins:List (Addr×Obj)) (s:Shared) (a:St) (H:Hp) (x:V) (v:Value) (Q:VK),Inv X pins a H s->RelV x v->r x H Q->
  wpAny (model X.prog X.w) X.A (f v) (EP X pins a Q) X.xe s
def Bq (X:Cx) (f:Value) (r:List V->Hp->VK->Prop):Prop:=
 ∀(pins:List (Addr×Obj)) (s:Shared) (a:St) (H:Hp) (b:List V) (c:List Value) (Q:VK),Inv X pins a H s->Vals b c->r b H Q->
  wpAny (model X.prog X.w) X.A (call f c) (EP X pins a Q) X.xe s
def oH (X:Cx) (r:V->Hp->(Bool->Hp->Prop)->Prop):Prop:=
 ∀(pins:List (Addr×Obj)) (s:Shared) (a:St) (H:Hp) (x:V) (v:Value) (Q:Bool->Hp->Prop),Inv X pins a H s->RelV x v->r x H Q->
  wpAny (model X.prog X.w) X.A (truthy v) (TP X pins a Q) X.xe s
def U_ (r:R2) (b c:TE):TE:=fun a H Q=>b a H fun x d=>c a d fun y e=>r x y e Q
def tUn (r:V->Hp->VK->Prop) (a:TE):TE:=fun b H Q=>a b H fun x c=>r x c Q
inductive zM (C:Int->Int->Prop) (g:Int->Int->V) (x:V) (y:V) (H:Hp) (Q:VK):Prop
 |mk (i:_) (j:_) (a:x=.int i) (b:y=.int j) (c:C i j) (d:Q (g i j) H):zM C g x y H Q
def rI (C:Int->Int->Prop) (g:Int->Int->V):R2:=fun x y H Q=>zM C g x y H Q
inductive hV (g:Int->Int->V) (x:V) (y:V) (H:Hp) (Q:VK):Prop
 |mk (i:_) (j:_) (a:x=.int i) (b:y=.int j) (c:Q (g i j) H):hV g x y H Q
def aM (g:Int->Int->V):R2:=fun x y H Q=>hV g x y H Q
inductive zN (g:Int->V) (x:V) (H:Hp) (Q:VK):Prop
 |mk (i:_) (a:x=.int i) (b:Q (g i) H):zN g x H Q
def rU (g:Int->V):V->Hp->VK->Prop:=fun x H Q=>zN g x H Q
section
variable{X:Cx} {a b c:Expr} {ta tb tc:TE} {pos:Pos}
theorem br (l:PE X a ta) (m:PE X b tb) {pins:List (Addr×Obj)} {s:Shared} {d:St} {H:Hp} {R:V->V->Hp->Prop} (I:Inv X pins d H s)
  (h:ta d H fun x j=>tb d j fun y H2=>R x y H2) {Q:Value->Shared->Prop} {f:Value->Value->Sem Value}
  (n:∀v u i x y H2,Inv X pins d H2 i->RelV x v->RelV y u->R x y H2->wpAny (model X.prog X.w) X.A (f v u) Q X.xe i):
  wpAny (model X.prog X.w) X.A (eval a X.env) (fun v e=>wpAny (model X.prog X.w) X.A (eval b X.env) (fun u g=>wpAny (model X.prog X.w) X.A (f v u) Q X.xe g) X.xe e) X.xe s:=by
 refine BS (l pins s d H _ I h) fun v o k=>k.elim fun x j p q r=>?_
 refine BS (m pins o d j _ p r) fun u i k=>k.elim fun y H2 t z B=>?_
 exact n v u i x y H2 t q z B
theorem AN {op:Operator} {r:R2} (d:EL X (binaryOp op) r) (e:PE X a ta) (f:PE X b tb):PE X (.BinOp a op b pos) (U_ r ta tb):=by
 intro pins s g H Q I h
 exact wpAny_BinOp (br e f I h fun v u i x y j k l m q=>d pins i g j x y v u Q k l m q)
theorem Rb {op:UnaryOp} {r:V->Hp->VK->Prop} (e:oE X (unaryOp op) r) (f:PE X a ta):PE X (.UnaryOp op a pos) (tUn r ta):=by
 intro pins s d H Q I h
 exact UnaryOp_ (BS (f pins s d H _ I h) fun v g i=>i.elim fun x j k l m=>e pins g d j x v Q k l m)
theorem mM {f:Value->Value->Sem Value} {C:Int->Int->Prop} {g:Int->Int->Int}
  (rule:∀(i j:Int) (t u:Tok) (s:Shared) (Q:Value->Shared->Prop) (E:Value->Shared->Prop),C i j->Q (.int (g i j) s.toks) {s with toks:=s.toks+1}->wpAny (model X.prog X.w) X.A (f (.int i t) (.int j u)) Q E s):
  EL X f (rI C fun i j=>.int (g i j)):=by
 intro pins s m H x y v u Q I d e h
 obtain⟨i,j,rfl,rfl,k,q⟩:=h
 obtain⟨t,rfl⟩:=d
 obtain⟨l,rfl⟩:=e
 exact rule i j t l s _ _ k ⟨.int (g i j),H,I.tok _,⟨_,rfl⟩,q⟩
theorem hW {f:Value->Value->Sem Value} {g:Int->Int->Int}
  (rule:∀(i j:Int) (t u:Tok) (s:Shared) (Q:Value->Shared->Prop) (E:Value->Shared->Prop),Q (.int (g i j) s.toks) {s with toks:=s.toks+1}->wpAny (model X.prog X.w) X.A (f (.int i t) (.int j u)) Q E s):
  EL X f (aM fun i j=>.int (g i j)):=by
 intro pins s l H x y v u Q I d e h
 obtain⟨i,j,rfl,rfl,q⟩:=h
 obtain⟨t,rfl⟩:=d
 obtain⟨k,rfl⟩:=e
 exact rule i j t k s _ _ ⟨.int (g i j),H,I.tok _,⟨_,rfl⟩,q⟩
theorem YG {f:Value->Value->Sem Value} {g:Int->Int->Bool}
  (rule:∀(i j:Int) (t u:Tok) (s:Shared) (Q:Value->Shared->Prop) (E:Value->Shared->Prop),Q (.bool (g i j)) s->wpAny (model X.prog X.w) X.A (f (.int i t) (.int j u)) Q E s):
  EL X f (aM fun i j=>.bl (g i j)):=by
 intro pins s l H x y v u Q I d e h
 obtain⟨i,j,rfl,rfl,q⟩:=h
 obtain⟨t,rfl⟩:=d
 obtain⟨k,rfl⟩:=e
 exact rule i j t k s _ _ ⟨.bl (g i j),H,I,rfl,q⟩
def hX (i j:Int):Prop:=0<j/\j<1073741824
def oI (i j:Int):Prop:=0<=j/\j<=1000000/\i.natAbs<2 ^ 64
def bu (i j:Int):Prop:=(-(2 ^ 64)<i/\i<2 ^ 64)∨(-(2 ^ 64)<j/\j<2 ^ 64)
theorem bu.ok {i j:Int} (h:bu i j):IntMulOk i j:=by
 rcases h with⟨d,e⟩|⟨d,e⟩
 ·exact .of_left (intBits_le_64 d e)
 ·exact .of_right (intBits_le_64 d e)
theorem By:EL X (binaryOp .Add) (aM fun i j=>.int (i+j)):=hW fun _ _ _ _ _ _ _ q=>add_int q
theorem GH:EL X (binaryOp .Sub) (aM fun i j=>.int (i-j)):=hW fun _ _ _ _ _ _ _ q=>sub_int q
theorem GK:EL X (binaryOp .Mult) (rI bu fun i j=>.int (i*j)):=mM fun _ _ _ _ _ _ _ d q=>mul_int q d.ok
theorem Bh:EL X (binaryOp .FloorDiv) (rI hX fun i j=>.int (i/j)):=mM fun i j _ _ _ _ _ d q=>by
 have e:(0:Int)<j:=d.1
 have f:j<1073741824:=d.2
 exact floordiv_int (by lia) (by rw[Int.fdiv_eq_ediv_of_nonneg i (by lia)];exact q) (.inl (PyProof.noPylong_small (by lia)))
theorem Aq:EL X (binaryOp .Mod) (rI (fun _ j=>0<j) fun i j=>.int (i % j)):=mM fun i j _ _ _ _ _ d q=>by
 have e:(0:Int)<j:=d
 exact mod_int' (by lia) (by rw[Int.fmod_eq_emod_of_nonneg i (by lia)];exact q)
theorem QL:EL X (binaryOp .Pow) (rI oI fun i j=>.int (i ^ j.toNat)):=mM fun _ _ _ _ _ _ _ d q=>pow_int_small d.1 d.2.1 d.2.2 q
theorem unI {f:Value->Sem Value} {g:Int->Int}
  (rule:∀(i:Int) (t:Tok) (s:Shared) (Q:Value->Shared->Prop) (E:Value->Shared->Prop),Q (.int (g i) s.toks) {s with toks:=s.toks+1}->wpAny (model X.prog X.w) X.A (f (.int i t)) Q E s):
  oE X f (rU fun i=>.int (g i)):=by
 intro pins s e H x v Q I d h
 obtain⟨i,rfl,q⟩:=h
 obtain⟨t,rfl⟩:=d
 exact rule i t s _ _ ⟨.int (g i),H,I.tok _,⟨_,rfl⟩,q⟩
theorem MP:oE X (unaryOp .USub) (rU fun i=>.int (-i)):=unI fun _ _ _ _ _ q=>neg_int q
inductive MQ (x:V) (y:V) (H:Hp) (Q:VK):Prop
 |mk (i:_) (k:_) (d:x=.int i) (e:y=.bl k) (f:Q (.int (i+b2i k)) H):MQ x y H Q
end
def hY:V->V->Bool
 | .Av,.Av=>true| .Av,.int _=>true| .int _,.Av=>true| .Av,.bl _=>true| .bl _,.Av=>true| .Av,.str _=>true| .str _,.Av=>true
 | .int _,.int _=>true| .bl _,.bl _=>true| .str _,.str _=>true| .Nc _,.Nc _=>true
 | .int _,.str _=>true| .str _,.int _=>true| .bl _,.str _=>true| .str _,.bl _=>true
 |_,_=>false
def rEq:R2:=fun x y H Q=>hY x y=true/\Q (.bl (decide (x=y))) H
def rNe:R2:=fun x y H Q=>hY x y=true/\Q (.bl (!decide (x=y))) H
theorem Rc {i j:Int}:decide (V.int i=V.int j)=(i==j):=by
 rw[Bool.eq_iff_iff]
 simp
theorem VJ {i j:Bool}:decide (V.bl i=V.bl j)=(i==j):=by
 rw[Bool.eq_iff_iff]
 simp
theorem Rf {i j:Str}:decide (V.str i=V.str j)=(i==j):=by
 rw[Bool.eq_iff_iff]
 simp
theorem Rg {i j:Array UInt8}:decide (V.Nc i=V.Nc j)=(i.toList==j.toList):=by
 rw[Bool.eq_iff_iff]
 cases i
 cases j
 simp
section
variable{X:Cx} {a b c:Expr} {ta tb tc:TE} {pos:Pos}
theorem BF {pins:List (Addr×Obj)} {d:St} {H:Hp} {s:Shared} {Q:VK} {k f:Bool} (I:Inv X pins d H s) (q:Q (.bl k) H) (e:k=f):EP X pins d Q (.bool f) s:=by
 subst e
 exact⟨.bl k,H,I,rfl,q⟩
theorem BD:EL X (compareOp .Eq) rEq:=by
 intro pins s k H x y v u Q I g d h
 obtain⟨f,q⟩:=h
 cases x with
 |Av=>
  cases g
  cases y with
  |Av=>cases d;exact PySem.EqNone.eq_none_none (BF I q (by simp))
  |bl j=>cases d;exact PySem.EqNone.eq_none_bool (BF I q (by simp))
  |int j=>obtain⟨e,rfl⟩:=d;exact PySem.EqNone.eq_none_int (BF I q (by simp))
  |str j=>obtain⟨e,rfl⟩:=d;exact PySem.EqNone.eq_none_str (BF I q (by simp))
  |_=>exact absurd (show false=true from f) Bool.false_ne_true
 |bl i=>
  cases g
  cases y with
  |Av=>cases d;exact PySem.EqNone.eq_bool_none (BF I q (by simp))
  |bl j=>cases d;exact eq_bool (BF I q VJ)
  |str j=>obtain⟨e,rfl⟩:=d;exact PySem.EqMixed.eq_bool_str (BF I q (by simp))
  |_=>exact absurd (show false=true from f) Bool.false_ne_true
 |int i=>
  obtain⟨t,rfl⟩:=g
  cases y with
  |Av=>cases d;exact PySem.EqNone.eq_int_none (BF I q (by simp))
  |int j=>obtain⟨e,rfl⟩:=d;exact eq_int (BF I q Rc)
  |str j=>obtain⟨e,rfl⟩:=d;exact PySem.EqMixed.eq_int_str (BF I q (by simp))
  |_=>exact absurd (show false=true from f) Bool.false_ne_true
 |str i=>
  obtain⟨t,rfl⟩:=g
  cases y with
  |Av=>cases d;exact PySem.EqNone.eq_str_none (BF I q (by simp))
  |bl j=>cases d;exact PySem.EqMixed.eq_str_bool (BF I q (by simp))
  |int j=>obtain⟨e,rfl⟩:=d;exact PySem.EqMixed.eq_str_int (BF I q (by simp))
  |str j=>obtain⟨e,rfl⟩:=d;exact eq_str (BF I q Rf)
  |_=>exact absurd (show false=true from f) Bool.false_ne_true
 |Nc i=>
  obtain⟨t,rfl⟩:=g
  cases y with
  |Nc j=>obtain⟨e,rfl⟩:=d;exact PySem.W.eq_bytes (BF I q Rg)
  |_=>exact absurd (show false=true from f) Bool.false_ne_true
 |_=>cases y<;>exact absurd (show false=true from f) Bool.false_ne_true
theorem Rh:EL X (compareOp .NotEq) rNe:=by
 intro pins s k H x y v u Q I g d h
 obtain⟨f,q⟩:=h
 cases x with
 |Av=>
  cases g
  cases y with
  |Av=>cases d;exact PySem.EqNone.ne_none_none (BF I q (by simp))
  |bl j=>cases d;exact PySem.EqNone.ne_none_bool (BF I q (by simp))
  |int j=>obtain⟨e,rfl⟩:=d;exact PySem.EqNone.ne_none_int (BF I q (by simp))
  |str j=>obtain⟨e,rfl⟩:=d;exact PySem.EqNone.ne_none_str (BF I q (by simp))
  |_=>exact absurd (show false=true from f) Bool.false_ne_true
 |bl i=>
  cases g
  cases y with
  |Av=>cases d;exact PySem.EqNone.ne_bool_none (BF I q (by simp))
  |bl j=>cases d;exact ne_bool (BF I q (congrArg not VJ))
  |str j=>obtain⟨e,rfl⟩:=d;exact PySem.EqMixed.ne_bool_str (BF I q (by simp))
  |_=>exact absurd (show false=true from f) Bool.false_ne_true
 |int i=>
  obtain⟨t,rfl⟩:=g
  cases y with
  |Av=>cases d;exact PySem.EqNone.ne_int_none (BF I q (by simp))
  |int j=>obtain⟨e,rfl⟩:=d;exact ne_int (BF I q (congrArg not Rc))
  |str j=>obtain⟨e,rfl⟩:=d;exact PySem.EqMixed.ne_int_str (BF I q (by simp))
  |_=>exact absurd (show false=true from f) Bool.false_ne_true
 |str i=>
  obtain⟨t,rfl⟩:=g
  cases y with
  |Av=>cases d;exact PySem.EqNone.ne_str_none (BF I q (by simp))
  |bl j=>cases d;exact PySem.EqMixed.ne_str_bool (BF I q (by simp))
  |int j=>obtain⟨e,rfl⟩:=d;exact PySem.EqMixed.ne_str_int (BF I q (by simp))
  |str j=>obtain⟨e,rfl⟩:=d;exact ne_str (BF I q (congrArg not Rf))
  |_=>exact absurd (show false=true from f) Bool.false_ne_true
 |Nc i=>
  obtain⟨t,rfl⟩:=g
  cases y with
  |Nc j=>obtain⟨e,rfl⟩:=d;exact PySem.W.ne_bytes (BF I q (congrArg not Rg))
  |_=>exact absurd (show false=true from f) Bool.false_ne_true
 |_=>cases y<;>exact absurd (show false=true from f) Bool.false_ne_true
theorem LR:EL X (compareOp .Lt) (aM fun i j=>.bl (decide (i<j))):=YG fun _ _ _ _ _ _ _ q=>lt_int q
inductive VL (x:V) (y:V) (H:Hp) (Q:VK):Prop
 |mk (i:_) (j:_) (d:x=.str i) (e:y=.str j) (f:Q (.bl (decide (i.cps.toList<j.cps.toList))) H):VL x y H Q
theorem hZ:EL X (compareOp .LtE) (aM fun i j=>.bl (decide (i<=j))):=YG fun _ _ _ _ _ _ _ q=>le_int q
theorem LS:EL X (compareOp .Gt) (aM fun i j=>.bl (decide (j<i))):=YG fun _ _ _ _ _ _ _ q=>gt_int q
theorem h_:EL X (compareOp .GtE) (aM fun i j=>.bl (decide (j<=i))):=YG fun _ _ _ _ _ _ _ q=>ge_int q
inductive MR (x:V) (y:V) (H:Hp) (Q:VK):Prop
 |mk (i:_) (j:_) (d:x=.str i) (e:y=.str j) (f:Q (.bl (!(Builtin.Str.occurrences j i 0 j.length 1).isEmpty)) H):MR x y H Q
theorem JU:EL X (compareOp .Is) (fun x y H Q=>y=.Av/\Q (.bl (decide (x=.Av))) H):=by
 intro pins s f H x y v u Q I d e h
 obtain⟨rfl,q⟩:=h
 cases e
 refine is_none_gen (BF I q ?_)
 cases x<;>first
  |(cases d;rfl)
  |(obtain⟨t,rfl⟩:=d;rfl)
theorem MS:EL X (compareOp .IsNot) (fun x y H Q=>y=.Av/\Q (.bl (!decide (x=.Av))) H):=by
 intro pins s f H x y v u Q I d e h
 obtain⟨rfl,q⟩:=h
 cases e
 refine isnot_none_gen (BF I q ?_)
 cases x<;>first
  |(cases d;rfl)
  |(obtain⟨t,rfl⟩:=d;rfl)
inductive Im (x:V) (y:V) (H:Hp) (Q:VK):Prop
 |mk (i:_) (j:_) (d:x=.str i) (e:y=.str j) (f:Q (.bl (!(!(Builtin.Str.occurrences j i 0 j.length 1).isEmpty))) H):Im x y H Q
def isObj:HO->Bool
 | .lst _=>true
 | .ins _ _ _=>true
 |_=>false
inductive MT (x:V) (y:V) (H:Hp) (Q:VK):Prop
 |mk (a:_) (b:_) (d:_) (e:_) (f:x=.ref a) (g:y=.ref b) (h:H a=some d) (i:isObj d=true) (j:H b=some e) (k:isObj e=true) (l:Q (.bl (decide (a=b))) H):MT x y H Q
inductive Io (x:V) (y:V) (H:Hp) (Q:VK):Prop
 |mk (a:_) (b:_) (d:_) (e:_) (f:x=.ref a) (g:y=.ref b) (h:H a=some d) (i:isObj d=true) (j:H b=some e) (k:isObj e=true) (l:Q (.bl (!decide (a=b))) H):Io x y H Q
theorem AS (b:Expr) {op:CmpOp} (h:op≠.In:=by decide) (d:op≠.NotIn:=by decide):behindInMarks op b=false:=by
 have e:(op==CmpOp.In)=false:=by cases op<;>first|rfl|exact absurd rfl h
 have f:(op==CmpOp.NotIn)=false:=by cases op<;>first|rfl|exact absurd rfl d
 cases b<;>simp[behindInMarks,e,f]
theorem CH {op:CmpOp} {r:R2} (d:EL X (compareOp op) r) (e:PE X a ta) (f:PE X b tb) (g:behindInMarks op b=false):PE X (.Compare a [op] [b] pos) (U_ r ta tb):=by
 intro pins s i H Q I h
 exact wpAny_Compare1 (br e f I h fun v u j x y k l m n q=>d pins j i k x y v u Q l m n q) g
def iA (t:TE):TT:=fun d H Q=>t d H fun x e=>ng x e Q
theorem AO {op:CmpOp} {r:R2} (f:EL X (compareOp op) r) (g:PE X a ta) (i:PE X b tb) (j:behindInMarks op b=false):PT X (.Compare a [op] [b] pos) (iA (U_ r ta tb)):=by
 intro pins s d H Q I h
 refine wpAny_isTrue_Compare1 (BS (g pins s d H _ I h) fun v l m=>m.elim fun x n o p q=>BS (i pins l d n _ o q) fun u t ⟨y,w,A,B,C⟩=>
  BS (f pins t d w x y v u _ A p B C) fun c J ⟨z,D,E,F,k,e,G⟩=>?_) j
 subst e
 cases F
 exact wpAny_truthy_bool ⟨D,E,G⟩
def bx (r f:R2) (ta tb tc:TE):TE:=fun d H Q=>ta d H fun x g=>tb d g fun y h=>r x y h fun z e=>∃k,z=.bl k/\
 (if k=true then tc d e fun i j=>f y i j Q else Q (.bl false) e)
theorem VM {op f:CmpOp} {r l:R2} (q:EL X (compareOp op) r) (i:EL X (compareOp f) l) (t:PE X a ta) (w:PE X b tb) (A:PE X c tc)
  (B:lastMarks [op,f] [b,c]=false:=by with_unfolding_all rfl):PE X (.Compare a [op,f] [b,c] pos) (bx r l ta tb tc):=by
 intro pins s g H Q I h
 refine Compare_chain (BS (t pins s g H _ I h) fun v C j=>j.elim fun x D E F G=>chain_link (BS (w pins C g D _ E G) fun u J ⟨y,K,L,m,M⟩=>
  BS (q pins J g K x y v u _ L F m M) fun d N ⟨z,n,o,O,k,e,p⟩=>?_)) B
 subst e
 cases O
 refine wpAny_truthy_bool ?_
 cases k with
 |false=>exact ite_ff ⟨.bl false,n,o,rfl,p⟩
 |true=>exact ite_tt (chain_last (BS (A pins N g n _ o p) fun P R j=>j.elim fun S T U V W=>i pins R g T y S u P Q U m V W))
def iB (K:AGW) (x:V) (H:Hp) (k:Bool):Prop:=
 match x with
 | .Av=>k=false
 | .bl b=>k=b
 | .int i=>k=(i !=0)
 | .str y=>y.length<=sizeLine/\k=((y.length:Int) !=0)
 | .Nc y=>y.size<=sizeLine/\k=((y.size:Int) !=0)
 | .ref p=>(∃d,An K H p d/\k= !d.isEmpty)∨(∃d,Bf K H p d/\k= !d.isEmpty)∨∃kvs,H p=some (.dK kvs)/\k= !kvs.isEmpty
 |_=>False
theorem QM {d:Type} {kvs:List (d×V)} {vs:List (d×Value)} (r:KV kvs vs):(!vs.isEmpty)= !kvs.isEmpty:=by
 cases r<;>rfl
theorem JV {xs:List V} {its:List Value} (r:Vals xs its):(!its.toArray.isEmpty)= !xs.isEmpty:=by
 cases r<;>simp
theorem HX:(sizeLine:Nat)<2 ^ 63:=by rw[sizeLine_eq];decide
theorem b_:oH X (fun x H Q=>∃k,iB X.K x H k/\Q k H):=by
 intro pins s A H x v Q I g h
 obtain⟨k,e,q⟩:=h
 have B:=HX
 have C:sizeLine=16777216:=sizeLine_eq
 cases x with
 |Av=>
  cases g
  have d:k=false:=e
  subst d
  exact truthy_none ⟨H,I,q⟩
 |bl b=>
  cases g
  have d:k=b:=e
  subst d
  exact wpAny_truthy_bool ⟨H,I,q⟩
 |int i=>
  obtain⟨t,rfl⟩:=g
  have d:k=(i !=0):=e
  subst d
  exact PySem.P.truthy_int ⟨H,I,q⟩
 |str y=>
  obtain⟨t,rfl⟩:=g
  obtain⟨u,d⟩:y.length<=sizeLine/\k=((y.length:Int) !=0):=e
  subst d
  exact PySem.P.truthy_str (by lia) ⟨H,I.tok _,q⟩
 |Nc y=>
  obtain⟨t,rfl⟩:=g
  obtain⟨u,d⟩:y.size<=sizeLine/\k=((y.size:Int) !=0):=e
  subst d
  exact PySem.W.truthy_bytes (by lia) ⟨H,I.tok _,q⟩
 |ref p=>
  cases g
  have d:(∃f,An X.K H p f/\k= !f.isEmpty)∨(∃f,Bf X.K H p f/\k= !f.isEmpty)∨∃kvs,H p=some (.dK kvs)/\k= !kvs.isEmpty:=e
  rcases d with⟨f,j,d⟩|⟨f,j,d⟩|⟨kvs,j,d⟩
  ·subst d
   obtain⟨n,r,pl,o⟩:=I.list j
   have hlen:=r.length
   exact wpAny_truthy_list pl.isList (by simp only[List.size_toArray];lia) ⟨H,I.tok _,by rw[JV r];exact q⟩
  ·subst d
   obtain⟨n,r,pl,o⟩:=I.tuple j
   have hlen:=r.length
   exact truthy_tuple pl (by simp only[List.size_toArray];lia) ⟨H,I.tok _,by rw[JV r];exact q⟩
  ·subst d
   obtain⟨o,z,l,r,m⟩:kvs.length<=sizeLine/\(p==sysModules)=false/\∃l,KV kvs l/\s.heap.DictOf (Ay X.prog X.w) p l:=I.Be p _ j
   have hlen:kvs.length=l.length:=Paired.length r
   exact wpAny_truthy_dict z m (by lia) ⟨H,I.tok _,by rw[QM r];exact q⟩
 |_=>exact(show False from e).elim
theorem VN (e:PE X a ta) (f:∀whole,isTrue a X.env whole=(do let v<-whole;standAt a.pos;holding [v] (truthy v))):
  PT X a (fun d H Q=>ta d H fun x H'=>∃k,iB X.K x H' k/\Q k H'):=by
 intro pins s d H Q I h
 exact isTrue_plain (BS (e pins s d H _ I h) fun v g i=>i.elim fun x j l m n=>b_ pins g d j x v Q l m n) (f _)
inductive GA (x:V) (y:V) (H:Hp) (Q:VK):Prop
 |mk (i:_) (j:_) (d:x=.str i) (e:y=.str j) (f:i.length+j.length<=sizeLine) (g:Q (.str (i++j)) H):GA x y H Q
def MU:V->V->Hp->VK->Prop:=fun x y H Q=>GA x y H Q
theorem Eo:EL X (binaryOp .Add) MU:=by
 intro pins s k H x y v u Q I d e h
 obtain⟨i,j,rfl,rfl,f,q⟩:=h
 obtain⟨t,rfl⟩:=d
 obtain⟨g,rfl⟩:=e
 exact add_str (fun g l=>⟨.str (i++j),H,I.tok _,⟨_,rfl⟩,q⟩) f
inductive JW (x:V) (y:V) (H:Hp) (Q:VK):Prop
 |mk (i:_) (j:_) (d:x=.str i) (e:y=.str j) (f:i.length+j.length<=sizeLine) (g:Q (.str (i++j)) H):JW x y H Q
inductive K_ (x:V) (y:V) (H:Hp) (Q:VK):Prop
 |mk (i:_) (j:_) (d:x=.Nc i) (e:y=.Nc j) (f:i.size+j.size<=16777216) (g:Q (.Nc (i++j)) H):K_ x y H Q
theorem vals1 {x:V} {us:List Value} (r:Vals [x] us):∃u,us=[u]/\RelV x u:=by
 cases r with
 |cons d e=>cases e;exact⟨_,rfl,d⟩
theorem vals2 {x y:V} {us:List Value} (r:Vals [x,y] us):∃u d,us=[u,d]/\RelV x u/\RelV y d:=by
 cases r with
 |cons e f=>
  cases f with
  |cons g h=>cases h;exact⟨_,_,rfl,e,g⟩
inductive Nl (xs:List V) (H:Hp) (Q:VK):Prop
 |mk (i:_) (d:xs=[.int i]) (e:Q (.int (if i<0 then-i else i)) H):Nl xs H Q
inductive MV (xs:List V) (H:Hp) (Q:VK):Prop
 |mk (i:_) (j:_) (d:xs=[.int i,.int j]) (e:Q (.int (if j>i then j else i)) H):MV xs H Q
inductive MW (xs:List V) (H:Hp) (Q:VK):Prop
 |mk (i:_) (j:_) (d:xs=[.int i,.int j]) (e:Q (.int (if j<i then j else i)) H):MW xs H Q
theorem LU:Bq X (.type "int") (fun xs H Q=>(∃i,xs=[.int i]/\Q (.int i) H)∨∃k,xs=[.bl k]/\Q (.int (if k then 1 else 0)) H):=by
 intro pins s e H xs f Q I r h
 rcases h with⟨i,rfl,q⟩|⟨k,rfl,q⟩
 ·obtain⟨u,rfl,t,rfl⟩:=vals1 r
  exact call_int_int ⟨.int i,H,I,⟨_,rfl⟩,q⟩
 ·obtain⟨u,rfl,d⟩:=vals1 r
  cases d
  exact call_int_bool ⟨.int (if k then 1 else 0),H,I.tok _,⟨_,rfl⟩,q⟩
inductive Ip (xs:List V) (H:Hp) (Q:VK):Prop
 |mk (i:_) (d:xs=[.int i]) (e:i.natAbs.log2<1920) (f:Q (.str (toString i)) H):Ip xs H Q
inductive Nm (xs:List V) (H:Hp) (Q:VK):Prop
 |mk (x:_) (d:xs=[.str x]) (e:x.length=1) (f:Q (.int (x.cps.getD 0 0:Nat)) H):Nm xs H Q
inductive Nn (xs:List V) (H:Hp) (Q:VK):Prop
 |mk (i:_) (d:xs=[.int i]) (e:0<=i) (f:i<=1114111) (g:Q (.str ⟨#[i.toNat]⟩) H):Nn xs H Q
def oJ (K:AGW) (x:V) (H:Hp) (n:Nat):Prop:=
 match x with
 | .str y=>y.length<=sizeLine/\n=y.length
 | .Nc y=>y.size<=sizeLine/\n=y.size
 | .ref p=>(∃d,An K H p d/\n=d.length)∨∃d,Bf K H p d/\n=d.length
 |_=>False
inductive Np (K:AGW) (xs:List V) (H:Hp) (Q:VK):Prop
 |mk (x:_) (n:_) (d:xs=[x]) (e:oJ K x H n) (f:Q (.int n) H):Np K xs H Q
inductive JX (xs:List V) (H:Hp) (Q:VK):Prop
 |mk (i:_) (j:_) (d:xs=[.int i,.int j]) (e:hX i j) (f:∀p,H p=none->Q (.ref p) (upd H p (.tup [.int (i/j),.int (i % j)]))):JX xs H Q
end
structure cA (h:Heap) (x dx C:Addr) (mA:Str->Option Value):Prop where
 obj:h.get? x=some (PySem.W.instObj C dx)
 ns:h.Ns1 dx mA
 ne:dx≠x
theorem Ti {h:Heap} {c:Addr} {d:Str->Option Value} (n:h.Ns1 c d):∃f,h.get? c=some f/\∀name,PySem.W.lookIn name f=some (d name):=by
 obtain⟨o,g,r,i,j,k,_,l⟩:=n
 refine⟨o,i,fun name=>?_⟩
 have e:=l name
 unfold nsFind findBy at e
 rw[<-Array.find?_toList]at e
 unfold PySem.W.lookIn
 rw[j]
 dsimp only
 split
 ·rename_i y q
  rw[q]at e
  exact congrArg some e
 ·rename_i q
  rw[q]at e
  have a:g.toList.any (·.refKey)=false:=by
   rw[List.any_eq_false]
   intro y m
   obtain⟨z,t,b⟩:=k y (Array.mem_toList_iff.mp m)
   simp[DictEntry.refKey,b]
  have p:¬g.toList.any (·.refKey)=true:=by rw[a];exact Bool.false_ne_true
  rw[if_neg p]
  exact congrArg some e
theorem cA.look {h:Heap} {x b C:Addr} {c:Str->Option Value} (I:cA h x b C c):∃a,PySem.W.InstAt h x (PySem.W.instObj C b) C (some a)/\∀name,PySem.W.lookIn name a=some (c name):=
 let⟨a,d,e⟩:=Ti I.ns
 ⟨a,⟨I.obj,rfl,rfl,d⟩,e⟩
section
variable{prog:Program} {w:World} {A:Around} {E:Value->Shared->Prop} {s:Shared} {K:AGW} {x dx C f:Addr} {mA:Str->Option Value} {name:Str} {v:Value}
end
theorem Il.some_of {v:V} {o:Option Value} (r:Il (some v) o):∃u,o=some u/\RelV v u:=by
 cases o with
 |none=>exact(show False from r).elim
 |some u=>exact⟨u,rfl,r⟩
section
variable{P:Program} {w:World} {H H':Hp} {h h':Heap} {a C dx:Addr} {fs fs':List (Str×V)}
theorem YH (c:F' P w H h) (e:H a=some (.ins C dx fs)):∃b,cA h a dx C b/\(∀f,Il (fs.lookup f) (b f))/\PySem.Within b (fs.map (·.1))/\fs.length<=1000/\H dx=some (.own a):=by
 obtain⟨d,z,g,i,b,n,r,q⟩:=(show BO P w H h a (.ins C dx fs)from c a _ e)
 exact⟨b,⟨i,n,g⟩,r,q,z,d⟩
end
structure oK (K:AGW) (C:Addr):Prop where
 pg:PySem.W.plainGet K C Str.empty=true
 hd:PySem.W.hasDictIn K C=true
 po:PySem.W.plainOver K C=true
 sa:PySem.W.findIn K (.ref C) "__setattr__"=some (some (.builtin "object.__setattr__"))
theorem oK.get {K:AGW} {C:Addr} (c:oK K C) (f:Str):PySem.W.plainGet K C f=true:=c.pg
structure Con (K:AGW) (C:Addr) (f:Str) (v:V) (u:Value):Prop where
 at_:PySem.W.findIn K (.ref C) f=some (some u)
 rel:RelV v u
 get:PySem.W.specialIn K u "__get__"=some none
 cp:PySem.W.copiedNames.contains f=false
structure Meth (K:AGW) (C:Addr) (m:Str) (f:Addr):Prop where
 at_:PySem.W.findIn K (.ref C) m=some (some (.ref f))
 fn:PySem.W.isFn K (.ref f)=true
 kp:PySem.W.keepIn K (.ref f)=true
section
variable{X:Cx} {pins:List (Addr×Obj)} {σ:St} {H:Hp} {s:Shared} {a C dx:Addr} {fs:List (Str×V)} {f:Str} {v:V} {A:Around} {E:Value->Shared->Prop}
end
section
variable{X:Cx} {o e value:Expr} {f:Str} {pos pos' oM:Pos} {ta tv:TE}
inductive iC (x:V) (y:V) (H:Hp) (Q:VK):Prop
 |mk (i:_) (j:_) (a:x=.int i) (b:y=.int j) (c:Q (.int (i+j)) H):iC x y H Q
inductive iD (x:V) (y:V) (H:Hp) (Q:VK):Prop
 |mk (i:_) (j:_) (a:x=.int i) (b:y=.int j) (c:Q (.int (i-j)) H):iD x y H Q
end
section
variable{X:Cx} {pins:List (Addr×Obj)} {σ:St} {H:Hp} {s:Shared} {A:Around} {E:Value->Shared->Prop} {Q:Value->Shared->Prop} {c:Value} {b:Bool}
inductive HY (K:AGW) (H:Hp):V->Value->Prop where
 |Av:HY K H .Av (.type "NoneType")
 |bl (x:Bool):HY K H (.bl x) (.type "bool")
 |int (i:Int):HY K H (.int i) (.type "int")
 |str (x:Str):HY K H (.str x) (.type "str")
 |gC (x:UInt64):HY K H (.gC x) (.type "float")
 |lst {a:Addr} {xs:List V} (e:H a=some (.lst xs)):HY K H (.ref a) (.type "list")
 |Cg {a:Addr} {o:Obj} {xs:List V} (e:H a=some (.Cg o (.lst xs))):HY K H (.ref a) (.type "list")
 |tup {a:Addr} {xs:List V} (e:H a=some (.tup xs)):HY K H (.ref a) (.type "tuple")
 |dK {a:Addr} {kvs:List (Key×V)} (e:H a=some (.dK kvs)):HY K H (.ref a) (.type "dict")
 |dT {a:Addr} {kvs:List (List Key×V)} (e:H a=some (.dT kvs)):HY K H (.ref a) (.type "dict")
 |ins {a C d:Addr} {fs:List (Str×V)} (e:H a=some (.ins C d fs)) (g:oK K C) (h:PySem.W.findIn K (.ref C) "__class__"=some (some (.builtin "object.__class__")))
   (j:PySem.W.specialIn K (.builtin "object.__class__") "__get__"=some (some (.builtin "getset_descriptor.__get__"))) (f:PySem.W.takesIn K (.builtin "object.__class__")=some true)
   (k:PySem.W.mroIn K C (.type "object")=some true):HY K H (.ref a) (.ref C)
theorem EX {x:V} {u t:Value} (I:Inv X pins σ H s) (d:RelV x u) (ty:HY X.K H x t) (e:PySem.W.kitOne X.K t c=some b) (h:∀tk,Q (.bool b) {s with toks:=tk}):
  wpAny (model X.prog X.w) A (call (.builtin "isinstance") [u,c]) Q E s:=by
 cases ty with
 |Av=>cases(show u=Value.none from d);exact PySem.W.kia_one PySem.W.kitx_none I.Ky True.intro e (fun z=>nomatch z) h
 |bl y=>cases(show u=Value.bool y from d);exact PySem.W.kia_one PySem.W.kitx_bool I.Ky True.intro e (fun z=>nomatch z) h
 |int i=>obtain⟨t,q⟩:=(show∃t,u=Value.int i t from d);cases q;exact PySem.W.kia_one PySem.W.kitx_int I.Ky True.intro e (fun z=>nomatch z) h
 |str y=>obtain⟨t,q⟩:=(show∃t,u=Value.str y t from d);cases q;exact PySem.W.kia_one PySem.W.kitx_str I.Ky True.intro e (fun z=>nomatch z) h
 |gC y=>obtain⟨t,q⟩:=(show∃t,u=Value.float y t from d);cases q;exact PySem.W.kia_one PySem.W.kitx_float I.Ky True.intro e (fun z=>nomatch z) h
 |@lst a j f=>
  cases(show u=Value.ref a from d)
  obtain⟨_,_,n,_,g⟩:=(show BO X.prog X.w H s.heap a (.lst j)from I.Be a _ f)
  exact PySem.W.kia_one PySem.W.kitx_list I.Ky ⟨_,g,rfl⟩ e (fun z=>nomatch z) h
 |@Cg a r j f=>
  cases(show u=Value.ref a from d)
  obtain⟨_,_,_,n,_,g⟩:=(show BO X.prog X.w H s.heap a (.Cg r (.lst j))from I.Be a _ f)
  exact PySem.W.kia_one PySem.W.kitx_list I.Ky ⟨_,g,rfl⟩ e (fun z=>nomatch z) h
 |@tup a j f=>
  cases(show u=Value.ref a from d)
  obtain⟨_,_,_,p⟩:=(show BO X.prog X.w H s.heap a (.tup j)from I.Be a _ f)
  obtain⟨o,g,k,_⟩:=p
  exact PySem.W.kia_one PySem.W.kitx_tuple I.Ky ⟨o,g,k⟩ e (fun z=>nomatch z) h
 |@dK a kvs f=>
  cases(show u=Value.ref a from d)
  obtain⟨_,_,L,_,p⟩:=(show BO X.prog X.w H s.heap a (.dK kvs)from I.Be a _ f)
  obtain⟨o,v,B,g,k,_⟩:=p
  exact PySem.W.kia_one PySem.W.kitx_dict I.Ky ⟨o,g,k.1⟩ e (fun z=>nomatch z) h
 |@dT a kvs f=>
  cases(show u=Value.ref a from d)
  obtain⟨_,_,j,_,o,v,B,g,k,_⟩:=(show BO X.prog X.w H s.heap a (.dT kvs)from I.Be a _ f)
  exact PySem.W.kia_one PySem.W.kitx_dict I.Ky ⟨o,g,k.1⟩ e (fun z=>nomatch z) h
 |@ins a C M fs f m D F l G=>
  cases(show u=Value.ref a from d)
  obtain⟨N,O,_⟩:=YH I.Be f
  obtain⟨P,J,_⟩:=O.look
  exact PySem.W.kia_one (PySem.W.kitx_own (m.get _) m.hd D F l G) I.Ky J e (fun z=>nomatch z) h
end
structure Ao (k:Nat) (A:Around):Prop where
 hd:A.handled=none
 dp:A.depth+3*k+5<recursionLimit
 un:A.units+16*k+200<cLine
 gd:A.guards=some []
theorem Ao.mono {j k:Nat} {A:Around} (r:Ao k A) (h:j<=k):Ao j A:=⟨r.hd,by have:=r.dp;lia,by have:=r.un;lia,r.gd⟩
theorem Ao.deeper {k:Nat} {A:Around} (r:Ao (k+1) A) (env:Env):Ao k (A.deeper env):=
 ⟨r.hd,by have:=r.dp;show A.depth+1+3*k+5<_;lia,by have:=r.un;show A.units+3+16*k+200<_;lia,r.gd⟩
theorem Ao.depth {k:Nat} {A:Around} (r:Ao k A):A.depth<recursionLimit:=by have:=r.dp;lia
theorem Ao.units {k:Nat} {A:Around} (r:Ao k A):A.units+64<cLine:=by have:=r.un;lia
theorem Ao.JY {k:Nat} {A:Around} (r:Ao k A):A.units<cLine:=by have:=r.un;lia
def Nq:TA:=fun _ H Q=>Q [] H
def Ge (b:TE) (tr:TA):TA:=fun a H Q=>b a H fun x c=>tr a c fun d e=>Q (x::d) e
section
variable{X:Cx} {e:Expr} {es:List Expr} {te:TE} {t:TA} {pos:Pos}
theorem AB:PA X [] Nq:=fun _ _ _ _ H Q I h=>Calls.spliced_nil ⟨[],H,I,.nil,h⟩
theorem AA (c:PE X e te) (d:PA X es t) (f:starEach (e::es) X.env=(false,eval e X.env)::starEach es X.env:=by rfl):PA X (e::es) (Ge te t):=by
 intro pos pins s b H Q I h
 rw[f]
 show wpAny _ _ (spliced ((false,eval e X.env)::backTo pos (starEach es X.env))) _ _ s
 refine Calls.spliced_cons (BS (c pins s b H _ I h) fun u g a=>a.elim fun x i j k l=>?_)
 exact BS (d pos pins g b i _ j l) fun r v a=>a.elim fun m n o p q=>⟨x::m,n,o,.cons k p,q⟩
def VO (t:TA):TE:=fun c H Q=>t c H fun a b=>a.length<=sizeLine/\∀p,b p=none->Q (.ref p) (upd b p (.tup a))
def cB (t:TA):TE:=fun c H Q=>t c H fun a b=>a.length<=sizeLine/\∀p,b p=none->Q (.ref p) (upd b p (.lst a))
theorem Aa {f} (h:PA X es t):PE X (.Tuple es f pos) (VO t):=by
 intro pins s g H Q I i
 refine wpAny_Tuple_spliced (BS (h pos pins s g H _ I i) fun j a ⟨k,c,d,r,z,q⟩=>⟨by rw[<-r.length];exact z,?_⟩)
 have l:c a.heap.objs.size=none:=d.Be.fresh (Nat.le_refl _)
 refine⟨.ref a.heap.objs.size,upd c a.heap.objs.size (.tup k),d.laid (t':=a.toks) (fun b u e=>Heap.get?_push_of_some _ e) (Nat.le_refl _) ?_,rfl,q _ l⟩
 exact⟨z,j,r,⟨_,Heap.get?_push_size _ rfl,rfl,_,rfl⟩⟩
theorem A_ (h:PA X es t):PE X (.List es pos) (cB t):=by
 intro pins s f H Q I g
 refine wpAny_List_spliced (BS (h pos pins s f H _ I g) fun i a ⟨j,c,d,r,z,q⟩=>⟨by rw[<-r.length];exact z,?_⟩)
 have k:c a.heap.objs.size=none:=d.Be.fresh (Nat.le_refl _)
 refine⟨.ref a.heap.objs.size,upd c a.heap.objs.size (.lst j),d.laid (t':=a.toks) (fun b u e=>Heap.get?_push_of_some _ e) (Nat.le_refl _) ?_,rfl,q _ k⟩
 exact⟨z,i,0,r,Heap.get?_push_size _ rfl⟩
end
abbrev Sp:=List V->Hp->VK->XK->Prop
abbrev Tj:=List Env->Hp->Shared->XK->Value->Shared->Prop
structure YI (P:Program) (w:World) (K:AGW) (mg:Str->Option Value) (base:Heap) (A:Around) (outer:List Env) (s:Shared) (H:Hp):Prop where
 frames:A.frames=some outer
 mod:Mod K mg base
 bs:∀b o,base.get? b=some o->s.heap.get? b=some o/\H b=none
 Xx:base.objs.size<=s.heap.objs.size
 JS:s.heap.FunFrames base outer
 gE:∀b∈VB outer,H b=none
 Be:F' P w H s.heap
 bare:AllBare s.gens
inductive CE (outer:List Env) (P:Program) (w:World) (H:Hp) (s:Shared) (Q:VK) (u:Value) (a:Shared):Prop
 |mk (v:V) (H':Hp) (os:a.os=s.os) (bare:AllBare a.gens) (un:Un (VB outer) [] H H' s.heap a.heap) (b:F' P w H' a.heap) (r:RelV v u) (q:Q v H'):CE outer P w H s Q u a
def CR (CX:Tj) (outer:List Env) (P:Program) (w:World) (H:Hp) (s:Shared) (Q:VK) (E:XK) (r:Result) (a:Shared):Prop:=
 match r with
 | .ok (.ret u)=>CE outer P w H s Q u a
 | .ok _=>False
 | .error e=>CX outer H s E e a
structure BH (P:Program) (w:World) (K:AGW) (mg:Str->Option Value) (base:Heap) (CX:Tj) (k:Nat) (f:Addr) (fd:FuncData) (ps:List Str) (sp:Sp):Prop where
 len:∀vs H Q E,sp vs H Q E->vs.length=ps.length
 run:∀(A:Around) (outer:List Env) (s:Shared) (H:Hp) (args:Args) (us:List Value) (vs:List V) (Q:VK) (E:XK),Ao k A->YI P w K mg base A outer s H->BindsTo s fd args (ps.zip us)->Vals vs us->sp vs H Q E->
  codeAny (model P w) A (.call (.ref f) args) (CR CX outer P w H s Q E) s
theorem BH.imp {P:Program} {w:World} {K:AGW} {mg:Str->Option Value} {base:Heap} {CX:Tj} {k:Nat} {f:Addr} {b:FuncData} {c:List Str} {sp a:Sp} (F:BH P w K mg base CX k f b c sp)
  (h:∀vs H Q E,a vs H Q E->sp vs H Q E):BH P w K mg base CX k f b c a:=
 ⟨fun vs H Q E q=>F.len vs H Q E (h _ _ _ _ q),fun A outer s H args d vs Q E e g i j l=>F.run A outer s H args d vs Q E e g i j (h _ _ _ _ l)⟩
section
variable{X:Cx} {pins:List (Addr×Obj)} {σ:St} {H:Hp} {s s':Shared}
theorem Inv.oN (I:Inv X pins σ H s):YI X.prog X.w X.K X.mg X.base X.A X.stack s H:=
 ⟨I.ok.frames,I.ok.mod,I.bs,Nat.le_trans I.ok.Xx I.sz,I.stack,I.ML,I.Be,I.bare⟩
theorem Inv.after {Q:VK} {u:Value} (I:Inv X pins σ H s) (h:CE X.stack X.prog X.w H s Q u s'):EP X pins σ Q u s':=by
 obtain⟨v,e,os,bare,un,a,r,q⟩:=h
 obtain⟨f,g,d,t,c⟩:=s'
 obtain rfl:c=s.os:=os
 exact⟨v,e,I.call (h':=f) (g':=g) (d':=d) (t':=t) (ch:=[]) un a bare (fun b z=>absurd z (by simp)),r,q⟩
end
def Ri (sp:Sp) (a:List V) (E:XK) (t:TA):TE:=fun b H Q=>t b H fun c d=>sp (c++a) d Q E
def Binds (K:AGW) (d:FuncData) (b:List Str) (c:List Value):Prop:=
 ∀(s:Shared) (a:List Value),K.In s.heap->(a++c).length=b.length->BindsTo s d ⟨a,[]⟩ (b.zip (a++c))
theorem Binds.all {K:AGW} {b:FuncData} {a:List Str} (h:∀us:List Value,us.length=a.length->bindArgs b ⟨us,[]⟩=pure (a.zip us)):Binds K b a []:=fun s us _ c=>by
 rw[List.append_nil]at c⊢
 exact .of_eq (h us c)
def Passes (CX:Tj) (X:Cx) (E:XK):Prop:=∀(pins:List (Addr×Obj)) (b:St) (H:Hp) (s:Shared) (e:Value) (a:Shared),Inv X pins b H s->CX X.stack H s E e a->X.xe e a
section
variable{X:Cx} {CX:Tj} {k:Nat} {f C:Addr} {fd:FuncData} {ps:List Str} {sp:Sp} {YJ:List V} {ds:List Value} {E:XK} {x m:Str} {p pos apos:Pos} {e o:Expr} {es:List Expr} {ta:TE} {t:TA}
theorem VP {pins:List (Addr×Obj)} {b:St} {H:Hp} {s:Shared} {Q:VK} {us:List Value} {vs:List V} (F:BH X.prog X.w X.K X.mg X.base CX k f fd ps sp) (d:Ao k X.A) (g:Binds X.K fd ps ds) (i:Vals YJ ds) (j:Passes CX X E)
  (I:Inv X pins b H s) (r:Vals vs us) (h:sp (vs++YJ) H Q E):wpAny (model X.prog X.w) X.A (call (.ref f) us) (EP X pins b Q) X.xe s:=by
 have c:Vals (vs++YJ) (us++ds):=r.append i
 have l:(us++ds).length=ps.length:=by rw[<-c.length];exact F.len _ _ _ _ h
 refine wpAny_call (codeAny_mono (F.run X.A X.stack s H ⟨us,[]⟩ (us++ds) (vs++YJ) Q E d I.oN (g s us I.Ky l) c h) fun r n a=>?_)
 cases r with
 |error e=>exact j pins b H s e n I a
 |ok q=>
  cases q with
  |ret u=>exact I.after a
  |next=>exact False.elim a
  |brk=>exact False.elim a
  |cont=>exact False.elim a
theorem AK (F:BH X.prog X.w X.K X.mg X.base CX k f fd ps sp) (d:Ao k X.A) (g:Gl X x) (i:X.mg x=some (.ref f)) (j:PySem.W.keepIn X.K (.ref f)=true) (l:Binds X.K fd ps ds) (n:Vals YJ ds) (u:Passes CX X E)
  (v:PA X (e::es) t) (a:(x==("__debug__":Str))=false:=by decide) (y:starEach (e::es) X.env=(false,eval e X.env)::starEach es X.env:=by rfl) (b:(backTo pos (starEach es X.env)).any (·.1)=false:=by rfl):
  PE X (.Call (.Name x p) (e::es) [] pos) (Ri sp YJ E t):=by
 intro pins s z H Q I h
 refine wpAny_Call_Name_kw (RZ I g i ?_ a)
 refine PySem.W.callWith_K (h₀:=X.base) I.ok.mod.mD j (BS (v pos pins s z H _ I h) fun D G B=>B.elim fun J L c r q=>⟨c.Ky,?_⟩) y b
 exact VP F d l n u c r q
structure Mk (K:AGW) (C f:Addr):Prop where
 makes:PySem.W.makesIn K C=true
 init:PySem.W.findIn K (.ref C) "__init__"=some (some (.ref f))
 fn:PySem.W.isFn K (.ref f)=true
 kp:PySem.W.keepIn K (.ref C)=true
end
section
variable{X:Cx} {CX:Tj} {k:Nat} {f C:Addr} {fd:FuncData} {ps ks:List Str} {sp:Sp} {E:XK} {x m:Str} {p pos apos ABm:Pos} {e o:Expr} {es:List Expr} {kws:List Keyword} {te ta:TE} {t tk:TA} {nm:Option Str}
structure oO (K:AGW) (fd:FuncData) (ps ks:List Str) (g:List Value->List Value->List Value) (gV:List V->List V->List V):Prop where
 to:∀(s:Shared) (us ws:List Value),K.In s.heap->(g us ws).length=ps.length->BindsTo s fd ⟨us,ks.zip ws⟩ (ps.zip (g us ws))
 rel:∀{vs:List V} {us:List Value} {zs:List V} {ws:List Value},Vals vs us->Vals zs ws->Vals (gV vs zs) (g us ws)
variable{g:List Value->List Value->List Value} {gV:List V->List V->List V}
end
structure Al (N P:List Str) (sc:Scope):Prop where
 kind:sc.kind=.function:=by rfl
 co:sc.isCoroutine=false:=by rfl
 gen:sc.isGenerator=false:=by rfl
 nd:N.Nodup:=by decide+kernel
 pre:N.take P.length=P:=by rfl
 par:∀x∈P,sc.names.lookup x=some .local∨sc.names.lookup x=some .cell:=by decide+kernel
 cC:∀y∈sc.names,y.2≠.free:=by decide+kernel
theorem LV {kindOf:Str->Option NameKind} {x:Str}:∀{binds:List (Str×Value)} {m:Str->Option Value},(∀v,(x,v)∉binds)->bindL kindOf binds m x=m x
 |[],_,_=>rfl
 |(n,v)::r,m,h=>by
  unfold bindL
  rw[LV fun w hw=>h w (List.mem_cons_of_mem _ hw)]
  split
  ·have:x≠n:=by rintro rfl;exact h v List.mem_cons_self
   simp[this]
  ·rfl
theorem LW {kindOf:Str->Option NameKind} {x:Str}:∀{binds:List (Str×Value)} {m:Str->Option Value},(∀v,(x,v)∉binds)->bindC kindOf binds m x=m x
 |[],_,_=>rfl
 |(n,v)::r,m,h=>by
  unfold bindC
  rw[LW fun w hw=>h w (List.mem_cons_of_mem _ hw)]
  split
  ·rfl
  ·have:x≠n:=by rintro rfl;exact h v List.mem_cons_self
   simp[this]
theorem LX {kindOf:Str->Option NameKind} {x:Str} {v:Value}:∀{P:List Str} {vs:List Value} {i:Nat} {m:Str->Option Value},P.Nodup->P[i]?=some x->vs[i]?=some v->kindOf x=some .local->
  bindL kindOf (P.zip vs) m x=some v
 |[],_,_,_,_,h,_,_=>by simp at h
 |_::_,[],_,_,_,_,h,_=>by simp at h
 |p::P,w::vs,0,m,nd,a,b,c=>by
  simp at a b;subst a;subst b
  show bindL kindOf ((p,w)::P.zip vs) m p=_
  unfold bindL
  rw[LV fun v d=>(List.nodup_cons.mp nd).1 (List.of_mem_zip d).1,if_pos c]
  simp
 |p::P,w::vs,i+1,m,nd,a,b,c=>by
  show bindL kindOf ((p,w)::P.zip vs) m x=_
  unfold bindL
  exact LX (i:=i) (List.nodup_cons.mp nd).2 (by simpa using a) (by simpa using b) c
theorem LY {kindOf:Str->Option NameKind} {x:Str} {v:Value}:∀{P:List Str} {vs:List Value} {i:Nat} {m:Str->Option Value},P.Nodup->P[i]?=some x->vs[i]?=some v->kindOf x≠some .local->
  bindC kindOf (P.zip vs) m x=some v
 |[],_,_,_,_,h,_,_=>by simp at h
 |_::_,[],_,_,_,_,h,_=>by simp at h
 |p::P,w::vs,0,m,nd,a,b,c=>by
  simp at a b;subst a;subst b
  show bindC kindOf ((p,w)::P.zip vs) m p=_
  unfold bindC
  rw[LW fun v d=>(List.nodup_cons.mp nd).1 (List.of_mem_zip d).1,if_neg c]
  simp
 |p::P,w::vs,i+1,m,nd,a,b,c=>by
  show bindC kindOf ((p,w)::P.zip vs) m x=_
  unfold bindC
  exact LY (i:=i) (List.nodup_cons.mp nd).2 (by simpa using a) (by simpa using b) c
def start (N:List Str) (vs:List V):St:=vs.map some++List.replicate (N.length-vs.length) none
def Tn (CX:Tj) (P:Program) (w:World) (K:AGW) (mg:Str->Option Value) (base:Heap) (N:List Str) (qual:Str) (scope:Scope) (f:Addr) (cd:Value) (A:Around) (outer:List Env) (s:Shared) (H:Hp) (E:XK):Cx where
 prog:=P
 w:=w
 K:=K
 mg:=mg
 base:=base
 A:=A.deeper (envOfC qual scope s.heap.objs.size f cd)
 N:=N
 s₀:=s
 H₀:=H
 env:=envOfC qual scope s.heap.objs.size f cd
 outer:=outer
 stack:=envOfC qual scope s.heap.objs.size f cd::outer
 ex:=[]
 calm:=true
 fn:=fun _=>true
 pn:=[]
 xe:=fun e s'=>wpAny (model P w) (A.deeper (envOfC qual scope s.heap.objs.size f cd)) (leaving (envOfC qual scope s.heap.objs.size f cd) e) (fun _ iE=>CX outer H s E e iE) (fun e' iE=>CX outer H s E e' iE) s'
theorem Nr {a:Scope} {n:Nat} {x:Str} (h:a.names.lookup x=some .cell):∃c,(cellsFrom n a.names []).lookup x=some c:=by
 have q:=PySem.W.cellsFrom_some a.names n [] (.inl h)
 exact Option.isSome_iff_exists.mp q
theorem To {CX:Tj} {P:Program} {w:World} {K:AGW} {mg:Str->Option Value} {base:Heap} {N j:List Str} {qual:Str} {scope:Scope} {f:Addr} {B:Value} {A:Around} {outer:List Env} {s F:Shared} {H:Hp} {E:XK} {us:List Value} {vs:List V}
  (S:Al N j scope) (J:A.handled=none) (g:YI P w K mg base A outer s H) (hl:vs.length=j.length) (r:Vals vs us)
  (x:InCallC s s.heap.objs.size (bindL (envOfC qual scope s.heap.objs.size f B).kindOf (j.zip us) fun _=>none) (cellsFrom (s.heap.objs.size+1) scope.names []) (bindC (envOfC qual scope s.heap.objs.size f B).kindOf (j.zip us) fun _=>none) F):
  Inv (Tn CX P w K mg base N qual scope f B A outer s H E) [] (start N vs) H F:=by
 have L:j.length<=N.length:=by have:=congrArg List.length S.pre;rw[List.length_take]at this;lia
 obtain⟨C,Q,rfl,G⟩:=x.done
 have l:∀b:Addr,b∉(Tn CX P w K mg base N qual scope f B A outer s H E).ex:=fun b z=>absurd (show b∈([]:List Addr)from z) (by simp)
 refine⟨⟨g.mod,S.kind,rfl,rfl,Nat.le_refl _,fun y z c C d=>?_,fun y m=>?_,fun y c _ h=>?_,fun _=>J,Around.frames_deeper g.frames,.inr ⟨rfl,rfl⟩,fun b z=>absurd z (l b),g.bs,g.Xx,fun b _ _=>l b,fun b z=>absurd z (l b),g.JS,g.gE⟩,
  rfl,g.bare,Un.kept G,⟨_,x.toInCall.ns,fun i y v C d R=>?_⟩,fun y c h=>⟨_,x.cell y c h⟩,g.Be.fresh (Nat.le_refl _),fun y c h=>?_,fun p o=>absurd (show p∈([]:List (Addr×Obj))from o) (by simp),g.Be.kept G,?_⟩
 ·exact name_of_addr x.apart (PySem.mem_of_lookup C) (PySem.mem_of_lookup d)
 ·have m:scope.names.lookup y=some .cell∨scope.names.lookup y=some .free:=m
  rcases m with m|m
  ·exact Nr m
  ·exact absurd rfl (S.cC _ (PySem.mem_of_lookup m))
 ·exact Nat.le_of_lt (x.above y c (PySem.mem_of_lookup h))
 ·have D:i<vs.length:=by
   unfold start at d
   by_cases D:i<vs.length
   ·exact D
   ·rw[List.getElem?_append_right (by simpa using D)]at d
    rw[List.getElem?_replicate]at d
    split at d<;>cases d
  have M:vs[i]?=some v:=by
   unfold start at d
   rw[List.getElem?_append_left (by simpa using D),List.getElem?_map]at d
   cases e:vs[i]? with
   |none=>rw[e]at d;cases d
   |some a=>rw[e]at d;cases d;rfl
  obtain⟨u,I,O⟩:=r.get M
  have o:j[i]?=some y:=by
   rw[<-S.pre,List.getElem?_take_of_lt (by lia)];exact C
  have t:j.Nodup:=by rw[<-S.pre];exact S.nd.sublist (List.take_sublist _ _)
  refine⟨u,O,?_⟩
  rcases S.par y (AGV o)with k|k
  ·exact .inl ⟨k,LX t o I k⟩
  ·obtain⟨c,e⟩:=Nr (n:=s.heap.objs.size+1) k
   refine .inr ⟨.inl k,c,e,?_⟩
   have q:=x.cell y c e
   rw[LY t o I (by show scope.names.lookup y≠_;rw[k];decide)]at q
   exact q
 ·exact g.Be.fresh (Nat.le_of_lt (x.above y c (PySem.mem_of_lookup h)))
 ·unfold start
  show _=N.length
  rw[List.length_append,List.length_map,List.length_replicate]
  lia
theorem iF {CX:Tj} {P:Program} {w:World} {K:AGW} {mg:Str->Option Value} {base:Heap} {k:Nat} {f:Addr} {name qual:Str} {params:Arguments} {body:List Stmt} {scope:Scope} {G kV doc L a ct T:Value} {M U:Option Addr}
  {p:Array (Option Value)} {N m:List Str} {sp:Sp} (lk:K.lookup f=some ⟨T,U,.func (PySem.W.fnOf name qual params body scope G kV doc L M a ct),p⟩) (z:PySem.W.codeIn K a qual=true) (S:Al N m scope)
  (len:∀vs H Q E,sp vs H Q E->vs.length=m.length)
  (g:∀(A:Around) (outer:List Env) (s:Shared) (H:Hp) (vs:List V) (Q:VK) (E:XK),Ao k (A.deeper (envOfC qual scope s.heap.objs.size f a))->sp vs H Q E->
   ∃t,Te (Tn CX P w K mg base N qual scope f a A outer s H E) body t/\t {nx:=fun _ d=>Q .Av d,rt:=Q} (start N vs) H):
  BH P w K mg base CX (k+1) f (PySem.W.fnOf name qual params body scope G kV doc L M a ct) m sp:=by
 refine⟨len,fun A outer s H args X vs Q E B j Y r l=>?_⟩
 have Z:=len _ _ _ _ l
 have O:K.In s.heap:=j.mod.mD.keeps fun b o e=>(j.bs b o e).1
 have C:s.heap.NoLimit:=j.mod.nolimit.keeps fun b o e=>(j.bs b o e).1
 have h:∀y∈m.zip X,scope.names.lookup y.1=some .local∨(scope.names.lookup y.1=some .cell/\((cellsFrom (s.heap.objs.size+1) scope.names []).lookup y.1).isSome=true):=fun⟨n,v⟩ hy=>by
  rcases S.par n (List.of_mem_zip hy).1 with q|q
  ·exact .inl q
  ·exact .inr ⟨q,PySem.W.cellsFrom_some _ _ _ (.inl q)⟩
 refine codeAny_call_function B.depth (O _ _ lk) rfl S.co S.gen rfl (PySem.W.codeRec_of O z) (Y _ _ _ _ ?_)
 refine wpAny_newFunctionEnv_cells S.kind h fun env he R x=>?_
 subst he
 refine⟨C.keeps x.toInCall.keep,codeAny_func ?_⟩
 obtain⟨t,ht,hq⟩:=g A outer s H vs Q E (B.deeper _) l
 have I:Inv (Tn CX P w K mg base N qual scope f a A outer s H E) [] (start N vs) H R:=To S B.hd j Z r x
 refine wpAny_mono (ht [] R (start N vs) H _ I hq) (fun fl D i=>?_) fun e D i=>i
 have fin:∀{c:St} {d:Hp} {v:V} {u:Value},Inv (Tn CX P w K mg base N qual scope f a A outer s H E) [] c d D->RelV v u->Q v d->CE outer P w H s Q u D:=
  fun{c d v u} J F q=>⟨v,d,J.os,J.bare,J.base,J.Be,F,q⟩
 cases fl with
 |ret u=>
  obtain⟨v,c,d,J,F,q⟩:=i
  exact fin J F q
 |next=>
  obtain⟨c,d,J,q⟩:=i
  exact fin (v:=V.Av) (u:=Value.none) J rfl q
 |brk=>
  obtain⟨_,_,_,q⟩:=i
  exact False.elim q
 |cont=>
  obtain⟨_,_,_,q⟩:=i
  exact False.elim q
section
variable{X:Cx} {x:Str} {p pos:Pos} {e:Expr} {es:List Expr} {t:TA} {id T:String} {r:List V->Hp->VK->Prop}
def oP (r:List V->Hp->VK->Prop) (t:TA):TE:=fun a H Q=>t a H fun b c=>r b c Q
theorem AY (d:Bq X (.builtin id) r) (f:Gl X x) (g:X.mg x=none) (i:bootBuiltins x=some (.builtin id)) (j:PA X (e::es) t) (k:x≠"__name__":=by decide) (a:(x==("__debug__":Str))=false:=by decide)
  (l:starEach (e::es) X.env=(false,eval e X.env)::starEach es X.env:=by rfl) (b:(backTo pos (starEach es X.env)).any (·.1)=false:=by rfl):PE X (.Call (.Name x p) (e::es) [] pos) (oP r t):=by
 intro pins s c H Q I h
 refine wpAny_Call_Name_kw (El I f g i ?_ k a)
 exact PyProof.Rows.callWith_builtin1 (BS (j pos pins s c H _ I h) fun m n o=>o.elim fun q u v w y=>d pins n c u q m Q v w y) l b
theorem BR (d:Bq X (.type T) r) (f:Gl X x) (g:X.mg x=none) (i:bootBuiltins x=some (.type T)) (j:PA X (e::es) t) (k:x≠"__name__":=by decide) (a:(x==("__debug__":Str))=false:=by decide)
  (l:starEach (e::es) X.env=(false,eval e X.env)::starEach es X.env:=by rfl) (b:(backTo pos (starEach es X.env)).any (·.1)=false:=by rfl):PE X (.Call (.Name x p) (e::es) [] pos) (oP r t):=by
 intro pins s c H Q I h
 refine wpAny_Call_Name_kw (El I f g i ?_ k a)
 exact PyProof.Rows.callWith_type1 (BS (j pos pins s c H _ I h) fun m n o=>o.elim fun q u v w y=>d pins n c u q m Q v w y) l b
end
end L2
namespace HT
open PySem PyProof.Rows
def lexLt:List Int->List Int->Bool
 |[],[]=>false
 |[],_::_=>true
 |_::_,[]=>false
 |x::xs,y::ys=>if x=y then lexLt xs ys else decide (x<y)
section
open PySem.SeqAt
open PySem.AutoSeq1 (wpAny_loadPart')
open PySem.MeetsSeq PySem.MeetsSeq2 PySem.MeetsSeq3
end
section
variable{prog:Program} {w:World} {A:Around} {E:Value->Shared->Prop} {s:Shared}
theorem YK {t b:Addr} {vs ws:List Value} {Q:Value->Shared->Prop} (r:IsTup s.heap t vs.toArray) (u:IsTup s.heap b ws.toArray) (j:vs≠[])
  (v:ws=[]->Q (.ref t) s) (x:ws≠[]->Q (.ref s.heap.objs.size) {s with heap:=s.heap.push {cls:=.type "tuple",data:=.seq (vs++ws).toArray}})
  (i:vs.length+ws.length<=sizeLine):wpAny (model prog w) A (binaryOp .Add (.ref t) (.ref b)) Q E s:=by
 obtain⟨⟨cls,k,data,l⟩,h,m,n,o⟩:=id r
 obtain⟨⟨p,c,data2,d⟩,a,f,q,g⟩:=id u
 simp only at m o f g
 subst m o f g
 have e:vs.toArray++ws.toArray=(vs++ws).toArray:=by simp
 by_cases hw:ws=[]
 ·exact concat_meets ⟨_,h,rfl⟩ ⟨_,a,rfl⟩ noFill_tuple_add seq_tuple_add PySem.F.slot_tuple_add PySem.F.entry_tuple_add (PySem.F.args_tuple_add_2 _ _)
   (tuple_addW1 t b vs.toArray ws.toArray n q k c l d (by simpa using j) (by simp[hw])) ⟨h,a,v hw⟩
 ·refine concat_meets ⟨_,h,rfl⟩ ⟨_,a,rfl⟩ noFill_tuple_add seq_tuple_add PySem.F.slot_tuple_add PySem.F.entry_tuple_add (PySem.F.args_tuple_add_2 _ _)
   (tuple_addW2 t b vs.toArray ws.toArray n q k c l d (by simpa using j) (by simpa using hw) (by rw[List.size_toArray,List.size_toArray];exact i)) ⟨h,a,?_⟩
  rw[e]
  exact x hw
def Gf (n d:Nat):Option Int->Nat
 |none=>d
 |some v=>if v<0 then(v+(n:Int)).toNat else min v.toNat n
theorem JA (n d k:Nat):Gf n d (some (k:Int))=min k n:=by
 show(if(k:Int)<0 then((k:Int)+(n:Int)).toNat else min (k:Int).toNat n)=min k n
 rw[if_neg (by lia),Int.toNat_natCast]
end
end HT
namespace L2
open PySem PySem.Spec PyProof.Rows
abbrev TO:=St->Hp->(Option Int->Hp->Prop)->Prop
def PO (X:Cx) (e:Option Expr) (t:TO):Prop:=
 ∀(pins:List (Addr×Obj)) (s:Shared) (a:St) (H:Hp) (Q:Option Int->Hp->Prop),Inv X pins a H s->t a H Q->
  wpAny (model X.prog X.w) X.A (evalPart e X.env) (fun u c=>∃o b,Inv X pins a b c/\IsPart u o/\Q o b) X.xe s
def YL:TO:=fun _ H Q=>Q none H
def iG (t:TE):TO:=fun a H Q=>t a H fun x b=>zK x b Q
section
variable{X:Cx} {e:Expr} {te:TE} {lo hi:Option Expr} {tl th:TO} {pos p2:Pos}
theorem Ep:PO X none YL:=by
 intro pins s a H Q I h
 rw[evalPart_none]
 exact wpAny_pure ⟨none,H,I,.none,h⟩
theorem Dh (h:PE X e te):PO X (some e) (iG te):=by
 intro pins s a H Q I hw
 rw[evalPart_some]
 refine BS (h pins s a H _ I hw) fun u j b=>b.elim fun x c d f g=>?_
 obtain⟨i,rfl,q⟩:=g
 obtain⟨t,rfl⟩:=f
 exact⟨some i,c,d,.int i t,q⟩
def oQ (X:Cx) (r:V->Option Int->Option Int->Hp->VK->Prop):Prop:=
 ∀(pins:List (Addr×Obj)) (s:Shared) (a:St) (H:Hp) (x:V) (v b c:Value) (lo hi:Option Int) (d:Addr) (Q:VK),Inv X pins a H s->RelV x v->s.heap.IsSliceOf d b c .none->IsPart b lo->IsPart c hi->r x lo hi H Q->
  ∃T id,typeLookup (.type T) "__getitem__"=pure (some (.builtin id))/\s.TypeIs v T/\wpAny (model X.prog X.w) X.A (getItem v (.ref d)) (EP X pins a Q) X.xe s
def tSl (r:V->Option Int->Option Int->Hp->VK->Prop) (te:TE) (tl th:TO):TE:=fun a H Q=>te a H fun x b=>tl a b fun l c=>th a c fun u d=>r x l u d Q
theorem DR {r:V->Option Int->Option Int->Hp->VK->Prop} (i:oQ X r) (j:PE X e te) (hl:PO X lo tl) (k:PO X hi th):PE X (.Subscript e (.Slice lo hi none p2) pos) (tSl r te tl th):=by
 intro pins s c H Q I h
 refine Subscript_ (BS (j pins s c H _ I h) fun v m n=>n.elim fun x o p t y=>?_)
 refine wpAny_Slice (BS (hl pins m c o _ p y) fun d z ⟨l,B,C,pl,D⟩=>BS (k pins z c B _ C D) fun f a ⟨u,g,E,F,G⟩=>?_)
 rw[evalPart_none]
 refine wpAny_pure ?_
 have J:Inv X pins c g {a with heap:=a.heap.push {cls:=.type "slice",data:=.fields #[d,f,.none]}}:=E.kept (t':=a.toks) fun b N q=>Heap.get?_push_of_some _ q
 obtain⟨T,id,K,L,M⟩:=i pins {a with heap:=a.heap.push {cls:=.type "slice",data:=.fields #[d,f,.none]}} c g x v d f l u a.heap.objs.size Q J t (Heap.IsSliceOf.new ..) pl F G
 show wpAny (model X.prog X.w) X.A (subscriptTail e (.Slice lo hi none p2) v (.ref a.heap.objs.size)) (EP X pins c Q) X.xe {a with heap:=a.heap.push {cls:=.type "slice",data:=.fields #[d,f,.none]}}
 exact tail_any (ops:=[.ref a.heap.objs.size,v]) L K M (by with_unfolding_all rfl)
def HZ (xs:List V) (lo hi:Option Int):List V:=(xs.drop (HT.Gf xs.length 0 lo)).take (HT.Gf xs.length xs.length hi-HT.Gf xs.length 0 lo)
theorem Nt (xs:List V) (lo hi:Option Int):(HZ xs lo hi).length<=xs.length:=by
 unfold HZ
 rw[List.length_take,List.length_drop]
 lia
inductive iH (K:AGW) (x:V) (lo:Option Int) (hi:Option Int) (H:Hp) (Q:VK):Prop
 |mk (a:_) (xs:_) (b:x=.ref a) (c:Bf K H a xs) (d:¬(HT.Gf xs.length 0 lo=0/\HT.Gf xs.length xs.length hi=xs.length)) (f:∀p,H p=none->Q (.ref p) (upd H p (.tup (HZ xs lo hi)))):iH K x lo hi H Q
inductive iI (K:AGW) (x:V) (y:V) (H:Hp) (Q:VK):Prop
 |mk (a:_) (b:_) (c:_) (ms:_) (d:x=.ref a) (f:y=.ref b) (g:Bf K H a (c.map V.int)) (h:Bf K H b (ms.map V.int)) (i:Q (.bl (HT.lexLt c ms)) H):iI K x y H Q
inductive VQ (K:AGW) (x:V) (y:V) (H:Hp) (Q:VK):Prop
 |mk (a:_) (b:_) (xs:_) (ys:_) (c:x=.ref a) (d:y=.ref b) (f:Bf K H a xs) (g:Bf K H b ys) (h:xs≠[]) (i:xs.length+ys.length<=sizeLine) (j:(ys=[]->Q (.ref a) H)) (k:(ys≠[]->∀p,H p=none->Q (.ref p) (upd H p (.tup (xs++ys))))):VQ K x y H Q
def iJ (K:AGW):R2:=fun x y H Q=>VQ K x y H Q
theorem Vals.JB {xs:List V} {us:List Value} (r:Vals xs us):us=[]↔xs=[]:=by
 cases r with
 |nil=>simp
 |cons _ _=>simp
theorem YM:EL X (binaryOp .Add) (iJ X.K):=by
 intro pins s C H x y v u Q I i j h
 obtain⟨a,b,k,l,rfl,rfl,m,n,p,f,r,t⟩:=h
 cases i
 cases j
 obtain⟨A,d,B,_⟩:=I.tuple m
 obtain⟨g,c,p2,_⟩:=I.tuple n
 refine HT.YK B p2 (fun z=>p (d.JB.mp z)) (fun z=>⟨.ref a,H,I,rfl,r (c.JB.mp z)⟩) (fun z=>?_) (by rw[<-d.length,<-c.length];exact f)
 refine⟨.ref s.heap.objs.size,_,I.laid (t':=s.toks) (o:=.tup (k++l)) (fun b D q=>Heap.get?_push_of_some _ q) (Nat.le_refl _) ?_,rfl,t (fun w=>z (c.JB.mpr w)) _ (I.Be.fresh (Nat.le_refl _))⟩
 exact⟨by rw[List.length_append];exact f,_,d.append c,IsTup.new _ _⟩
inductive JZ (K:AGW) (xs:List V) (H:Hp) (Q:VK):Prop
 |mk (a:_) (ys:_) (b:xs=[.ref a]) (c:Bf K H a ys) (d:Q (.ref a) H):JZ K xs H Q
end
def QN (n:Nat) (i:Int):Option Nat:=if 0<=i then(if i<n then some i.toNat else none)else if-(n:Int)<=i then some (i+n).toNat else none
def Ja {a:Type} (xs:List a) (i:Int):Option a:=(QN xs.length i).bind fun j=>xs[j]?
theorem Gg {n:Nat} {i:Int} {j:Nat} (h:QN n i=some j):seqIndex? i n=some j/\j<n/\ -(n:Int)<=i/\i<n:=by
 unfold QN at h
 by_cases b:0<=i
 ·rw[if_pos b]at h
  by_cases a:i<n
  ·rw[if_pos a]at h
   have e:i.toNat=j:=AGU h
   exact⟨by rw[seqIndex_of b a,e],by lia,by lia,a⟩
  ·rw[if_neg a]at h;cases h
 ·rw[if_neg b]at h
  by_cases a: -(n:Int)<=i
  ·rw[if_pos a]at h
   have e:(i+n).toNat=j:=AGU h
   exact⟨by rw[seqIndex_neg (by lia) a,e],by lia,a,by lia⟩
  ·rw[if_neg a]at h;cases h
theorem JC {a:Type} {xs:List a} {i:Int} {v:a} (h:Ja xs i=some v):∃j,seqIndex? i xs.length=some j/\xs[j]?=some v/\j<xs.length/\ -(xs.length:Int)<=i/\i<xs.length:=by
 unfold Ja at h
 cases e:QN xs.length i with
 |none=>rw[e]at h;cases h
 |some j=>
  rw[e]at h
  obtain⟨b,c,d,f⟩:=Gg e
  exact⟨j,b,h,c,d,f⟩
theorem BA {a:Type} {xs:List a} {j:Nat} {v:a} (h:xs[j]?=some v):Ja xs (j:Int)=some v:=by
 have b:j<xs.length:=(AGT h).1
 have e:QN xs.length (j:Int)=some j:=by
  unfold QN
  rw[if_pos (by lia),if_pos (by lia)];simp
 unfold Ja;rw[e];exact h
theorem Gh {a:Type} (xs:List a) (v:a):Ja (xs++[v]) (-1)=some v:=by
 have b:(xs++[v]).length=xs.length+1:=by simp
 have e:QN (xs++[v]).length (-1)=some xs.length:=by
  unfold QN
  rw[b,if_neg (by decide),if_pos (by lia)]
  congr 1
  lia
 unfold Ja
 rw[e]
 show(xs++[v])[xs.length]?=some v
 simp
def YN (b:Expr):Prop:=∀o i,subscripted b false o i=operate [o,i] (getItem o i)
def mN (X:Cx) (r:R2):Prop:=
 ∀(value slice:Expr) (pins:List (Addr×Obj)) (s:Shared) (a:St) (H:Hp) (x y:V) (v u:Value) (Q:VK),Inv X pins a H s->RelV x v->RelV y u->r x y H Q->
  subscripted slice false v u=operate [v,u] (getItem v u)->wpAny (model X.prog X.w) X.A (subscriptTail value slice v u) (EP X pins a Q) X.xe s
def zO (X:Cx) (id:String) (r:V->List V->Hp->VK->Prop):Prop:=
 ∀(pins:List (Addr×Obj)) (s:Shared) (a:St) (H:Hp) (x:V) (b:List V) (v:Value) (c:List Value) (Q:VK),Inv X pins a H s->RelV x v->Vals b c->r x b H Q->
  wpAny (model X.prog X.w) X.A (call (.builtin id) (v::c)) (EP X pins a Q) X.xe s
section
variable{X:Cx} {a b:Expr} {ta tb:TE} {pos:Pos}
theorem Az {r:R2} (c:mN X r) (d:PE X a ta) (e:PE X b tb) (f:YN b):PE X (.Subscript a b pos) (U_ r ta tb):=by
 intro pins s g H Q I h
 exact Subscript_ (br d e I h fun v u i x y j k l m q=>c a b pins i g j x y v u Q k l m q (f _ _))
inductive aN (K:AGW) (x:V) (y:V) (H:Hp) (Q:VK):Prop
 |mk (p:_) (xs:_) (i:_) (v:_) (c:x=.ref p) (d:y=.int i) (e:An K H p xs) (f:Ja xs i=some v) (g:Q v H):aN K x y H Q
def Bp (K:AGW):R2:=fun x y H Q=>aN K x y H Q
inductive aO (K:AGW) (x:V) (y:V) (H:Hp) (Q:VK):Prop
 |mk (p:_) (xs:_) (i:_) (v:_) (c:x=.ref p) (d:y=.int i) (e:Bf K H p xs) (f:Ja xs i=some v) (g:Q v H):aO K x y H Q
def MX (K:AGW):R2:=fun x y H Q=>aO K x y H Q
inductive aP (x:V) (y:V) (H:Hp) (Q:VK):Prop
 |mk (z:_) (i:_) (c:_) (d:x=.str z) (e:y=.int i) (f:z.length<=sizeLine) (g:Ja z.cps.toList i=some c) (h:Q (.str ⟨#[c]⟩) H):aP x y H Q
def oR:R2:=fun x y H Q=>aP x y H Q
theorem Ae:mN X (Bp X.K):=by
 intro value slice pins s g H x y v u Q I n o h k
 obtain⟨p,J,i,z,rfl,rfl,A,B,q⟩:=h
 cases n
 obtain⟨t,rfl⟩:=o
 obtain⟨d,r,pl,L⟩:=I.list A
 obtain⟨j,c,C,M,D,E⟩:=JC B
 obtain⟨w,l,e⟩:=r.get C
 have F:=r.length
 have N:=HX
 have fin:EP X pins g Q w s:=⟨z,H,I,e,q⟩
 by_cases m:0<=i
 ·have f:i.toNat=j:=by
   rw[seqIndex_of m E]at c
   exact AGU c
  exact item_listR pl.isList m (by lia) (by rw[f];simpa using l) fin k
 ·have f:(i+(d.toArray.size:Int)).toNat=j:=by
   rw[seqIndex_neg (by lia) D]at c
   rw[List.size_toArray,<-F]
   exact AGU c
  exact subscriptTail_builtinR (x:=w) pl.isList.typeIs slot_list_getitem.lookup
   (wpAny_getItem_list_neg (Q:=fun r G=>r=w/\EP X pins g Q r G) pl.isList (by lia) (by rw[List.size_toArray]<;>lia) (by lia) (by rw[f];simpa using l) ⟨rfl,fin⟩) k
theorem GL:mN X (MX X.K):=by
 intro value slice pins s d H x y v u Q I e f h g
 obtain⟨p,D,i,z,rfl,rfl,k,l,q⟩:=h
 cases e
 obtain⟨t,rfl⟩:=f
 obtain⟨m,r,pl,E⟩:=I.tuple k
 obtain⟨j,n,o,F,G,J⟩:=JC l
 obtain⟨w,A,c⟩:=r.get o
 have B:=r.length
 have L:=HX
 have fin:EP X pins d Q w s:=⟨z,H,I,c,q⟩
 exact subscriptTail_builtinR (x:=w) pl.typeIs slot_tuple_getitem.lookup
  (getItem_tuple (j:=j) (Q:=fun r C=>r=w/\EP X pins d Q r C) pl (by lia) (by lia) (by rw[List.size_toArray,<-B];exact n) (by simpa using A) ⟨rfl,fin⟩) g
theorem QO:mN X oR:=by
 intro value slice pins s w H x y v u Q I e f h g
 obtain⟨z,i,c,rfl,rfl,A,k,q⟩:=h
 obtain⟨t,rfl⟩:=e
 obtain⟨B,rfl⟩:=f
 obtain⟨j,d,l,C,m,n⟩:=JC k
 have o:z.cps.toList.length=z.length:=by simp[Str.length]
 rw[o]at d m n
 have D:=HX
 exact tail_any (typeIs_str s z t) slot_str_getitem.lookup (getItem_str (c:=c) (by
  have p:decide (i< -(2 ^ 63:Int))=false:=decide_eq_false (by lia)
  have r:decide (i≥2 ^ 63)=false:=decide_eq_false (by lia)
  rw[p,r,Bool.or_false]) (by rw[d];simpa using l) ⟨.str ⟨#[c]⟩,H,I.tok _,⟨_,rfl⟩,q⟩) g
theorem QP (its:List Value) (n j:Nat) (u:Value):Obj.mapSeq (·.setIfInBounds j u) {cls:=.type "list",data:=.seq its.toArray n}={cls:=.type "list",data:=.seq (its.set j u).toArray n}:=by
 simp[Obj.mapSeq]
theorem Inv.lst {pins:List (Addr×Obj)} {c:St} {H:Hp} {s:Shared} {p:Addr} {xs:List V} (I:Inv X pins c H s) (h:H p=some (.lst xs)):
  ∃(its:List Value) (n:Nat),Vals xs its/\s.heap.get? p=some {cls:=.type "list",data:=.seq its.toArray n}/\xs.length<=sizeLine:=by
 obtain⟨z,its,n,r,e⟩:=I.Be p _ h
 exact⟨its,n,r,e,z⟩
theorem Inv.cD {pins:List (Addr×Obj)} {d:St} {H:Hp} {s:Shared} {p:Addr} {xs ys:List V} {its its':List Value} {n c:Nat} {f:Obj->Obj} (I:Inv X pins d H s) (h:H p=some (.lst xs))
  (i:s.heap.get? p=some {cls:=.type "list",data:=.seq its.toArray n}) (g:f {cls:=.type "list",data:=.seq its.toArray n}={cls:=.type "list",data:=.seq its'.toArray c}) (r:Vals ys its') (j:ys.length<=sizeLine) (t:Nat):
  Inv X pins d (upd H p (.lst ys)) {s with heap:=s.heap.update p f,toks:=t}:=by
 have e:(s.heap.update p f).get? p=some {cls:=.type "list",data:=.seq its'.toArray c}:=by
  rw[Heap.get?_update_self f i (by rw[g]<;>rfl),g]
 refine I.write (x:=p) (e:=p) (by rw[h];trivial) (.inl rfl) (fun b u k q=>(Heap.get?_update_other _ _ (Ne.symm k)).trans q) ⟨_,e⟩ ?_
 exact⟨j,its',c,r,e⟩
inductive VR (o:V) (i:V) (v:V) (H:Hp) (Q:(Hp->Prop)):Prop
 |mk (p:_) (xs:_) (k:_) (j:_) (c:o=.ref p) (d:i=.int k) (e:H p=some (.lst xs)) (f:QN xs.length k=some j) (g:Q (upd H p (.lst (xs.set j v)))):VR o i v H Q
def iK:V->V->V->Hp->(Hp->Prop)->Prop:=fun o i v H Q=>VR o i v H Q
theorem set_list:hC X iK:=by
 intro pins s z H o i v ov G u Q I A B C h
 obtain⟨p,D,k,j,rfl,rfl,l,E,q⟩:=h
 cases A
 obtain⟨t,rfl⟩:=B
 obtain⟨c,n,r,e,F⟩:=I.lst l
 obtain⟨d,J,m,w⟩:=Gg E
 have f:=r.length
 have K:=HX
 have x:Inv X pins z (upd H p (.lst (D.set j v))) {s with heap:=s.heap.update p (Obj.mapSeq (·.setIfInBounds j u))}:=
  I.cD l e (QP c n j u) (r.set C j) (by rw[List.length_set];exact F) s.toks
 by_cases y:0<=k
 ·have g:k.toNat=j:=by
   rw[seqIndex_of y w]at d
   exact AGU d
  exact PySem.W.ki_setAt e y (by lia) (by rw[List.size_toArray,<-f];exact w) (by rw[g];exact⟨_,x,q⟩)
 ·have g:(k+(c.toArray.size:Int)).toNat=j:=by
   rw[seqIndex_neg (by lia) m]at d
   rw[List.size_toArray,<-f]
   exact AGU d
  exact PySem.W.ki_setBack e (by lia) (by rw[List.size_toArray,<-f];exact m) (by lia) (by rw[g];exact⟨_,x,q⟩)
theorem MY (lo c:Option Int) (n:Nat):(sliceBounds lo c none n).1=((HT.Gf n 0 lo:Nat):Int)/\(sliceBounds lo c none n).2.1=((HT.Gf n n c:Nat):Int)/\(sliceBounds lo c none n).2.2=1:=by
 refine⟨?_,?_,rfl⟩
 ·cases lo with
  |none=>simp[sliceBounds,HT.Gf]
  |some i=>
   simp only[sliceBounds,HT.Gf,Option.getD_none,show(1:Int)>0 by decide,if_true]
   by_cases h:i<0
   ·simp only[h,if_true]<;>lia
   ·simp only[h,if_false]<;>lia
 ·cases c with
  |none=>simp[sliceBounds,HT.Gf]
  |some i=>
   simp only[sliceBounds,HT.Gf,Option.getD_none,show(1:Int)>0 by decide,if_true]
   by_cases h:i<0
   ·simp only[h,if_true]<;>lia
   ·simp only[h,if_false]<;>lia
theorem K' (its:List Value) (lo c:Option Int):slicePick its.toArray lo c none=((its.drop (HT.Gf its.length 0 lo)).take (HT.Gf its.length its.length c-HT.Gf its.length 0 lo)).toArray:=by
 obtain⟨d,e,f⟩:=MY lo c its.toArray.size
 unfold slicePick
 rw[d,e,f]
 simp only[sliceRange_one,pick_run,List.size_toArray]<;>rfl
inductive aQ (K:AGW) (x:V) (lo:Option Int) (c:Option Int) (H:Hp) (Q:VK):Prop
 |mk (a:_) (xs:_) (d:x=.ref a) (e:An K H a xs) (f:∀p,H p=none->Q (.ref p) (upd H p (.lst (HZ xs lo c)))):aQ K x lo c H Q
def VS (K:AGW):V->Option Int->Option Int->Hp->VK->Prop:=fun x lo c H Q=>aQ K x lo c H Q
theorem JD:oQ X (VS X.K):=by
 intro pins s m H x v n p lo d t Q I f g pl i h
 obtain⟨a,c,rfl,j,q⟩:=h
 cases f
 obtain⟨k,r,e,l⟩:=I.list j
 have hlen:=r.length
 refine⟨"list",_,slot_list_getitem.lookup,e.isList.typeIs,?_⟩
 refine wpAny_getItem_list_slice e.isList g pl i .none (by simp) ?_ (by rw[List.size_toArray]<;>lia)
 rw[K',<-hlen]
 refine⟨.ref s.heap.objs.size,_,I.laid (t':=s.toks) (o:=.lst (HZ c lo d)) (fun b u q=>Heap.get?_push_of_some _ q) (Nat.le_refl _) ?_,rfl,q _ (I.Be.fresh (Nat.le_refl _))⟩
 exact⟨Nat.le_trans (Nt c lo d) l,_,0,(r.drop (HT.Gf c.length 0 lo)).take (HT.Gf c.length c.length d-HT.Gf c.length 0 lo),Heap.get?_push_size _ rfl⟩
def DZ:V->Bool
 | .Av=>true
 | .bl _=>true
 | .int _=>true
 | .str _=>true
 |_=>false
def Tp:V->V->Bool
 | .Av,.Av=>true
 | .bl a,.bl b=>a==b
 | .bl a,.int b=>(if a then 1 else 0)==b
 | .int a,.bl b=>a==(if b then 1 else 0)
 | .int a,.int b=>a==b
 | .str a,.str b=>a==b
 |_,_=>false
theorem cE {A:Around} {s:Shared} {y x:V} {u v:Value} (e:RelV y u) (c:RelV x v) (g:DZ y=true) (f:DZ x=true):SeqAt.EqAt A s u v (Tp y x):=by
 cases y with
 |Av=>
  cases e
  cases x with
  |Av=>cases c;exact SeqAt.EqAt.same _
  |bl b=>cases c;exact SeqAt.EqAt.none_bool b
  |int b=>obtain⟨t,rfl⟩:=c;exact SeqAt.EqAt.none_int b t
  |str b=>obtain⟨t,rfl⟩:=c;exact SeqAt.EqAt.none_str b t
  |_=>exact absurd (show false=true from f) Bool.false_ne_true
 |bl a=>
  cases e
  cases x with
  |Av=>cases c;exact SeqAt.EqAt.bool_none a
  |bl b=>cases c;exact SeqAt.EqAt.bool_bool a b
  |int b=>obtain⟨t,rfl⟩:=c;exact SeqAt.EqAt.bool_int a b t
  |str b=>obtain⟨t,rfl⟩:=c;exact SeqAt.EqAt.bool_str a b t
  |_=>exact absurd (show false=true from f) Bool.false_ne_true
 |int a=>
  obtain⟨d,rfl⟩:=e
  cases x with
  |Av=>cases c;exact SeqAt.EqAt.int_none a d
  |bl b=>cases c;exact SeqAt.EqAt.int_bool a d b
  |int b=>obtain⟨t,rfl⟩:=c;exact SeqAt.EqAt.int_int a d b t
  |str b=>obtain⟨t,rfl⟩:=c;exact SeqAt.EqAt.int_str a d b t
  |_=>exact absurd (show false=true from f) Bool.false_ne_true
 |str a=>
  obtain⟨d,rfl⟩:=e
  cases x with
  |Av=>cases c;exact SeqAt.EqAt.str_none a d
  |bl b=>cases c;exact SeqAt.EqAt.str_bool a d b
  |int b=>obtain⟨t,rfl⟩:=c;exact SeqAt.EqAt.str_int a d b t
  |str b=>obtain⟨t,rfl⟩:=c;exact SeqAt.EqAt.str_str a d b t
  |_=>exact absurd (show false=true from f) Bool.false_ne_true
 |_=>exact absurd (show false=true from g) Bool.false_ne_true
def QQ (x:V) (u:Value):Bool:=match u with
 | .none=>Tp .Av x
 | .bool b=>Tp (.bl b) x
 | .int i _=>Tp (.int i) x
 | .str z _=>Tp (.str z) x
 |_=>false
theorem VT {x y:V} {u:Value} (r:RelV y u) (f:DZ y=true):QQ x u=Tp y x:=by
 cases y with
 |Av=>cases r;rfl
 |bl b=>cases r;rfl
 |int i=>obtain⟨t,rfl⟩:=r;rfl
 |str z=>obtain⟨t,rfl⟩:=r;rfl
 |_=>exact absurd (show false=true from f) Bool.false_ne_true
theorem Gi {x:V}:∀{xs:List V} {us:List Value},Vals xs us->xs.all DZ=true->us.any (QQ x)=xs.any fun y=>Tp y x
 |_,_,.nil,_=>rfl
 |y::xs,u::us,.cons r t,f=>by
  rw[List.all_cons,Bool.and_eq_true]at f
  rw[List.any_cons,List.any_cons,VT r f.1,Gi t f.2]
theorem FL {A:Around} {s:Shared} {x:V} {v:Value} (d:RelV x v) (e:DZ x=true):∀{xs:List V} {us:List Value},Vals xs us->xs.all DZ=true->∀u∈us,SeqAt.EqAt A s u v (QQ x u)
 |_,_,.nil,_=>fun u c=>by cases c
 |y::xs,u::us,.cons r t,f=>fun g c=>by
  rw[List.all_cons,Bool.and_eq_true]at f
  rcases List.mem_cons.mp c with rfl|c
  ·rw[VT r f.1];exact cE r d f.1 e
  ·exact FL d e t f.2 g c
def Nu (x:V) (xs:List V):Bool:=xs.any fun y=>Tp y x
inductive iL (K:AGW) (c:Bool) (x:V) (y:V) (H:Hp) (Q:VK):Prop
 |mk (p:_) (xs:_) (d:y=.ref p) (e:(An K H p xs∨Bf K H p xs)) (f:DZ x=true) (g:xs.all DZ=true) (h:Q (.bl (if c then !Nu x xs else Nu x xs)) H):iL K c x y H Q
def cF (K:AGW) (c:Bool):R2:=fun x y H Q=>iL K c x y H Q
theorem Fg:EL X (compareOp .In) (cF X.K false):=by
 intro pins s j H x y v u Q I e g h
 obtain⟨p,k,rfl,d,f,fs,q⟩:=h
 cases g
 rcases d with d|d
 ·obtain⟨c,r,pl,i⟩:=I.list d
  refine SeqAt.in_listAt (QQ x) pl.isList (fun w hw=>FL e f r fs w (by simpa using hw)) ⟨.bl _,H,I,rfl,?_⟩
  rw[show c.toArray.any (QQ x)=c.any (QQ x)by simp,Gi r fs]
  exact q
 ·obtain⟨c,r,pl,i⟩:=I.tuple d
  refine SeqAt.in_tupleAt (QQ x) pl (fun w hw=>FL e f r fs w (by simpa using hw)) ⟨.bl _,H,I,rfl,?_⟩
  rw[show c.toArray.any (QQ x)=c.any (QQ x)by simp,Gi r fs]
  exact q
theorem MZ:EL X (compareOp .NotIn) (cF X.K true):=by
 intro pins s j H x y v u Q I e g h
 obtain⟨p,k,rfl,d,f,fs,q⟩:=h
 cases g
 rcases d with d|d
 ·obtain⟨c,r,pl,i⟩:=I.list d
  refine SeqAt.notIn_listAt (QQ x) pl.isList (fun w hw=>FL e f r fs w (by simpa using hw)) ⟨.bl _,H,I,rfl,?_⟩
  rw[show c.toArray.any (QQ x)=c.any (QQ x)by simp,Gi r fs]
  exact q
 ·obtain⟨c,r,pl,i⟩:=I.tuple d
  refine SeqAt.notIn_tupleAt (QQ x) pl (fun w hw=>FL e f r fs w (by simpa using hw)) ⟨.bl _,H,I,rfl,?_⟩
  rw[show c.toArray.any (QQ x)=c.any (QQ x)by simp,Gi r fs]
  exact q
inductive Iq (x:V) (y:V) (H:Hp) (Q:VK):Prop
 |mk (i:_) (j:_) (c:x=.str i) (d:y=.str j) (e:Q (.bl (!(!(Builtin.Str.occurrences j i 0 j.length 1).isEmpty))) H):Iq x y H Q
inductive FD (K:AGW) (xs:List V) (H:Hp) (Q:VK):Prop
 |mk (p:_) (ys:_) (c:xs=[.ref p]) (d:(An K H p ys∨Bf K H p ys)) (e:Q (.int ys.length) H):FD K xs H Q
def FN (K:AGW):List V->Hp->VK->Prop:=fun c H Q=>FD K c H Q
theorem Ag:Bq X (.builtin "len") (FN X.K):=by
 intro pins s j H k l Q I r h
 obtain⟨p,f,rfl,c,q⟩:=h
 obtain⟨u,rfl,g⟩:=vals1 r
 cases g
 have m:=HX
 rcases c with c|c
 ·obtain⟨d,e,pl,i⟩:=I.list c
  have hlen:=e.length
  exact Calls.call_len_list pl.isList (by simp only[List.size_toArray]<;>lia) ⟨.int f.length,H,I.tok _,⟨s.toks+1,by rw[List.size_toArray,hlen]⟩,q⟩
 ·obtain⟨d,e,pl,i⟩:=I.tuple c
  have hlen:=e.length
  exact len_tuple pl (by simp only[List.size_toArray]<;>lia) ⟨.int f.length,H,I.tok _,⟨s.toks+1,by rw[List.size_toArray,hlen]⟩,q⟩
inductive Ir (xs:List V) (H:Hp) (Q:VK):Prop
 |mk (z:_) (c:xs=[.str z]) (d:z.length<=sizeLine) (e:Q (.int z.length) H):Ir xs H Q
inductive FE (K:AGW) (xs:List V) (H:Hp) (Q:VK):Prop
 |mk (p:_) (ys:_) (c:xs=[.ref p]) (d:(An K H p ys∨Bf K H p ys)) (e:∀l,H l=none->Q (.ref l) (upd H l (.lst ys))):FE K xs H Q
def Jb (K:AGW):List V->Hp->VK->Prop:=fun c H Q=>FE K c H Q
theorem Er:Bq X (.type "list") (Jb X.K):=by
 intro pins s y H A B Q I r h
 obtain⟨p,l,rfl,i,q⟩:=h
 obtain⟨u,rfl,z⟩:=vals1 r
 cases z
 have fin:∀(c:List Value),Vals l c->l.length<=sizeLine->∀(d:Heap) (f:Nat),(∀b x,s.heap.get? b=some x->d.get? b=some x)->
   d.get? s.heap.objs.size=some {cls:=.type "list",dict:=none,data:=.seq c.toArray f,slots:= #[]}->EP X pins y Q (.ref s.heap.objs.size) {s with heap:=d}:=fun c g j d f k e=>
  ⟨.ref s.heap.objs.size,_,I.laid (t':=s.toks) k (Nat.le_refl _) (show BO X.prog X.w _ d _ (.lst l)from⟨j,c,f,g,e⟩),rfl,q _ (I.Be.fresh (Nat.le_refl _))⟩
 rcases i with i|i
 ·obtain⟨c,g,pl,j⟩:=I.list i
  have hlen:=g.length
  obtain⟨o,m,t,n,v⟩:=pl.isList
  exact call_list_seq p (.inl rfl) m t v (fun d f k e=>fin c g j d f k e) (by simp only[List.size_toArray]<;>lia)
 ·obtain⟨c,g,pl,j⟩:=I.tuple i
  have hlen:=g.length
  obtain⟨o,m,t,n,v⟩:=pl
  exact call_list_seq p (.inr rfl) m t v (fun d f k e=>fin c g j d f k e) (by simp only[List.size_toArray]<;>lia)
inductive EY (K:AGW) (xs:List V) (H:Hp) (Q:VK):Prop
 |mk (p:_) (ys:_) (c:xs=[.ref p]) (d:((An K H p ys/\∀l,H l=none->Q (.ref l) (upd H l (.tup ys)))∨(Bf K H p ys/\Q (.ref p) H))):EY K xs H Q
def Iu (K:AGW):List V->Hp->VK->Prop:=fun c H Q=>EY K c H Q
theorem LA:Bq X (.type "tuple") (Iu X.K):=by
 intro pins s i H v x Q I r h
 obtain⟨p,j,rfl,h⟩:=h
 obtain⟨u,rfl,m⟩:=vals1 r
 cases m
 rcases h with⟨f,q⟩|⟨f,q⟩
 ·obtain⟨c,g,pl,k⟩:=I.list f
  have hlen:=g.length
  refine call_tuple_list pl.isList (fun d n=>?_) (by simp only[List.size_toArray]<;>lia)
  have l:Inv X pins i H {s with heap:=d}:=I.kept (t':=s.toks) n
  have t:Inv X pins i (upd H d.objs.size (.tup j)) {s with heap:=d.push {cls:=.type "tuple",data:=.seq c.toArray}}:=
   l.laid (t':=s.toks) (fun b o e=>Heap.get?_push_of_some _ e) (Nat.le_refl _) (show BO X.prog X.w _ _ _ (.tup j)from⟨k,c,g,IsTup.new _ _⟩)
  exact⟨.ref d.objs.size,_,t,rfl,q _ (l.Be.fresh (Nat.le_refl _))⟩
 ·obtain⟨c,g,pl,k⟩:=I.tuple f
  exact call_tuple_same pl ⟨.ref p,H,I,rfl,q⟩
def oS (K:AGW) (T:String) (x:V) (H:Hp):Prop:=match x with
 | .str _=>T="str"
 | .int _=>T="int"
 | .ref p=>(T="list"/\∃c,An K H p c)∨(T="tuple"/\∃o,K.lookup p=some o/\o.cls=.type "tuple"/\o.dict=none)∨
   (T="dict"/\((∃kvs,H p=some (.dK kvs))∨∃kvs,H p=some (.dT kvs)))∨(T="set"/\∃S n,H p=some (.set S n))
 |_=>False
theorem VU {pins:List (Addr×Obj)} {k:St} {H:Hp} {s:Shared} {T:String} {x:V} {v:Value} (I:Inv X pins k H s) (r:RelV x v) (ty:oS X.K T x H):
  s.TypeIs v T/\∀a,v=.ref a->∃j,s.heap.get? a=some j/\j.dict=none:=by
 cases x with
 |str z=>
  obtain⟨t,rfl⟩:=r
  cases(show T="str"from ty)
  exact⟨typeIs_str s z t,fun _ e=>nomatch e⟩
 |int i=>
  obtain⟨t,rfl⟩:=r
  cases(show T="int"from ty)
  exact⟨typeIs_int s i t,fun _ e=>nomatch e⟩
 |ref p=>
  cases r
  rcases ty with⟨rfl,u,l⟩|⟨rfl,o,d,m,g⟩|⟨rfl,d⟩|⟨rfl,S,n,d⟩
  ·obtain⟨q,_,pl,_⟩:=I.list l
   refine⟨pl.isList.typeIs,fun a e=>?_⟩
   cases e
   obtain⟨o,n,e,c,g,_⟩:=pl
   exact⟨o,e,g⟩
  ·refine⟨⟨o,I.Ky p o d,m⟩,fun a e=>?_⟩
   cases e
   exact⟨o,I.Ky _ o d,g⟩
  ·have z:∃o,s.heap.get? p=some o/\o.ExactDict:=by
    rcases d with⟨kvs,d⟩|⟨kvs,d⟩
    ·obtain⟨_,_,_,_,o,_,_,e,f,_⟩:=I.Be p _ d
     exact⟨o,e,f⟩
    ·obtain⟨_,_,_,_,o,_,_,e,f,_⟩:=I.Be p _ d
     exact⟨o,e,f⟩
   obtain⟨o,e,f⟩:=z
   refine⟨⟨o,e,f.1⟩,fun a h=>?_⟩
   cases h
   exact⟨o,e,f.2.1⟩
  ·obtain⟨o,_,_,_,e,f,_⟩:=I.Be p _ d
   refine⟨⟨o,e,f.1⟩,fun a h=>?_⟩
   cases h
   exact⟨o,e,f.2.1⟩
 |_=>exact False.elim ty
def oU (K:AGW) (T:String) (r:V->List V->Hp->VK->Prop) (d:TE):TE:=fun e H Q=>d e H fun x c=>oS K T x c/\r x [] c Q
def tBM (K:AGW) (T:String) (r:V->List V->Hp->VK->Prop) (e:TE) (t:TA):TE:=fun c H Q=>e c H fun x d=>oS K T x d/\t c d fun f g=>r x f g Q
variable{o e:Expr} {es:List Expr} {to:TE} {t:TA} {name:Str} {apos EB:Pos} {T id:String} {r:V->List V->Hp->VK->Prop}
theorem cG (k:PlainAttrs T) (slot:Slot T name id) (f:typeOf (.builtin id)=pure (.type "method_descriptor")) (l:zO X id r) (m:PE X o to)
  (c:attributeBase o name X.env (eval o X.env)=eval o X.env:=by rfl) (d:(apos.endLine==EB.line)=true:=by rfl):PE X (.Call (.Attribute o name apos) [] [] EB) (oU X.K T r to):=by
 intro pins s g H Q I h
 refine wpAny_Call_method0_late c d (BS (m pins s g H _ I h) fun v n ⟨x,p,i,j,ty,q⟩=>?_)
 obtain⟨u,w⟩:=VU i j ty
 exact⟨T,id,k,slot,f,u,w,Calls.callWith_builtin rfl (PySem.evalArgs_none (l pins n g p x [] v [] Q i j .nil q))⟩
theorem FF (m:PlainAttrs T) (slot:Slot T name id) (i:typeOf (.builtin id)=pure (.type "method_descriptor")) (n:zO X id r) (p:PE X o to) (q:PA X (e::es) t)
  (d:attributeBase o name X.env (eval o X.env)=eval o X.env:=by rfl)
  (g:((backTo EB (starEach (e::es) X.env)).all (fun x=> !x.1)&&(backToKw EB (keywordEach [] X.env)).all (fun x=>x.1.isSome)
   &&decide ((e::es).length+([]:List Keyword).length+(if([]:List Keyword).isEmpty then 0 else 1)<30))=true:=by rfl)
  (f:(apos.endLine==EB.line)=true:=by rfl) (u:starEach (e::es) X.env=(false,eval e X.env)::starEach es X.env:=by rfl) (c:(backTo EB (starEach es X.env)).any (·.1)=false:=by rfl):
  PE X (.Call (.Attribute o name apos) (e::es) [] EB) (tBM X.K T r to t):=by
 intro pins s j H Q I h
 refine wpAny_Call_method_late d g f rfl (BS (p pins s j H _ I h) fun v w ⟨x,y,k,l,ty,z⟩=>?_)
 obtain⟨A,B⟩:=VU k l ty
 refine⟨T,id,m,slot,i,A,B,?_⟩
 have hA:=q EB pins w j y _ k z
 rw[u]at hA⊢
 refine Calls.callWith_builtin (by show(false||(backTo EB (starEach es X.env)).any (·.1))=false;rw[c]<;>rfl) (Calls.evalArgs_plain ?_)
 exact BS hA fun C D E=>E.elim fun F G J L M=>n pins D j G x F v C Q J l L M
end
def mO (X:Cx) (id:String) (r:V->List V->Hp->VK->Prop):Prop:=
 ∀(pins:List (Addr×Obj)) (s:Shared) (a:St) (H:Hp) (x:V) (b:List V) (v:Value) (c:List Value) (Q:VK),Inv X pins a H s->RelV x v->Vals b c->r x b H Q->
  wpAny (model X.prog X.w) X.A (call (.builtin id) (v::c)) (EP X pins a Q) X.xe s
theorem Vals.zero {us:List Value} (r:Vals [] us):us=[]:=List.eq_nil_of_length_eq_zero (Paired.length r).symm
theorem Vals.one {x:V} {us:List Value} (r:Vals [x] us):∃u,us=[u]/\RelV x u:=by
 obtain⟨u,a,rfl,h,t⟩:=r.inv
 rw[t.zero]
 exact⟨u,rfl,h⟩
theorem Vals.dropLast {xs:List V} {us:List Value} (h:Vals xs us):Vals xs.dropLast us.dropLast:=by
 induction h with
 |nil=>exact .nil
 |cons r t a=>
  cases t with
  |nil=>exact .nil
  |cons q b=>exact .cons r a
theorem Vals.eraseIdx:∀{xs:List V} {us:List Value} (i:Nat),Vals xs us->Vals (xs.eraseIdx i) (us.eraseIdx i)
 |_,_,_,.nil=>.nil
 |_,_,0,.cons _ t=>t
 |_,_,i+1,.cons r t=>.cons r (Vals.eraseIdx i t)
theorem Vals.rep {xs:List V} {us:List Value} (h:Vals xs us):∀k:Nat,Vals (List.replicate k xs).flatten (List.replicate k us).flatten
 |0=>.nil
 |k+1=>by
  rw[List.replicate_succ,List.replicate_succ,List.flatten_cons,List.flatten_cons]
  exact Vals.append h (Vals.rep h k)
theorem QR {a:Type} (l:List a):l.eraseIdx (l.length-1)=l.dropLast:=List.eraseIdx_length_sub_one
theorem LZ {a:Type}:∀(l:List a) (i:Nat),(l.eraseIdx i).length<=l.length
 |[],_=>Nat.le_refl _
 |_::_,0=>Nat.le_succ _
 |_::r,i+1=>Nat.succ_le_succ (LZ r i)
theorem foldl_rep (its:List Value):∀(k:Nat) (a:List Value),
  List.foldl (fun b c=>b++c) a.toArray (List.replicate k its.toArray)=(a++(List.replicate k its).flatten).toArray
 |0,a=>by simp
 |k+1,a=>by
  have e:a.toArray++its.toArray=(a++its).toArray:=by simp
  have d:(a++its)++(List.replicate k its).flatten=a++(List.replicate (k+1) its).flatten:=by
   rw[List.replicate_succ,List.flatten_cons,List.append_assoc]
  rw[<-d,<-foldl_rep its k (a++its),<-e,List.replicate_succ,List.foldl_cons]
section
variable{X:Cx} {pins:List (Addr×Obj)} {σ:St} {H:Hp} {s:Shared} {l b:Addr} {xs ys zs:List V}
theorem Inv.YO {its its':List Value} {n:Nat} {f:Array Value->Array Value} {t':Nat} (I:Inv X pins σ H s) (a:H l=some (.lst xs))
  (e:s.heap.get? l=some {cls:=.type "list",data:=.seq its.toArray n}) (c:f its.toArray=its'.toArray) (d:Vals ys its') (g:ys.length<=sizeLine):
  Inv X pins σ (upd H l (.lst ys)) {s with heap:=s.heap.update l (Obj.mapSeq f),toks:=t'}:=by
 have q:=PySem.IsL.update e f
 rw[c]at q
 refine I.write (x:=l) (e:=l) (by rw[a];exact trivial) (.inl rfl) (fun j u h i=>(Heap.get?_update_other s.heap (Obj.mapSeq f) (Ne.symm h)).trans i) ⟨_,q⟩ ?_
 exact⟨g,its',_,d,q⟩
theorem Inv.VW {its:List Value} {t':Nat} (I:Inv X pins σ H s) (a:Vals ys its) (c:ys.length<=sizeLine):
  Inv X pins σ (upd H s.heap.objs.size (.lst ys)) {s with heap:=s.heap.push {cls:=.type "list",data:=.seq its.toArray},toks:=t'}:=
 I.laid (fun _ _ q=>Heap.get?_push_of_some _ q) (Nat.le_refl _) ⟨c,its,0,a,Heap.get?_push_size _ rfl⟩
theorem Inv.fresh (I:Inv X pins σ H s):H s.heap.objs.size=none:=I.Be.fresh (Nat.le_refl _)
theorem Inv.Nv (I:Inv X pins σ H s) (a:H l=some (.lst xs)):xs.length<=sizeLine/\∃(its:List Value) (n:Nat),Vals xs its/\xs.length=its.length/\s.heap.get? l=some {cls:=.type "list",data:=.seq its.toArray n}:=by
 obtain⟨z,its,n,r,e⟩:=I.Be l _ a
 exact⟨z,its,n,r,r.length,e⟩
theorem Nw {n:Nat} (h:n<=sizeLine):Builtin.List.listTooLong n=false:=by
 unfold Builtin.List.listTooLong
 exact decide_eq_false (by lia)
end
section
variable{X:Cx}
inductive Nx (x:V) (vs:List V) (H:Hp) (Q:VK):Prop
 |mk (l:_) (xs:_) (y:_) (a:x=.ref l) (b:vs=[y]) (c:H l=some (.lst xs)) (d:xs.length<sizeLine) (e:Q .Av (upd H l (.lst (xs++[y])))):Nx x vs H Q
def YQ:V->List V->Hp->VK->Prop:=fun x a H Q=>Nx x a H Q
theorem Fh:mO X "list.append" YQ:=by
 intro pins s g H x i v j Q I c d h
 obtain⟨l,k,y,rfl,rfl,b,m,q⟩:=h
 cases c
 obtain⟨u,rfl,f⟩:=d.one
 obtain⟨z,a,n,r,o,e⟩:=I.Nv b
 refine call_meets F.slot_list_append ⟨_,e,rfl⟩ F.entry_list_append (F.args_list_append_2 _ _) (PySem.list_append l a.toArray n u (by rw[List.size_toArray];lia)) ⟨e,?_⟩
 refine⟨.Av,_,I.YO (its':=a++[u]) b e (by simp) (r.append (.cons f .nil)) ?_,rfl,q⟩
 rw[List.length_append,List.length_singleton]
 lia
inductive Ny (x:V) (vs:List V) (H:Hp) (Q:VK):Prop
 |mk (l:_) (b:_) (xs:_) (zs:_) (a:x=.ref l) (c:vs=[.ref b]) (d:H l=some (.lst xs)) (e:H b=some (.lst zs)) (f:xs.length+zs.length<=sizeLine) (g:Q .Av (upd H l (.lst (xs++zs)))):Ny x vs H Q
def Rj:V->List V->Hp->VK->Prop:=fun x a H Q=>Ny x a H Q
theorem Cj:mO X "list.extend" Rj:=by
 intro pins s y H x A v B Q I i j h
 obtain⟨l,b,C,D,rfl,rfl,g,k,E,q⟩:=h
 cases i
 obtain⟨u,rfl,m⟩:=j.one
 cases m
 obtain⟨z,c,n,r,G,e⟩:=I.Nv g
 obtain⟨z2,a,o,p,t,w⟩:=I.Nv k
 have f:c.toArray.size+a.toArray.size<=sizeLine:=by rw[List.size_toArray,List.size_toArray];lia
 have d:¬(!c.toArray.isEmpty&&Builtin.List.listTooLong (c.toArray.size+a.toArray.size))=true:=by
  rw[Nw f,Bool.and_false]
  exact Bool.false_ne_true
 refine call_meets F.slot_list_extend ⟨_,e,rfl⟩ F.entry_list_extend (F.args_list_extend_2 _ _)
  (AutoSeq1.list_extend_list_list_0 l c.toArray n b a.toArray o d (by rw[List.size_toArray];lia) (by lia)) ⟨e,w,?_⟩
 refine⟨.Av,_,I.YO (its':=c++a) g e (by simp) (r.append p) ?_,rfl,q⟩
 rw[List.length_append]
 lia
inductive aR (x:V) (vs:List V) (H:Hp) (Q:VK):Prop
 |mk (l:_) (xs:_) (y:_) (a:x=.ref l) (b:vs=[]) (c:H l=some (.lst xs)) (d:xs[xs.length-1]?=some y) (e:Q y (upd H l (.lst xs.dropLast))):aR x vs H Q
def oV:V->List V->Hp->VK->Prop:=fun x a H Q=>aR x a H Q
theorem cH:mO X "list.pop" oV:=by
 intro pins s o H x p v t Q I f g h
 obtain⟨l,w,y,rfl,rfl,d,i,q⟩:=h
 cases f
 have b:=g.zero
 subst b
 obtain⟨z,a,n,r,j,e⟩:=I.Nv d
 obtain⟨u,k,m⟩:=r.get i
 have c:a.toArray[a.toArray.size-1]?=some u:=by
  show a.toArray[a.length-1]?=some u
  rw[<-Array.getElem?_toList,<-j]
  exact k
 refine call_meets F.slot_list_pop ⟨_,e,rfl⟩ F.entry_list_pop (F.args_list_pop_1 _) (MeetsSeq.list_pop_last l a.toArray n u c (by rw[List.size_toArray];lia)) ⟨e,?_⟩
 refine⟨y,_,I.YO (its':=a.dropLast) d e ?_ r.dropLast ?_,m,q⟩
 ·show a.toArray.eraseIdxIfInBounds (a.toArray.size-1)=a.dropLast.toArray
  rw[List.size_toArray,List.eraseIdxIfInBounds_toArray,QR]
 ·rw[List.length_dropLast]
  lia
inductive Rk (x:V) (vs:List V) (H:Hp) (Q:VK):Prop
 |mk (l:_) (xs:_) (i:_) (k:_) (y:_) (a:x=.ref l) (b:vs=[.int i]) (c:H l=some (.lst xs)) (d: -(2 ^ 63)<=i) (e:i<2 ^ 63) (f:seqIndex? i xs.length=some k) (g:xs[k]?=some y) (h:Q y (upd H l (.lst (xs.eraseIdx k)))):Rk x vs H Q
def cI:V->List V->Hp->VK->Prop:=fun x a H Q=>Rk x a H Q
theorem Nz:mO X "list.pop" cI:=by
 intro pins s C H x D v E Q I d f h
 obtain⟨l,g,i,k,y,rfl,rfl,c,j,m,o,p,q⟩:=h
 cases d
 obtain⟨u,rfl,A⟩:=f.one
 obtain⟨t,rfl⟩:=A
 obtain⟨z,a,n,r,B,e⟩:=I.Nv c
 obtain⟨w,hw,b⟩:=r.get p
 refine call_meets F.slot_list_pop ⟨_,e,rfl⟩ F.entry_list_pop (F.args_list_pop_2 _ _)
  (MeetsSeq.list_pop_at l a.toArray n i t k w (fitsIndex_both j m) (by rw[List.size_toArray,<-B];exact o) (by rw[<-Array.getElem?_toList];exact hw) (by rw[List.size_toArray];lia)) ⟨e,?_⟩
 refine⟨y,_,I.YO (its':=a.eraseIdx k) c e ?_ (r.eraseIdx k) ?_,b,q⟩
 ·show a.toArray.eraseIdxIfInBounds k=(a.eraseIdx k).toArray
  rw[List.eraseIdxIfInBounds_toArray]
 ·have:=LZ g k
  lia
inductive Tq (x:V) (vs:List V) (H:Hp) (Q:VK):Prop
 |mk (l:_) (xs:_) (a:x=.ref l) (b:vs=[]) (c:H l=some (.lst xs)) (d:Q .Av (upd H l (.lst xs.reverse))):Tq x vs H Q
inductive YR (x:V) (vs:List V) (H:Hp) (Q:VK):Prop
 |mk (l:_) (xs:_) (a:x=.ref l) (b:vs=[]) (c:H l=some (.lst xs)) (d:Q .Av (upd H l (.lst []))):YR x vs H Q
inductive aS (x:V) (y:V) (H:Hp) (Q:VK):Prop
 |mk (l:_) (b:_) (xs:_) (zs:_) (a:x=.ref l) (c:y=.ref b) (d:H l=some (.lst xs)) (e:H b=some (.lst zs)) (f:xs.length+zs.length<=sizeLine) (g:∀p,H p=none->Q (.ref p) (upd H p (.lst (xs++zs)))):aS x y H Q
def iM:R2:=fun x y H Q=>aS x y H Q
theorem FO:EL X (binaryOp .Add) iM:=by
 intro pins s p H x y v u Q I d f h
 obtain⟨l,b,t,w,rfl,rfl,g,i,A,q⟩:=h
 cases d
 cases f
 obtain⟨z,c,n,r,B,e⟩:=I.Nv g
 obtain⟨z2,a,C,j,k,m⟩:=I.Nv i
 refine PySem.P.add_list e m ?_ (by rw[List.size_toArray,List.size_toArray];lia)
 have o:c.toArray++a.toArray=(c++a).toArray:=by simp
 rw[o]
 exact⟨.ref _,_,I.VW (t':=s.toks) (r.append j) (by rw[List.length_append];lia),rfl,q _ I.fresh⟩
inductive aT (x:V) (y:V) (H:Hp) (Q:VK):Prop
 |mk (l:_) (k:_) (xs:_) (a:x=.ref l) (b:y=.int k) (c:H l=some (.lst xs)) (d: -(2 ^ 63)<=k) (e:k<2 ^ 63) (f:xs.length*k.toNat<=sizeLine) (g:∀p,H p=none->Q (.ref p) (upd H p (.lst (List.replicate k.toNat xs).flatten))):aT x y H Q
def oW:R2:=fun x y H Q=>aT x y H Q
theorem len_rep {a:Type} (xs:List a) (k:Nat):(List.replicate k xs).flatten.length=k*xs.length:=by
 induction k with
 |zero=>simp
 |succ k b=>rw[List.replicate_succ,List.flatten_cons,List.length_append,b,Nat.succ_mul,Nat.add_comm]
theorem cJ:EL X (binaryOp .Mult) oW:=by
 intro pins s J H x y v u Q I p w h
 obtain⟨l,k,K,rfl,rfl,A,B,C,o,q⟩:=h
 cases p
 obtain⟨t,rfl⟩:=w
 obtain⟨z,b,n,r,D,e⟩:=I.Nv A
 have hlen:b.toArray.size*k.toNat<=sizeLine:=by rw[List.size_toArray,<-D];exact o
 have d:¬b.toArray.size*k.toNat>(2 ^ 63-1)/8:=by
  have:(sizeLine:Nat)<=(2 ^ 63-1)/8:=by decide
  lia
 have f:¬(!Builtin.List.listFitsIndex k)=true:=by
  rw[fitsIndex_both B C]
  exact Bool.false_ne_true
 have c:¬Builtin.List.listTooLong (b.toArray.size*k.toNat)=true:=by
  rw[Nw hlen]
  exact Bool.false_ne_true
 have g:List.foldl (fun i j=>i++j) #[] (List.replicate (if b.toArray.isEmpty=true then 0 else k.toNat) b.toArray)=(List.replicate k.toNat b).flatten.toArray:=by
  have E:∀m:Nat,List.foldl (fun i j=>i++j) #[] (List.replicate m b.toArray)=(List.replicate m b).flatten.toArray:=fun m=>by
   have:=foldl_rep b m []
   rw[List.nil_append]at this
   exact this
  rw[E]
  cases b with
  |nil=>simp
  |cons a L=>rw[if_neg (by simp)]
 refine wpAny_binaryOp_repeat_ref (T:="list") (U:="int") (by decide) ⟨_,e,rfl⟩ (fun G=>typeIs_int G k t) noFill_list_mul F.fills_int_mul F.slot_int_rmul repeat_list F.slot_int_index.lookup
  (call_meets F.slot_int_rmul (typeIs_int s k t) F.entry_int_rmul (F.args_int_rmul_2 _ _) (int___rmul___int_list k t l b.toArray n)
   ⟨e,rfl,⟨_,e,rfl⟩,call_meets F.slot_list_mul ⟨_,e,rfl⟩ F.entry_list_mul (F.args_list_mul_2 _ _) (AutoListH.list___mul___list_int_3 l b.toArray n k t f d c) ⟨e,?_⟩⟩)
 rw[g]
 exact⟨.ref _,_,I.VW (t':=s.toks) (r.rep k.toNat) (by rw[len_rep,Nat.mul_comm];exact o),rfl,q _ I.fresh⟩
end
section
variable{prog:Program} {w:World} {A:Around} {E:Value->Shared->Prop} {s:Shared}
end
section
variable{X:Cx}
end
section
variable{κ:Type} [DecidableEq κ]
def BM (kvs:List (κ×V)) (k:κ):Option V:=(kvs.find? fun a=>decide (a.1=k)).map (·.2)
def putK (kvs:List (κ×V)) (k:κ) (v:V):List (κ×V):=
 if(kvs.any fun a=>decide (a.1=k))=true then kvs.map (fun a=>if a.1=k then(a.1,v)else a)else kvs++[(k,v)]
def N_ (kvs:List (κ×V)) (k:κ):List (κ×V):=kvs.filter fun a=>decide (a.1≠k)
theorem Bl {p:κ×V} {r:List (κ×V)} {k:κ} (e:p.1=k):BM (p::r) k=some p.2:=by simp[BM,List.find?_cons,e]
theorem Bm {p:κ×V} {r:List (κ×V)} {k:κ} (e:¬p.1=k):BM (p::r) k=BM r k:=by simp[BM,List.find?_cons,e]
theorem Ct (k:κ):∀kvs:List (κ×V),(kvs.any fun a=>decide (a.1=k))=(BM kvs k).isSome
 |[]=>rfl
 |p::r=>by
  rw[List.any_cons]
  by_cases e:p.1=k
  ·simp only[Bl e,decide_eq_true e,Bool.true_or,Option.isSome_some]
  ·rw[Bm e,decide_eq_false e,Bool.false_or];exact Ct k r
theorem OA (k j:κ) (y:V):∀kvs:List (κ×V),BM (kvs.map fun a=>if a.1=k then(a.1,y)else a) j=(BM kvs j).map fun x=>if j=k then y else x
 |[]=>rfl
 |p::r=>by
  have b:=OA k j y r
  rw[List.map_cons]
  by_cases h:p.1=k
  ·rw[if_pos h]
   by_cases e:p.1=j
   ·rw[Bl (p:=(p.1,y)) e,Bl e,Option.map_some,if_pos (e.symm.trans h)]
   ·rw[Bm (p:=(p.1,y)) e,Bm e,b]
  ·rw[if_neg h]
   by_cases e:p.1=j
   ·rw[Bl (p:=p) e,Bl e,Option.map_some,if_neg (fun z=>h (e.trans z))]
   ·rw[Bm (p:=p) e,Bm e,b]
theorem Lb (k j:κ) (y:V):∀kvs:List (κ×V),BM kvs k=none->BM (kvs++[(k,y)]) j=if j=k then some y else BM kvs j
 |[],_=>by
  by_cases e:k=j
  ·rw[if_pos e.symm];exact Bl (p:=(k,y)) e
  ·rw[if_neg (fun z=>e z.symm)];exact Bm (p:=(k,y)) e
 |p::r,a=>by
  rw[List.cons_append]
  have b:¬p.1=k:=fun z=>by rw[Bl z]at a;cases a
  rw[Bm b]at a
  have c:=Lb k j y r a
  by_cases e:p.1=j
  ·rw[Bl e,Bl e,if_neg (fun z=>b (e.trans z))]
  ·rw[Bm e,Bm e,c]
theorem VX (kvs:List (κ×V)) (k j:κ) (y:V):BM (putK kvs k y) j=if j=k then some y else BM kvs j:=by
 unfold putK
 by_cases a:(kvs.any fun b=>decide (b.1=k))=true
 ·rw[if_pos a,OA]
  rw[Ct]at a
  by_cases e:j=k
  ·obtain⟨x,c⟩:=Option.isSome_iff_exists.mp a
   rw[if_pos e,e,c,Option.map_some,if_pos rfl]
  ·rw[if_neg e]
   cases BM kvs j with
   |none=>rfl
   |some x=>rw[Option.map_some,if_neg e]
 ·rw[if_neg a]
  refine Lb k j y kvs ?_
  rw[Ct]at a
  cases q:BM kvs k with
  |none=>rfl
  |some x=>rw[q]at a;exact(a rfl).elim
theorem ED (kvs:List (κ×V)) (k:κ) (v:V):(putK kvs k v).length<=kvs.length+1:=by
 unfold putK
 split
 ·rw[List.length_map];lia
 ·rw[List.length_append,List.length_cons,List.length_nil];lia
theorem OB {kvs:List (κ×V)} {k:κ} (v:V) (h:BM kvs k=none):putK kvs k v=kvs++[(k,v)]:=by
 unfold putK
 rw[Ct,h]
 exact if_neg (by decide)
theorem Il.EZ {o:Option V} {u:Option Value} (r:Il o u):o.isSome=u.isSome:=by
 cases o with
 |none=>cases u with
  |none=>rfl
  |some _=>exact(show False from r).elim
 |some _=>cases u with
  |none=>exact(show False from r).elim
  |some _=>rfl
theorem KV.val {kvs:List (κ×V)} {vs:List (κ×Value)} (r:KV kvs vs) (k:κ):Il (BM kvs k) (valueAt vs k):=by
 unfold KV at r
 induction r with
 |nil=>exact True.intro
 |@cons p q i a h t f=>
  obtain⟨d,g⟩:=h
  by_cases e:p.1=k
  ·have c:q.1=k:=d.symm.trans e
   have b:valueAt (q::a) k=some q.2:=by simp[valueAt,List.find?_cons,c]
   rw[Bl e,b];exact g
  ·have c:¬q.1=k:=fun z=>e (d.trans z)
   have b:valueAt (q::a) k=valueAt a k:=by simp[valueAt,List.find?_cons,c]
   rw[Bm e,b];exact f
theorem KV.any {kvs:List (κ×V)} {vs:List (κ×Value)} (r:KV kvs vs) (k:κ):(kvs.any fun a=>decide (a.1=k))=vs.any fun a=>decide (a.1=k):=by
 unfold KV at r
 induction r with
 |nil=>rfl
 |cons h t b=>rw[List.any_cons,List.any_cons,b,h.1]
theorem KV.cK {kvs:List (κ×V)} {vs:List (κ×Value)} (r:KV kvs vs) (k:κ) {y:V} {u:Value} (c:RelV y u):
  KV (kvs.map fun a=>if a.1=k then(a.1,y)else a) (vs.map fun a=>if a.1=k then(a.1,u)else a):=by
 unfold KV at r⊢
 induction r with
 |nil=>exact .nil
 |@cons p q g i h t d=>
  rw[List.map_cons,List.map_cons]
  refine .cons ?_ d
  obtain⟨b,f⟩:=h
  by_cases e:p.1=k
  ·rw[if_pos e,if_pos (b.symm.trans e)];exact⟨b,c⟩
  ·rw[if_neg e,if_neg (fun z=>e (b.trans z))];exact⟨b,f⟩
theorem KV.put {kvs:List (κ×V)} {vs:List (κ×Value)} (r:KV kvs vs) (k:κ) {y:V} {u:Value} (a:RelV y u):KV (putK kvs k y) (stored vs k u):=by
 unfold putK stored
 rw[r.any k]
 by_cases e:(vs.any fun b=>decide (b.1=k))=true
 ·rw[if_pos e,if_pos e];exact r.cK k a
 ·rw[if_neg e,if_neg e];exact Paired.snoc r ⟨rfl,a⟩
theorem KV.drop {kvs:List (κ×V)} {vs:List (κ×Value)} (r:KV kvs vs) (k:κ):KV (N_ kvs k) (without vs k):=by
 unfold KV at r⊢
 unfold N_ without
 induction r with
 |nil=>exact .nil
 |@cons p q i j h t d=>
  obtain⟨c,f⟩:=h
  rw[List.filter_cons,List.filter_cons]
  by_cases e:p.1=k
  ·have a:¬decide (p.1≠k)=true:=by simp[e]
   have b:¬decide (q.1≠k)=true:=by simp[c.symm.trans e]
   rw[if_neg a,if_neg b];exact d
  ·have g:¬q.1=k:=fun z=>e (c.trans z)
   have a:decide (p.1≠k)=true:=by simp[e]
   have b:decide (q.1≠k)=true:=by simp[g]
   rw[if_pos a,if_pos b];exact .cons ⟨c,f⟩ d
theorem KV.keys {kvs:List (κ×V)} {vs:List (κ×Value)} (r:KV kvs vs):kvs.map (·.1)=vs.map (·.1):=by
 unfold KV at r
 induction r with
 |nil=>rfl
 |cons h t a=>rw[List.map_cons,List.map_cons,a,h.1]
theorem KV.length {kvs:List (κ×V)} {vs:List (κ×Value)} (r:KV kvs vs):kvs.length=vs.length:=Paired.length r
theorem VY (kvs:List (κ×V)) (k:κ):(N_ kvs k).length<=kvs.length:=List.length_filter_le _ _
end
theorem Gj {P:Program} {w:World} {k:Key} {u:Value} (r:RelV (kV k) u):(Ay P w).is k u=true:=by
 cases k with
 |inl i=>obtain⟨t,e⟩:=(show∃t,u=Value.int i t from r);subst e;exact Na P w i t
 |inr x=>obtain⟨t,e⟩:=(show∃t,u=Value.str x t from r);subst e;exact Nb P w x t
theorem cM {a b:Key} (e:kV a=kV b):a=b:=by
 cases a with
 |inl i=>cases b with
  |inl j=>have c:V.int i=V.int j:=e;injection c with c;rw[c]
  |inr y=>exact nomatch(show V.int i=V.str y from e)
 |inr x=>cases b with
  |inl j=>exact nomatch(show V.str x=V.int j from e)
  |inr y=>have c:V.str x=V.str y:=e;injection c with c;rw[c]
theorem Rl:∀{a b:List Key},a.map kV=b.map kV->a=b
 |[],[],_=>rfl
 |[],_::_,e=>by simp at e
 |_::_,[],e=>by simp at e
 |x::xs,y::ys,e=>by
  rw[List.map_cons,List.map_cons]at e
  injection e with c d
  rw[cM c,Rl d]
theorem Lc {P:Program} {w:World}:∀{ks:List Key} {us:List Value},Vals (ks.map kV) us->ItemsAre (Ay P w) ks us
 |[],_,r=>by rw[List.map_nil]at r;cases r;exact .nil
 |k::ks,_,r=>by
  rw[List.map_cons]at r
  cases r with
  |cons h t=>exact .cons (Gj h) (Lc t)
abbrev KT (H:Hp):List (List Key×V)->List (List Key×Addr×Value)->Prop:=Paired fun p q=>p.1=q.1/\H q.2.1=some (.tup (p.1.map kV))/\RelV p.2 q.2.2
theorem KT.val {H:Hp} {kvs:List (List Key×V)} {xs:List (List Key×Addr×Value)} (r:KT H kvs xs) (k:List Key):Il (BM kvs k) ((atKey xs k).map (·.2)):=by
 induction r with
 |nil=>exact True.intro
 |@cons p q i a h t f=>
  obtain⟨d,_,g⟩:=h
  by_cases e:p.1=k
  ·have c:q.1=k:=d.symm.trans e
   have b:atKey (q::a) k=some q.2:=by simp[atKey,List.find?_cons,c]
   rw[Bl e,b];exact g
  ·have c:¬q.1=k:=fun z=>e (d.trans z)
   have b:atKey (q::a) k=atKey a k:=by simp[atKey,List.find?_cons,c]
   rw[Bm e,b];exact f
theorem KT.cK {H:Hp} {kvs:List (List Key×V)} {xs:List (List Key×Addr×Value)} (r:KT H kvs xs) (k:List Key) {y:V} {u:Value} (d:RelV y u):
  KT H (kvs.map fun b=>if b.1=k then(b.1,y)else b) (xs.map (putAt k u)):=by
 induction r with
 |nil=>exact .nil
 |@cons p q i j h t f=>
  rw[List.map_cons,List.map_cons]
  refine .cons ?_ f
  obtain⟨a,c,g⟩:=h
  unfold putAt
  by_cases e:p.1=k
  ·rw[if_pos e,if_pos (a.symm.trans e)];exact⟨a,c,d⟩
  ·rw[if_neg e,if_neg (fun z=>e (a.trans z))];exact⟨a,c,g⟩
theorem KT.put {H:Hp} {kvs:List (List Key×V)} {xs:List (List Key×Addr×Value)} (r:KT H kvs xs) (k:List Key) {b:Addr} {y:V} {u:Value} (c:H b=some (.tup (k.map kV))) (a:RelV y u):
  KT H (putK kvs k y) (storedH xs k b u):=by
 have e:(kvs.any fun d=>decide (d.1=k))=(atKey xs k).isSome:=by
  rw[Ct,(r.val k).EZ,Option.isSome_map]
 unfold putK storedH
 rw[e]
 by_cases q:(atKey xs k).isSome=true
 ·rw[if_pos q,if_pos q];exact r.cK k a
 ·rw[if_neg q,if_neg q];exact Paired.snoc r ⟨rfl,c,a⟩
theorem KT.keeps {H H':Hp} {kvs:List (List Key×V)} {xs:List (List Key×Addr×Value)} (r:KT H kvs xs) (a:∀b ys,H b=some (.tup ys)->H' b=some (.tup ys)):KT H' kvs xs:=
 Paired.gj r fun _ _ z=>⟨z.1,a _ _ z.2.1,z.2.2⟩
section
variable{P:Program} {w:World} {H:Hp} {h:Heap} {a:Addr}
theorem aU {u:HO} (ok:F' P w H h) (e:Rd H a u):BO P w H h a u:=e.ok ok
theorem Ea {kvs:List (Key×V)} (ok:F' P w H h) (e:Rd H a (.dK kvs)):kvs.length<=sizeLine/\(a==sysModules)=false/\∃vs,KV kvs vs/\h.DictOf (Ay P w) a vs:=
 show BO P w H h a (.dK kvs)from aU ok e
theorem Rm {kvs:List (Key×V)} (ok:F' P w H h) (e:H a=some (.dK kvs)):kvs.length<=sizeLine/\(a==sysModules)=false/\∃vs,KV kvs vs/\h.DictOf (Ay P w) a vs:=Ea ok (.inl e)
theorem Ho {ks:List Key} (ok:F' P w H h) (e:H a=some (.tup (ks.map kV))):(tupleKind (Ay P w)).is h ks a:=by
 obtain⟨_,b,r,o,c,d,n,f⟩:=(show BO P w H h a (.tup (ks.map kV))from ok a _ e)
 exact⟨o,b.toArray,n,c,d,f,by simpa using Lc r⟩
theorem Ld {kvs:List (List Key×V)} (ok:F' P w H h) (e:Rd H a (.dT kvs)):kvs.length<=sizeLine/\(a==sysModules)=false/\
  ∃xs,KT H kvs xs/\h.DictOfH (tupleKind (Ay P w)) a xs:=by
 obtain⟨z,y,xs,r,o,d,f,g,i,j,k,n⟩:=(show BO P w H h a (.dT kvs)from aU ok e)
 refine⟨z,y,xs,r,o,d,f,g,i,j,k,fun x b=>?_,n⟩
 have all:∀{l:List (List Key×V)} {m:List (List Key×Addr×Value)},KT H l m->∀x∈m,(tupleKind (Ay P w)).is h x.1 x.2.1:=by
  intro l m q
  induction q with
  |nil=>intro x b;exact nomatch b
  |@cons p q u v c t s=>
   intro x b
   rcases List.mem_cons.mp b with e|b
   ·subst e
    exact Ho ok (by rw[<-c.1];exact c.2.1)
   ·exact s x b
 exact all r x b
theorem iN {kvs:List (List Key×V)} (ok:F' P w H h) (e:H a=some (.dT kvs)):kvs.length<=sizeLine/\(a==sysModules)=false/\
  ∃xs,KT H kvs xs/\h.DictOfH (tupleKind (Ay P w)) a xs:=Ld ok (.inl e)
end
def Jc (H:Hp) (a:Addr) (y:V) (r:Option V):Prop:=
 (∃kvs k,Rd H a (.dK kvs)/\y=kV k/\r=BM kvs k)∨∃kvs k b,Rd H a (.dT kvs)/\y=.ref b/\H b=some (.tup (k.map kV))/\r=BM kvs k
def VZ (H:Hp) (a:Addr) (y v:V) (H':Hp):Prop:=
 (∃kvs k,H a=some (.dK kvs)/\y=kV k/\kvs.length<sizeLine/\H'=upd H a (.dK (putK kvs k v)))∨
 ∃kvs k b,H a=some (.dT kvs)/\y=.ref b/\H b=some (.tup (k.map kV))/\kvs.length<sizeLine/\H'=upd H a (.dT (putK kvs k v))
theorem VZ.k {H:Hp} {a:Addr} {kvs:List (Key×V)} {k:Key} {v:V} (e:H a=some (.dK kvs)) (hl:kvs.length<sizeLine):VZ H a (kV k) v (upd H a (.dK (putK kvs k v))):=.inl ⟨kvs,k,e,rfl,hl,rfl⟩
section
variable{X:Cx} {pins:List (Addr×Obj)} {σ:St} {H:Hp} {s:Shared} {a:Addr} {y v:V} {u r:Value} {o:Option V} {A:Around} {E:Value->Shared->Prop}
theorem Inv.big (I:Inv X pins σ H s):sysModules<s.heap.objs.size:=by
 have h:mainGlobals<s.heap.objs.size:=(I.mod.glob.keeps I.bk).lt
 exact Nat.lt_trans (by decide) h
theorem Tr {Q:Value->Shared->Prop} (t:A.units+1<cLine) (I:Inv X pins σ H s) (g:Jc H a y (some v)) (n:RelV y u) (h:∀f q,Inv X pins σ H q->RelV v f->Q f q):
  wpAny (model X.prog X.w) A (getItem (.ref a) u) Q E s:=by
 rcases g with⟨kvs,k,e,i,l⟩|⟨kvs,k,b,e,i,x,l⟩
 ·subst i
  obtain⟨z,B,C,c,j⟩:=Ea I.Be e
  obtain⟨f,hw,d⟩:=Il.some_of (v:=v) (o:=valueAt C k) (by rw[l];exact c.val k)
  exact wpAny_getItem_of (Gj n) j.mapOf hw (h f _ (I.tok _) d)
 ·subst i
  cases(show u=Value.ref b from n)
  obtain⟨z,B,D,c,j⟩:=Ld I.Be e
  obtain⟨f,hw,d⟩:=Il.some_of (v:=v) (o:=(atKey D k).map (·.2)) (by rw[l];exact c.val k)
  obtain⟨p,F,m⟩:=Option.map_eq_some_iff.mp hw
  refine wpAny_getItem_heap (tupleKind_room_in1 t) (Ho I.Be x) j F ?_
  rw[m]
  exact h f _ (I.tok _) d
theorem oX {Q:Value->Shared->Prop} (n:A.units+1<cLine) (I:Inv X pins σ H s) (g:Jc H a y o) (j:RelV y u) (h:∀m,Inv X pins σ H m->Q (.bool o.isSome) m):
  wpAny (model X.prog X.w) A (compareOp .In u (.ref a)) Q E s:=by
 rcases g with⟨kvs,k,e,d,l⟩|⟨kvs,k,b,e,d,p,l⟩
 ·subst d
  obtain⟨z,f,t,c,i⟩:=Ea I.Be e
  refine wpAny_in_of (Gj j) f i.mapOf ?_
  rw[<-(c.val k).EZ,<-l]
  exact h _ (I.tok _)
 ·subst d
  cases(show u=Value.ref b from j)
  obtain⟨z,f,x,c,i⟩:=Ld I.Be e
  refine wpAny_in_heap (tupleKind_room_in1 n) (Ho I.Be p) f i ?_
  have q:=(c.val k).EZ
  rw[Option.isSome_map]at q
  rw[<-q,<-l]
  exact h _ (I.tok _)
theorem YS {Q:Value->Shared->Prop} (n:A.units+1<cLine) (I:Inv X pins σ H s) (g:Jc H a y o) (j:RelV y u) (h:∀m,Inv X pins σ H m->Q (.bool (!o.isSome)) m):
  wpAny (model X.prog X.w) A (compareOp .NotIn u (.ref a)) Q E s:=by
 rcases g with⟨kvs,k,e,d,l⟩|⟨kvs,k,b,e,d,p,l⟩
 ·subst d
  obtain⟨z,f,t,c,i⟩:=Ea I.Be e
  refine wpAny_notIn_of (Gj j) f i.mapOf ?_
  rw[<-(c.val k).EZ,<-l]
  exact h _ (I.tok _)
 ·subst d
  cases(show u=Value.ref b from j)
  obtain⟨z,f,x,c,i⟩:=Ld I.Be e
  refine wpAny_notIn_heap (tupleKind_room_in1 n) (Ho I.Be p) f i ?_
  have q:=(c.val k).EZ
  rw[Option.isSome_map]at q
  rw[<-q,<-l]
  exact h _ (I.tok _)
theorem JE {h':Heap} {t':Nat} {c:HO} (I:Inv X pins σ H s) (d:gm (H a)) (f:Heap.SameBut a s.heap h') (g:∃q,h'.get? a=some q) (new:BO X.prog X.w (upd H a c) h' a c):
  Inv X pins σ (upd H a c) {s with heap:=h',toks:=t'}:=
 I.write (x:=a) (e:=a) d (.inl rfl) (fun b q h z=>(f.2 b h).trans z) g new
theorem Hq {P:Program} {w:World} {H':Hp} {h':Heap} {kvs:List (Key×V)} {vs:List (Key×Value)} (z:kvs.length<=sizeLine) (c:(a==sysModules)=false) (b:KV kvs vs) (d:h'.DictOf (Ay P w) a vs):
  BO P w H' h' a (.dK kvs):=⟨z,c,vs,b,d⟩
theorem Ts {H':Hp} {Q:Unit->Shared->Prop} (L:A.units+1<cLine) (I:Inv X pins σ H s) (g:VZ H a y v H') (C:RelV y u) (D:RelV v r) (h:∀F,Inv X pins σ H' F->Q () F):
  wpAny (model X.prog X.w) A (setItem (.ref a) u r) Q E s:=by
 rcases g with⟨kvs,k,e,j,l,m⟩|⟨kvs,k,b,e,j,G,l,m⟩
 ·subst j m
  obtain⟨z,n,M,d,p⟩:=Rm I.Be e
  have t:M.length<=sizeLine:=by rw[<-d.length];exact z
  have x:(putK kvs k v).length<=sizeLine:=by have:=ED kvs k v;lia
  refine wpAny_setItem_pairs (hsz:=t) (Gj C) p fun J f B=>h _ ?_
  have N:∃q,J.get? a=some q:=let⟨q,_,_,i,_⟩:=f;⟨q,i⟩
  exact JE I (by rw[e];exact True.intro) B N (Hq x n (d.put k D) f)
 ·subst j m
  cases(show u=Value.ref b from C)
  obtain⟨z,n,O,d,p⟩:=iN I.Be e
  have t:O.length<=sizeLine:=by rw[<-Paired.length d];exact z
  have x:(putK kvs k v).length<=sizeLine:=by have:=ED kvs k v;lia
  refine wpAny_setItem_heap (hsz:=t) (tupleKind_room_in1 L) (Ho I.Be G) p fun J f B=>h _ ?_
  obtain⟨q,P,R,i,S,T,U,_,W⟩:=f
  refine JE I (by rw[e];exact True.intro) B ⟨q,i⟩ ⟨x,n,_,(d.put k G D).keeps fun c Y K=>?_,q,P,R,i,S,T,U,W⟩
  rw[AJ (gh K e (fun z=>nomatch z))]
  exact K
end
section
variable{X:Cx} {pins:List (Addr×Obj)} {σ:St} {H:Hp} {s:Shared} {a:Addr} {kvs:List (Key×V)} {k:Key} {u:Value} {A:Around} {E:Value->Shared->Prop}
theorem iO {v:V} {more:List Value} {Q:Value->Shared->Prop} (I:Inv X pins σ H s) (e:H a=some (.dK kvs)) (f:RelV (kV k) u) (l:BM kvs k=some v) (j:more=[]∨∃x,more=[x])
  (h:∀c m,Inv X pins σ (upd H a (.dK (N_ kvs k))) m->RelV v c->Q c m):wpAny (model X.prog X.w) A (call (.builtin "dict.pop") (.ref a::u::more)) Q E s:=by
 obtain⟨z,r,n,b,p⟩:=Rm I.Be e
 obtain⟨c,hw,g⟩:=Il.some_of (v:=v) (o:=valueAt n k) (by rw[<-l];exact b.val k)
 have y:(keyPart u).isSome=true:=by
  cases k with
  |inl i=>obtain⟨t,q⟩:=(show∃t,u=Value.int i t from f);subst q;rfl
  |inr x=>obtain⟨t,q⟩:=(show∃t,u=Value.str x t from f);subst q;rfl
 have B:argsOk "dict.pop" ⟨.ref a::u::more,[]⟩:=by
  rcases j with q|⟨x,q⟩
  ·subst q;exact PySem.F.args_dict_pop_2 _ _
  ·subst q;exact PySem.F.args_dict_pop_3 _ _ _
 refine call_meetsIn PySem.F.slot_dict_pop p.typeIs PySem.F.entry_dict_pop B (meets_dict_pop_there (Ay X.prog X.w) a (Gj f) more j y)
  ⟨n,c,p,by rw[<-b.length];exact z,hw,fun C d D=>h c _ ?_ g⟩
 have G:∃q,C.get? a=some q:=let⟨q,_,_,J,_⟩:=d;⟨q,J⟩
 exact JE I (by rw[e];exact True.intro) D G (Hq (Nat.le_trans (VY kvs k) z) r (b.drop k) d)
theorem iP {Q:Value->Shared->Prop} (I:Inv X pins σ H s) (e:Rd H a (.dK kvs)) (h:∀t c,Inv X pins σ H c->Q (.int kvs.length t) c):wpAny (model X.prog X.w) A (call (.builtin "len") [.ref a]) Q E s:=by
 obtain⟨z,d,g,b,f⟩:=Ea I.Be e
 refine call_len_dict d f (by rw[<-b.length];rw[sizeLine_eq]at z;lia) ?_
 rw[<-b.length]
 exact h _ _ (I.tok _)
end
def iQ (i:Expr):Prop:=∀ov a,subscripted i false ov a=operate [ov,a] (getItem ov a)
theorem YT {prog:Program} {w:World} {A:Around} {E:Value->Shared->Prop} {s:Shared} {env:Env} {value slice:Expr} {pos:Pos} {T id:String} {Q:Value->Shared->Prop}
  (hl:typeLookup (.type T) "__getitem__"=pure (some (.builtin id))) (j:iQ slice)
  (h:wpAny (model prog w) A (eval value env) (fun o c=>wpAny (model prog w) A (eval slice env) (fun i a=>a.TypeIs o T/\wpAny (model prog w) A (getItem o i) Q E a) E c) E s):
  wpAny (model prog w) A (eval (.Subscript value slice pos) env) Q E s:=by
 refine Subscript_ (wpAny_mono h (fun o c e=>wpAny_mono e (fun i a b=>?_) fun _ _ x=>x) fun _ _ x=>x)
 obtain⟨g,b⟩:=b
 unfold subscriptTail
 refine wpAny_bind ?_
 rw[getitemInPython_of_ne g.not_modules]
 refine wpAny_bind (wpAny_specialOf g hl ?_)
 have fin:wpAny (model prog w) A (subscripted slice false o i) (fun r d=>wpAny (model prog w) A (letTemporaryGo value o r>>=fun _=>pure r) Q E d) E a:=by
  rw[j o i]
  exact wpAny_operating (wpAny_mono b (fun r d f=>wpAny_bind (wpAny_letTemporaryGo (wpAny_pure f))) fun _ _ x=>x)
 first
  |exact wpAny_pure (wpAny_bind fin)
  |exact wpAny_bind (wpAny_pure (wpAny_bind fin))
  |exact wpAny_bind fin
theorem OC {X:Cx} {pins:List (Addr×Obj)} {d:St} {H:Hp} {s:Shared} {a:Addr} {y:V} {o:Option V} (I:Inv X pins d H s) (g:Jc H a y o):s.TypeIs (.ref a) "dict":=by
 rcases g with⟨kvs,k,e,_,_⟩|⟨kvs,k,b,e,_,_,_⟩
 ·obtain⟨_,_,f,_,c⟩:=Ea I.Be e
  exact c.typeIs
 ·obtain⟨_,_,h,_,c⟩:=Ld I.Be e
  exact c.typeIs
inductive zP (x y:V) (H:Hp) (Q:VK):Prop
 |mk (a:Addr) (v:V) (e:x=.ref a) (g:Jc H a y (some v)) (q:Q v H):zP x y H Q
inductive zQ (x y:V) (H:Hp) (Q:VK):Prop
 |mk (a:Addr) (o:Option V) (e:x=.ref a) (g:Jc H a y o) (q:Q (.bl o.isSome) H):zQ x y H Q
inductive zR (x y:V) (H:Hp) (Q:VK):Prop
 |mk (a:Addr) (o:Option V) (e:x=.ref a) (g:Jc H a y o) (q:Q (.bl (!o.isSome)) H):zR x y H Q
def iR (b ty:TE):TE:=fun a H Q=>b a H fun x c=>ty a c fun y d=>zP x y d Q
def oY (ty b:TE):TE:=fun a H Q=>ty a H fun y c=>b a c fun x d=>zQ x y d Q
def Rn (ty b:TE):TE:=fun a H Q=>ty a H fun y c=>b a c fun x d=>zR x y d Q
def iS (d ty e:TE):TS:=fun D b H=>e b H fun v f=>d b f fun x g=>ty b g fun y h=>∃a c,x=.ref a/\VZ h a y v c/\D.nx b c
section
variable{X:Cx} {o i e value:Expr} {pos pos' oM:Pos} {td ty tv:TE}
theorem Bw (f:X.A.units+1<cLine) (j:PE X o td) (k:PE X i ty) (l:iQ i):PE X (.Subscript o i pos) (iR td ty):=by
 intro pins s c H Q I h
 refine YT PySem.F.slot_dict_getitem.lookup l (BS (j pins s c H _ I h) fun u m n=>n.elim fun x p q r t=>BS (k pins m c p _ q t) fun E G ⟨y,w,d,z,a,v,B,g,C⟩=>?_)
 subst B
 obtain rfl:u=Value.ref a:=r
 exact⟨OC d g,Tr f d g z fun J K D b=>⟨v,w,D,b,C⟩⟩
theorem QS (c:X.A.units+1<cLine) (d:PE X i ty) (f:PE X o td):PC X .In i o (oY ty td):=by
 intro pins s b H Q I h
 refine BS (d pins s b H _ I h) fun B j k=>k.elim fun y l m n p=>BS (f pins j b l _ m p) fun u C ⟨x,q,r,t,a,ov,v,g,w⟩=>?_
 subst v
 obtain rfl:u=Value.ref a:=t
 exact oX c r g n fun D z=>⟨.bl ov.isSome,q,z,rfl,w⟩
theorem Le (c:X.A.units+1<cLine) (d:PE X i ty) (f:PE X o td):PC X .NotIn i o (Rn ty td):=by
 intro pins s b H Q I h
 refine BS (d pins s b H _ I h) fun B j k=>k.elim fun y l m n p=>BS (f pins j b l _ m p) fun u C ⟨x,q,r,t,a,ov,v,g,w⟩=>?_
 subst v
 obtain rfl:u=Value.ref a:=t
 exact YS c r g n fun D z=>⟨.bl (!ov.isSome),q,z,rfl,w⟩
theorem Gk (d:X.A.units+1<cLine) (f:PE X o td) (j:PE X i ty) (k:PE X value tv) (l:swapsWith value (some (.Subscript o i pos')) pos.line X.env=pure false):
  PS X (.Assign [.Subscript o i pos'] value pos) (iS td ty tv):=by
 intro pins s b H D I h
 refine wpAny_Assign_Subscript (BS (k pins s b H _ I h) fun r m c=>c.elim fun v n p q t=>BS (f pins m b n _ p t) fun u w c=>c.elim fun x z B C E=>BS (j pins w b z _ B E) fun N O ⟨y,P,F,G,a,J,K,g,L⟩=>?_) l
 subst K
 obtain rfl:u=Value.ref a:=C
 exact Ts d F g G q fun Q M=>⟨b,J,M,L⟩
end
theorem OD {P:Program} {w:World} {H:Hp} (h:Heap) (a:sysModules<h.objs.size):BO P w H (h.push {cls:=.type "dict",data:=.dict #[]}) h.objs.size (.dK []):=
 ⟨Nat.zero_le _,beq_eq_false_iff_ne.mpr (Ne.symm (Nat.ne_of_lt a)),[],.nil,Heap.DictOf.new h⟩
def cN:TE:=fun _ H Q=>∀p,H p=none->Q (.ref p) (upd H p (.dK []))
section
variable{X:Cx} {pos:Pos}
theorem Dv:PE X (.Dict [] [] pos) cN:=fun pins s b H Q I h=>
 wpAny_Dict_empty ⟨.ref s.heap.objs.size,_,I.laid (a:=s.heap.objs.size) (o:=.dK []) (t':=s.toks) (fun _ _ q=>Heap.get?_push_of_some _ q) (Nat.le_refl _) (OD s.heap I.big),rfl,h _ (I.Be.fresh (Nat.le_refl _))⟩
end
def QT:List (TE×TE)->St->Hp->(List (V×V)->Hp->Prop)->Prop
 |[],_,H,Q=>Q [] H
 |(tk,b)::r,a,H,Q=>tk a H fun x c=>b a c fun y H2=>QT r a H2 fun d e=>Q ((x,y)::d) e
abbrev VV:List (V×V)->List (Value×Value)->Prop:=Paired fun p q=>RelV p.1 q.1/\RelV p.2 q.2
def mP (X:Cx) (pos:Pos) (keys:List (Option Expr)) (values:List Expr) (a:List (TE×TE)):Prop:=
 ∀(pins:List (Addr×Obj)) (s:Shared) (b:St) (H:Hp) (Q:List (V×V)->Hp->Prop),Inv X pins b H s->QT a b H Q->
  wpAny (model X.prog X.w) X.A (evalPairs (pairTrees keys values X.env pos)) (fun e f=>∃c d,Inv X pins b d f/\VV c e/\Q c d) X.xe s
theorem JF {X:Cx} {pos:Pos}:mP X pos [] [] []:=fun pins s a H Q I h=>pairTrees_nil_walk ⟨[],H,I,.nil,h⟩
theorem FP {X:Cx} {pos:Pos} {k v:Expr} {ks:List (Option Expr)} {vs:List Expr} {tk d:TE} {a:List (TE×TE)} (e:PE X k tk) (f:PE X v d) (g:mP X pos ks vs a):
  mP X pos (some k::ks) (v::vs) ((tk,d)::a):=fun pins s b H Q I h=>
 pairTrees_cons_walk (BS (e pins s b H _ I h) fun u i j=>j.elim fun x l m n o=>BS (f pins i b l _ m o) fun D p ⟨y,q,r,t,w⟩=>
  BS (g pins p b q _ r w) fun E F ⟨z,A,B,c,C⟩=>⟨(x,y)::z,A,B,.cons ⟨n,t⟩ c,C⟩)
def CN (kvs more:List (Key×V)):List (Key×V):=more.foldl (fun a b=>putK a b.1 b.2) kvs
theorem KV.merge:∀{more:List (Key×V)} {rs:List (Key×Value)} {kvs:List (Key×V)} {vs:List (Key×Value)},KV more rs->KV kvs vs->KV (CN kvs more) (merged vs rs):=by
 intro more rs kvs vs r
 unfold KV at r
 induction r generalizing kvs vs with
 |nil=>intro q;exact q
 |@cons p q c d h t a=>
  intro b
  have e:KV (putK kvs p.1 p.2) (stored vs q.1 q.2):=by
   have:=b.put p.1 h.2
   rw[<-h.1];exact this
  exact a e
theorem DM:∀(more kvs:List (Key×V)),(CN kvs more).length<=kvs.length+more.length
 |[],kvs=>by show kvs.length<=kvs.length+0;lia
 |p::r,kvs=>by
  have a:=DM r (putK kvs p.1 p.2)
  have b:=ED kvs p.1 p.2
  show(CN (putK kvs p.1 p.2) r).length<=_
  rw[List.length_cons];lia
theorem Jd {P:Program} {w:World}:∀{kvs:List (Key×V)} {ws:List (Value×Value)},VV (kvs.map fun d=>(kV d.1,d.2)) ws->∃rs,Carries (Ay P w) ws rs/\KV kvs rs
 |[],_,r=>by rw[List.map_nil]at r;cases r;exact⟨[],True.intro,.nil⟩
 |p::kvs,_,r=>by
  rw[List.map_cons]at r
  cases r with
  |@cons a b as bs h t=>
   obtain⟨rs,c,q⟩:=Jd (P:=P) (w:=w) t
   obtain⟨f,e⟩:=b
   exact⟨(p.1,e)::rs,⟨Gj h.1,rfl,c⟩,.cons ⟨rfl,h.2⟩ q⟩
def iT (a:List (TE×TE)):TE:=fun d H Q=>∀p,H p=none->QT a d (upd H p (.dK [])) fun e b=>b p=some (.dK [])/\∃kvs:List (Key×V),e=kvs.map (fun c=>(kV c.1,c.2))/\kvs.length<=15/\Q (.ref p) (upd b p (.dK (CN [] kvs)))
theorem JG {X:Cx} {pos:Pos} {keys:List (Option Expr)} {values:List Expr} {b:List (TE×TE)} (h:mP X pos keys values b) (d:keys.all (·.isSome)=true) (hl:keys.length=values.length) (k:keys≠[])
  (g:keys.length<=15):PE X (.Dict keys values pos) (iT b):=by
 intro pins s l H Q I q
 have m:=I.Be.fresh (Nat.le_refl s.heap.objs.size)
 have n:=I.laid (a:=s.heap.objs.size) (o:=.dK []) (h':=s.heap.push {cls:=.type "dict",data:=.dict #[]}) (t':=s.toks) (fun _ _ q=>Heap.get?_push_of_some _ q) (Nat.le_refl _) (OD s.heap I.big)
 refine wpAny_Dict_walk (knd:=Ay X.prog X.w) d hl k g (BS (h pins _ l _ _ n (q _ m)) fun G J ⟨K,L,j,i,e,kvs,p,lk,r⟩=>?_)
 subst p
 obtain⟨t,c,u⟩:=Jd (P:=X.prog) (w:=X.w) i
 obtain⟨z,v,x,y,A⟩:=Rm j.Be e
 cases y
 refine⟨t,c,A,fun h' f B=>⟨.ref s.heap.objs.size,_,?_,rfl,r⟩⟩
 have C:(CN [] kvs).length<=sizeLine:=by
  have D:=DM kvs []
  rw[List.length_nil]at D
  rw[sizeLine_eq];lia
 have E:∃q,h'.get? s.heap.objs.size=some q:=let⟨q,_,_,F,_⟩:=f;⟨q,F⟩
 exact JE j (by rw[e];exact True.intro) B E (Hq C v (u.merge .nil) f)
structure M1 (X:Cx) (o:Expr) (m:Str) (apos:Pos) (e:Expr) (EB:Pos):Prop where
 base:attributeBase o m X.env (eval o X.env)=eval o X.env
 Fz:((backTo EB (starEach [e] X.env)).all (fun x=> !x.1)&&(backToKw EB (keywordEach [] X.env)).all (fun x=>x.1.isSome)
  &&decide (([e]:List Expr).length+([]:List Keyword).length+(if([]:List Keyword).isEmpty then 0 else 1)<30))=true
 line:(apos.endLine==EB.line)=true
 trees:backTo EB (starEach [e] X.env)=[(false,eval e X.env)]
structure M2 (X:Cx) (o:Expr) (m:Str) (apos:Pos) (e f:Expr) (EB:Pos):Prop where
 base:attributeBase o m X.env (eval o X.env)=eval o X.env
 Fz:((backTo EB (starEach [e,f] X.env)).all (fun x=> !x.1)&&(backToKw EB (keywordEach [] X.env)).all (fun x=>x.1.isSome)
  &&decide (([e,f]:List Expr).length+([]:List Keyword).length+(if([]:List Keyword).isEmpty then 0 else 1)<30))=true
 line:(apos.endLine==EB.line)=true
 trees:backTo EB (starEach [e,f] X.env)=[(false,eval e X.env),(false,eval f X.env)]
def zS (H:Hp) (a:Addr):Prop:=(∃kvs,Rd H a (.dK kvs))∨∃kvs,Rd H a (.dT kvs)
theorem cO {X:Cx} {pins:List (Addr×Obj)} {j:St} {H:Hp} {s:Shared} {a:Addr} (I:Inv X pins j H s) (d:zS H a):
  s.TypeIs (.ref a) "dict"/\(∀b,Value.ref a=.ref b->∃c,s.heap.get? b=some c/\c.dict=none)/\(a==sysModules)=false:=by
 rcases d with⟨kvs,e⟩|⟨kvs,e⟩
 ·obtain⟨_,g,k,_,f⟩:=Ea I.Be e
  refine⟨f.typeIs,fun b q=>?_,g⟩
  cases q
  obtain⟨c,_,_,h,i,_⟩:=f
  exact⟨c,h,i.2.1⟩
 ·obtain⟨_,g,l,_,f⟩:=Ld I.Be e
  refine⟨f.typeIs,fun b q=>?_,g⟩
  cases q
  obtain⟨c,_,_,h,i,_⟩:=f
  exact⟨c,h,i.2.1⟩
section
variable{X:Cx} {pins:List (Addr×Obj)} {σ:St} {H:Hp} {s:Shared} {a:Addr} {y d:V} {u r:Value} {o:Option V} {A:Around} {E:Value->Shared->Prop}
end
def cP (e ty:TE):TE:=fun b H Q=>e b H fun x c=>∃a,x=.ref a/\zS c a/\ty b c fun y d=>∃kvs k v,d a=some (.dK kvs)/\y=kV k/\BM kvs k=some v/\Q v (upd d a (.dK (N_ kvs k)))
section
variable{X:Cx} {o e f:Expr} {apos EB:Pos} {td ty tx:TE}
theorem OE (i:PE X o td) (j:PE X e ty) (m:M1 X o "pop" apos e EB):PE X (.Call (.Attribute o "pop" apos) [e] [] EB) (cP td ty):=by
 intro pins s c H Q I h
 refine wpAny_Call_method m.base m.Fz m.line PySem.F.plainAttrs_dict PySem.F.slot_dict_pop PySem.F.type_dict_pop (BS (i pins s c H _ I h) fun u n ⟨x,p,g,q,a,r,d,t⟩=>?_)
 subst r
 obtain rfl:u=Value.ref a:=q
 obtain⟨w,z,_⟩:=cO g d
 refine⟨w,z,?_⟩
 rw[m.trees]
 refine Calls.callWith_builtin rfl (Calls.evalArgs_plain (Calls.spliced_cons (BS (j pins n c p _ g t) fun J K ⟨y,L,A,B,kvs,k,v,C,D,l,E⟩=>Calls.spliced_nil ?_)))
 subst D
 exact iO A C B l (.inl rfl) fun M N G b=>⟨v,_,G,b,E⟩
end
section
variable{X:Cx} {pins:List (Addr×Obj)} {σ:St} {H:Hp} {s:Shared} {a:Addr} {kvs:List (Key×V)} {A:Around} {E:Value->Shared->Prop}
theorem Va {Q:Value->Shared->Prop} (I:Inv X pins σ H s) (e:Rd H a (.dK kvs)) (h:∀p f,H p=none->Inv X pins σ (upd H p (.dK kvs)) f->Q (.ref p) f):wpAny (model X.prog X.w) A (call (.type "dict") [.ref a]) Q E s:=by
 obtain⟨z,i,l,c,j⟩:=Ea I.Be e
 refine kt_call_dict i j (by rw[<-c.length];exact z) fun m d k=>?_
 refine h _ _ (I.Be.fresh (Nat.le_refl _)) (I.laid (a:=s.heap.objs.size) (o:=.dK kvs) (t':=s.toks) (fun b q g=>?_) (Nat.le_refl _) (Hq z (beq_eq_false_iff_ne.mpr (Ne.symm (Nat.ne_of_lt I.big))) c d))
 exact(k.2 b (Nat.ne_of_lt (Heap.lt_size g))).trans (Heap.get?_push_of_some _ g)
end
section
variable{X:Cx} {pins:List (Addr×Obj)} {σ:St} {H:Hp} {s:Shared} {a:Addr} {y:V} {u:Value} {A:Around} {E:Value->Shared->Prop}
end
end L2
namespace zT
open PySem PySem.W PySem.Calls PyProof.Rows
theorem Iv {P:Params} {h:Heap}:∀(c:List Int) (vs:List Value),WellAll P h vs (c.map WData.int)->IntsAre vs c:=by
 intro c
 induction c with
 |nil=>
  intro vs w
  rw[List.map_nil]at w
  cases w
  exact .nil
 |cons n c d=>
  intro vs w
  rw[List.map_cons]at w
  cases w with
  |cons a b=>
   cases a
   exact .cons _ _ (d _ b)
theorem Tt {l:OpenLaw} {n:Nat} (m:l.most=some n) {P:Params} {h:Heap} {args:List WData} {vals:List Value}
  (c:l.row.toRowW.claim.pre args=true) (i:WellAll P h vals args):
  ∃a vs b,vals=[Value.ref a]/\args=[WData.list (b.map WData.int)]/\h.get? a=some {cls:=.type "list",data:=.seq vs.toArray}/\IntsAre vs b/\b.length<=n:=by
 have j:WShape.hasAll [] args [.list .int]=true:=(pre_splitW c).1
 have k:l.pre.holds [] {args:=args}=true:=(pre_splitW c).2
 obtain⟨d,r,rfl,o,p⟩:=hasAllW_cons j
 obtain rfl:=hasAllW_nil p
 obtain⟨x,rfl,s⟩:=hasW_list o
 obtain⟨b,rfl⟩:=items_int s
 have hlen:b.length<=n:=by
  unfold OpenLaw.pre at k
  have f:(WTm.not (.lt (.lit (.int (n:Int))) (.len (.arg 0)))).holds [] {args:=[.list (b.map .int)]}=true:=by
   have f:=(holds_andW k).1
   rw[m]at f
   exact f
  have g:=condW_of f (w_not (w_lt w_lit (w_len_list (w_arg rfl))))
  rw[List.length_map]at g
  refine Nat.le_of_not_lt fun q=>?_
  have t:(n:Int)<((b.length:Nat):Int):=by lia
  first
   |(rw[decide_eq_true t]at g;exact absurd g (by decide))
   |(simp at g;lia)
 cases i with
 |cons u v=>
  cases v
  cases u with
  |list w e=>exact⟨_,_,b,rfl,rfl,w,Iv b _ e,hlen⟩
theorem Tu (l:OpenLaw) (args:List WData):l.row.toRowW.claim.post args (.bool true) args=true:=
 postW_of (r:=l.row.toRowW) (X:=(true==true))
  (show WShape.has [] (.bool true) .bool=true by first|rfl|decide|simp[WShape.has,WShape.arms,WShape.armsAll])
  (show(WTm.eq .res (.lit (.bool true))).value [] {args:=args,res:=some (.bool true),after:=args}=some (.bool (true==true))from w_eq_bool (w_res rfl) w_lit) rfl
theorem OF {l:OpenLaw} {n:Nat} {q:Program} {loose:List Str} {v:(Str->Option Value)->Heap->Prop} {YP:World->Heap->Prop} {d:DefRec}
  (z:l.most=some n) (k:d.params.defaults=[])
  (call:∀(w:World) (s₀ b:Shared) (mg m:Str->Option Value) (c:Addr) (o:Obj) (p h doc:Value) (a:Addr) (vs:List Value) (i:List Int),
   Ground q loose [] v w s₀ mg m b.heap->YP w b.heap->
   b.heap.get? c=some o->o.data=.func (docDef d.name d.params d.body d.scope p h doc)->b.heap.CodeRec h d.name->mg d.name=some (.ref c)->
   b.heap.get? a=some {cls:=.type "list",data:=.seq vs.toArray}->IntsAre vs i->i.length<=n->b.gens= #[]->
   codeAny (model l.prog w) callerA (.call (.ref c) ⟨[.ref a],[]⟩) (fun r j=>r=.ok (.ret (.bool true))/\OldK b.heap j.heap/\j.os=b.os/\AllBare j.gens) b):
  WalkO q loose v YP l.row.toRowW d [] (fun f vs=>PySem.call f vs):=by
 intro w s₀ b mg m G Y c o p h doc A kV B C s x t D args vals M e y E u F
 obtain rfl:A=.none:=Dflts.none x k
 obtain rfl:kV=.none:=Dflts.noKw x
 obtain⟨a,vs,i,rfl,rfl,g,hints,hlen⟩:=Tt z e u
 refine enter_call (codeAny_mono (call w s₀ b mg m c o p h doc a vs i G Y B (fd_plain C) s t g hints hlen D) fun r j H=>?_)
 obtain⟨rfl,I,J,K⟩:=H
 exact⟨.inl ⟨.bool true,.bool true,[],rfl,fun _=>rfl,.bool true,Tu l _,fun _=>⟨List.Pairwise.nil,fun _ L=>(nomatch L)⟩⟩,I,J,K⟩
section
variable{prog:Program} {w:World} {A:Around} {E:Value->Shared->Prop} {s:Shared} {K:Frag}
end
end zT
namespace L2
open PySem PySem.Spec PyProof.Rows
theorem Tv {vs:List Value} {a:List Int} (h:IntsAre vs a):Vals (a.map V.int) vs:=by
 induction h with
 |nil=>exact .nil
 |cons n t _ b=>exact .cons ⟨t,rfl⟩ b
def cQ (H:Hp):Prop:=∀b,H b=none∨∃o a,H b=some (.Cg o (.lst a))
theorem Vb {P:Program} {w:World} {K:AGW} {mg L:Str->Option Value} {CX:Tj} {k:Nat} {M a:Addr} {U:FuncData} {x:Str} {sp:Sp} {c:Shared} {vs:List Value} {p:List Int}
  (X:K.In c.heap) (t:c.heap.Ns mainGlobals mg) (g:c.heap.Ns builtinsNs L) (N:∀x:Str,x≠"__name__"->L x=bootBuiltins x) (y:c.heap.NoLimit) (hg:c.gens= #[])
  (J:c.heap.get? a=some {cls:=.type "list",data:=.seq vs.toArray}) (Y:IntsAre vs p) (Z:p.length<=sizeLine) (hr:Ao k callerA)
  (F:∀base:Heap,K.In base->base.Ns mainGlobals mg->BH P w K mg base CX k M U [x] sp) (l:∀(s:Shared) (u:Value),BindsTo s U ⟨[u],[]⟩ [(x,u)])
  (O:∀H:Hp,cQ H->An K H a (p.map V.int)->sp [.ref a] H (fun v _=>v=.bl true) fun _ _ _=>False)
  (Q:∀H e i,CX [] H c (fun _ _ _=>False) e i->False):
  codeAny (model P w) callerA (.call (.ref M) ⟨[.ref a],[]⟩) (fun r i=>r=.ok (.ret (.bool true))/\OldK c.heap i.heap/\i.os=c.os/\AllBare i.gens) c:=by
 have rv:=Tv Y
 have A:=Y.length
 have core:∀H:Hp,cQ H->An K H a (p.map V.int)->F' P w H c.heap->(∀b,H b≠none->b=a)->(H a≠none->K.lookup a=none)->
   codeAny (model P w) callerA (.call (.ref M) ⟨[.ref a],[]⟩) (fun r i=>r=.ok (.ret (.bool true))/\OldK c.heap i.heap/\i.os=c.os/\AllBare i.gens) c:=by
  intro H hO hS B hA hK
  have f:∀{b:Addr} {o:Obj},c.heap.get? b=some o->H b=none->(MJ c.heap H).get? b=some o:=fun e n=>VA e n
  have R:∀{b:Addr} {o:Obj} {C:Array DictEntry} {D:Nat},c.heap.get? b=some o->o.data=.dict C D->H b=none:=fun{b o C D} e d=>by
   cases q:H b with
   |none=>rfl
   |some u=>
    have S:b=a:=hA b (by rw[q];simp)
    subst S
    rw[J]at e;cases e
    have d':Data.seq vs.toArray _=Data.dict C D:=d
    cases d'
  have j:∀{b:Addr} {m:Str->Option Value},c.heap.Ns b m->(MJ c.heap H).Ns b m:=fun{b m} ⟨o,C,D,e,d,r⟩=>⟨o,C,D,f e (R e d),d,r⟩
  have E:K.In (MJ c.heap H):=fun b o e=>f (X b o e) (by
   cases q:H b with
   |none=>rfl
   |some u=>
    have S:b=a:=hA b (by rw[q];simp)
    subst S
    rw[hK (by rw[q];simp)]at e;cases e)
  have hM:Mod K mg (MJ c.heap H):=⟨E,j t,⟨L,j g,N⟩,let⟨mc,h1,h2⟩:=y;⟨mc,j h1,h2⟩⟩
  have e0:YI P w K mg (MJ c.heap H) callerA [] c H:=⟨rfl,hM,fun b o e=>YC e,Nat.le_of_eq (Tb _ _),trivial,fun b g=>absurd (show b∈([]:List Addr)from g) (by simp),B,.of_eq hg⟩
  refine codeAny_mono ((F _ E (j t)).run callerA [] c H ⟨[.ref a],[]⟩ [.ref a] [.ref a] _ _ hr e0 (l c (.ref a)) (.cons rfl .nil) (O H hO hS)) fun r i h=>?_
  cases r with
  |error e=>exact(Q H e i h).elim
  |ok fl=>
   cases fl with
   |next=>exact False.elim h
   |brk=>exact False.elim h
   |cont=>exact False.elim h
   |ret u=>
    obtain⟨v,H',os,bare,un,G,r',q⟩:=h
    have q':v=.bl true:=q
    subst q'
    obtain rfl:u=Value.bool true:=r'
    refine⟨rfl,OldK.of_keep fun b o e=>?_,os,bare⟩
    cases q:H b with
    |none=>exact un.keep b o e q (by intro z;exact absurd (show b∈([]:List Addr)from z) (by simp)) (by simp)
    |some u=>
     rcases hO b with z|⟨ob,xs,z⟩
     ·rw[q]at z;cases z
     ·have z2:=un.JR b ob _ z
      obtain⟨e1,_⟩:=B b _ z
      obtain⟨e2,_⟩:=G b _ z2
      rw[e]at e1;cases e1
      exact e2
 cases T:K.lookup a with
 |some o=>
  have e:=X a o T
  rw[J]at e
  cases e
  refine core (fun _=>none) (fun _=>.inl rfl) (.inr ⟨_,vs.toArray,_,T,rfl,rfl,rfl,by rw[List.size_toArray,A];exact Z,by simpa using rv⟩) (fun b u z=>by have I:(none:Option HO)=some u:=z;cases I) (fun b z=>absurd rfl z) fun z=>absurd rfl z
 |none=>
  refine core (fun b=>if b=a then some (.Cg {cls:=.type "list",data:=.seq vs.toArray} (.lst (p.map V.int)))else none) (fun b=>?_) (.inl (.inr ⟨{cls:=.type "list",data:=.seq vs.toArray},if_pos rfl⟩)) (fun b u z=>?_) (fun b z=>?_) fun _=>T
  ·by_cases g:b=a
   ·exact .inr ⟨_,_,if_pos g⟩
   ·exact .inl (if_neg g)
  ·by_cases g:b=a
   ·have I:=(if_pos g).symm.trans z
    cases I
    subst g
    exact⟨J,by rw[List.length_map];exact Z,vs,_,rv,J⟩
   ·have I:=(if_neg g).symm.trans z
    cases I
  ·by_cases g:b=a
   ·exact g
   ·exact absurd (if_neg g) z
theorem YU {l:PySem.W.OpenLaw} {n k:Nat} {q:Program} {loose:List Str} {E:(Str->Option Value)->Heap->Prop} {YP:World->Heap->Prop} {d:DefRec} {K:Params->AGW} {CX:World->Tj} {sp:World->Sp} {x:Str}
  (I:l.most=some n) (p:n<=sizeLine) (r:d.params.defaults=[]) (J:Ao k callerA)
  (L:∀(w:World) (h:Heap),YP w h->(K w.params).In h)
  (F:∀(w:World) (mg:Str->Option Value) (j:Addr) (h:Heap),(K w.params).In h->h.Ns mainGlobals mg->mg d.name=some (.ref j)->
   ∃t:FuncData,(∀(s:Shared) (u:Value),BindsTo s t ⟨[u],[]⟩ [(x,u)])/\
    ∀base:Heap,(K w.params).In base->base.Ns mainGlobals mg->BH l.prog w (K w.params) mg base (CX w) k j t [x] (sp w))
  (y:∀(w:World) (H:Hp) (a:Addr) (m:List Int),m.length<=n->cQ H->An (K w.params) H a (m.map V.int)->sp w [.ref a] H (fun v _=>v=.bl true) fun _ _ _=>False)
  (z:∀(w:World) (H:Hp) (s:Shared) (e:Value) (A:Shared),CX w [] H s (fun _ _ _=>False) e A->False):
  PySem.W.WalkO q loose E YP l.row.toRowW d [] (fun f vs=>PySem.call f vs):=by
 refine zT.OF I r fun w C c mg S j o U X doc a vs m G Y Z hd M B i hints hlen N=>?_
 have D:=L w _ Y
 obtain⟨t,O,P⟩:=F w mg j _ D G.T.g B
 exact Vb D G.T.g G.T.b G.T.builtins G.T.nolimit N i hints (Nat.le_trans hlen p) J P O (fun H Q R=>y w H a m hlen Q R) fun H e A=>z w H c e A
def Af (s:Stmt):Arguments:=match s with
 | .FunctionDef _ a _ _ _ _ _ _ _ _=>a
 |_=>{posonlyargs:=[],args:=[],vararg:=none,kwonlyargs:=[],kw_defaults:=[],kwarg:=none,defaults:=[]}
def Ac (s:Stmt):List Stmt:=match s with
 | .FunctionDef _ _ b _ _ _ _ _ _ _=>b
 |_=>[]
def AI (s:Stmt):Scope:=match s with
 | .FunctionDef _ _ _ _ _ _ a _ _ _=>a
 |_=>{kind:=.function,names:=[],isGenerator:=false,isCoroutine:=false}
abbrev Cs:Tj:=fun _ _ _ _ _ _=>False
abbrev E0:XK:=fun _ _ _=>False
theorem AX {X:Cx}:Passes Cs X E0:=fun _ _ _ _ _ _ _ h=>h.elim
structure DN (K:AGW) (x qual:Str) (st:Stmt) (f:Addr) (fd:FuncData):Prop where
 ex:∃(oc:Value) (od:Option Addr) (kV doc pm:Value) (an:Option Addr) (Gm ct:Value) (osl:Array (Option Value)),
  fd=PySem.W.fnOf x qual (Af st) (Ac st) (AI st) .none kV doc pm an Gm ct/\K.lookup f=some ⟨oc,od,.func fd,osl⟩/\PySem.W.codeIn K Gm qual=true
 kp:PySem.W.keepIn K (.ref f)=true
section
variable{P:Program} {w:World} {K:AGW} {mg:Str->Option Value} {base:Heap}
theorem DN.ok {x qual:Str} {st:Stmt} {f:Addr} {g:FuncData} {N c:List Str} {k:Nat} {sp:Sp} (F:DN K x qual st f g) (S:Al N c (AI st)) (len:∀vs H Q E,sp vs H Q E->vs.length=c.length)
  (b:∀(a:Value) (A:Around) (outer:List Env) (s:Shared) (H:Hp) (vs:List V) (Q:VK) (E:XK),Ao k (A.deeper (envOfC qual (AI st) s.heap.objs.size f a))->sp vs H Q E->
   ∃t,Te (Tn Cs P w K mg base N qual (AI st) f a A outer s H E).mJ (Ac st) t/\t {nx:=fun _ i=>Q .Av i,rt:=Q} (start N vs) H):BH P w K mg base Cs (k+1) f g c sp:=by
 obtain⟨m,n,kV,doc,o,p,a,r,j,rfl,lk,d⟩:=F.ex
 refine iF lk d S len fun A outer s H vs Q E l e=>?_
 obtain⟨t,h,q⟩:=b a A outer s H vs Q E l e
 exact⟨t,h.mJ,q⟩
theorem DN.binds {x qual:Str} {st:Stmt} {f:Addr} {e:FuncData} {b:List Str} (F:DN K x qual st f e)
  (h:∀(kV doc c:Value) (d:Option Addr) (a ct:Value) (us:List Value),us.length=b.length->bindArgs (PySem.W.fnOf x qual (Af st) (Ac st) (AI st) .none kV doc c d a ct) ⟨us,[]⟩=pure (b.zip us)):Binds K e b []:=by
 obtain⟨j,k,kV,doc,c,d,a,ct,g,rfl,lk,i⟩:=F.ex
 exact .all (h kV doc c d a ct)
theorem A' {x qual:Str} {st:Stmt} {f:Addr} {g:Value} {h d:Option Addr} {b:Array (Option Value)} {kV doc e a ct:Value} (l:K.lookup f=some ⟨g,h,.func (PySem.W.fnOf x qual (Af st) (Ac st) (AI st) .none kV doc e d a ct),b⟩)
  (c:PySem.W.codeIn K a qual=true) (k:PySem.W.keepIn K (.ref f)=true):DN K x qual st f (PySem.W.fnOf x qual (Af st) (Ac st) (AI st) .none kV doc e d a ct):=⟨⟨g,h,kV,doc,e,d,a,ct,b,rfl,l,c⟩,k⟩
end
theorem BQ {A:Around} {k:Nat} (a:Ao k A):A.units+1<cLine:=Nat.lt_of_le_of_lt (Nat.add_le_add_left (by decide:1<=64) _) a.units
theorem BG {n:Nat} (h:n<=1000):n<sizeLine:=Nat.lt_of_le_of_lt h (by decide)
section
variable{X:Cx}
theorem pv (i:Nat) {x:Str} {pos:Pos} (b:X.N[i]?=some x:=by rfl) (c:mE X.env.scope x:=by first|exact Or.inl rfl|exact Or.inr (Or.inl rfl)|exact Or.inr (Or.inr rfl)) (d:(x==("__debug__":Str))=false:=by decide)
  (a:(x==("__classdict__":Str))=false:=by decide):PE X (.Name x pos) (Ga i):=bp b c d a
inductive Ma (xs:List V) (H:Hp) (Q:VK):Prop
 |mk (a:_) (kvs:_) (b:xs=[V.ref a]) (c:H a=some (.dK kvs)) (d:Q (.int kvs.length) H):Ma xs H Q
end
theorem BK {A B:Prop} (h:B):if false=true then A else B:=by
 rw[if_neg Bool.false_ne_true]
 exact h
theorem Cr {A B:Prop} (h:A):if true=true then A else B:=by
 rw[if_pos rfl]
 exact h
theorem Vc {c A B:Prop} [Decidable c] (a:c->A) (b:¬c->B):if c then A else B:=by
 by_cases h:c
 ·rw[if_pos h]
  exact a h
 ·rw[if_neg h]
  exact b h
def AE (H H':Hp):Prop:=∀b o,H b=some o->H' b=some o
theorem AE.refl (H:Hp):AE H H:=fun _ _ h=>h
theorem AE.trans {H d H2:Hp} (a:AE H d) (b:AE d H2):AE H H2:=fun c o h=>b c o (a c o h)
theorem AE.free {H H':Hp} (e:AE H H') {l:Addr} (h:H' l=Option.none):H l=Option.none:=by
 cases q:H l with
 |none=>rfl
 |some o=>
  rw[e l o q]at h
  cases h
theorem AE.seq {K:AGW} {H H':Hp} {a:Addr} {xs:List V} (e:AE H H') (h:An K H a xs):An K H' a xs:=by
 rcases h with(h|⟨o,h⟩)|h
 ·exact .inl (.inl (e _ _ h))
 ·exact .inl (.inr ⟨o,e _ _ h⟩)
 ·exact .inr h
section
variable{κ:Type} [DecidableEq κ]
theorem OG {kvs:List (κ×V)} {k:κ} (h:BM kvs k=none):¬k∈kvs.map (·.1):=by
 intro m
 obtain⟨p,a,e⟩:=List.mem_map.mp m
 have q:(kvs.any fun b=>decide (b.1=k))=true:=List.any_eq_true.mpr ⟨p,a,decide_eq_true e⟩
 rw[Ct,h]at q
 exact absurd q (by simp)
theorem Mc {kvs:List (κ×V)} {k:κ} {v:V} (h:BM kvs k=some v):k∈kvs.map (·.1):=by
 have q:(kvs.any fun a=>decide (a.1=k))=true:=by
  rw[Ct,h]
  all_goals rfl
 obtain⟨p,b,e⟩:=List.any_eq_true.mp q
 exact List.mem_map.mpr ⟨p,b,of_decide_eq_true e⟩
end
theorem Je {prog:Program} {w:World} {A:Around} {R:Result->Shared->Prop} {a f iter:Expr} {d:List Expr} {scope:Scope} {pos:Pos} {g b:Value} {env:Env} (e:Nat->Shared->Prop)
  (step:∀n s,e n s->wpAny (model prog w) A (pyNext g) (fun r p=>match r with
   |none=>R (.ok .next) p
   |some v=>wpAny (model prog w) A (letOwnedTupleGo f g v) (fun _ u=>wpAny (model prog w) A (assign f env v) (fun _ B=>
     wpAny (model prog w) A (forIn d true fun c r=>if r=true then do let ok<-isTrue c env (eval c env);pure (ForInStep.yield ok)else pure (ForInStep.yield r)) (fun ok i=>
      if ok=true then wpAny (model prog w) A (eval a env) (fun y j=>wpAny (model prog w) A (call (.builtin "list.append") [b,y]) (fun _ l=>∃m,m<n/\e m l) (fun _ _=>False) j) (fun _ _=>False) i
      else∃m,m<n/\e m i) (fun _ _=>False) B) (fun _ _=>False) u) (fun _ _=>False) p) (fun _ _=>False) s)
  (n:Nat) {s:Shared} (h:e n s):codeAny (model prog w) A (.compLoop (.ListComp a [⟨f,iter,d,0⟩] scope pos) 0 g b env) R s:=by
 have up:∀{C:Type} {t:Sem C} {Q:C->Shared->Prop} {E:Value->Shared->Prop} {s:Shared},wpAny (model prog w) A t Q (fun _ _=>False) s->wpAny (model prog w) A t Q E s:=
  fun h=>wpAny_mono h (fun _ _ q=>q) fun _ _ z=>z.elim
 refine codeAny_loop rfl e (fun k s F=>?_) n h
 show wpAny _ A ((compTurn (.ListComp a [⟨f,iter,d,0⟩] scope pos) 0 g b env).onRaise (fun x=>do noteFrame x env;theTreesLotGoes x)) _ _ s
 refine wpAny_noted ?_
 rw[compTurn_list]
 refine wpAny_bind (wpAny_standAt (wpAny_bind (wpAny_mono (up (step k s F)) (fun r p D=>?_) fun _ _ z=>z)))
 cases r with
 |none=>exact wpAny_pure D
 |some v=>
  refine wpAny_bind (wpAny_mono (up D) (fun _ u G=>?_) fun _ _ z=>z)
  refine wpAny_bind (wpAny_mono (up G) (fun _ B H=>?_) fun _ _ z=>z)
  refine wpAny_bind (wpAny_mono (up H) (fun ok i o=>?_) fun _ _ z=>z)
  cases ok with
  |false=>exact wpAny_pure ⟨rfl,o⟩
  |true=>
   have o:wpAny (model prog w) A (eval a env) (fun y j=>wpAny (model prog w) A (call (.builtin "list.append") [b,y]) (fun _ l=>∃m,m<k/\e m l) (fun _ _=>False) j) (fun _ _=>False) i:=o
   exact wpAny_bind (wpAny_bind (wpAny_mono (up o) (fun y j I=>wpAny_bind (wpAny_mono (up I) (fun _ l J=>wpAny_pure (wpAny_pure ⟨rfl,J⟩)) fun _ _ z=>z)) fun _ _ z=>z))
def Dd (cells:List (Str×Addr)):List (Str×NameKind)->List (Str×Addr)->List (Str×Addr)
 |[],a=>a
 |(n,k)::r,a=>if k==.free then Dd cells r ((n,(cells.lookup n).getD 0)::a)else Dd cells r a
theorem Di {cells:List (Str×Addr)} {x:Str} {c:Addr}:∀(names:List (Str×NameKind)) (a:List (Str×Addr)),(∀p∈names,p.2=.free->∃c,cells.lookup p.1=some c)->
  (∀y d,a.lookup y=some d->cells.lookup y=some d)->(Dd cells names a).lookup x=some c->cells.lookup x=some c
 |[],a,_,g,h=>g x c h
 |(n,k)::r,a,i,g,h=>by
  unfold Dd at h
  by_cases j:(k==NameKind.free)=true
  ·rw[if_pos j]at h
   have o:k=.free:=by simpa using j
   obtain⟨d,q⟩:=i (n,k) List.mem_cons_self o
   refine Di r _ (fun p l=>i p (List.mem_cons_of_mem _ l)) (fun y e f=>?_) h
   rw[List.lookup_cons]at f
   cases b:y==n with
   |true=>
    rw[b]at f
    have:y=n:=by simpa using b
    subst this
    have m:List.lookup y cells=some d:=q
    rw[m]at f⊢
    exact f
   |false=>
    rw[b]at f
    exact g y e f
  ·rw[if_neg j]at h
   exact Di r a (fun p l=>i p (List.mem_cons_of_mem _ l)) g h
theorem Dm {cells:List (Str×Addr)} {x:Str}:∀(names:List (Str×NameKind)) (a:List (Str×Addr)),((a.lookup x).isSome=true∨(x,NameKind.free)∈names)->((Dd cells names a).lookup x).isSome=true
 |[],a,h=>h.elim (fun z=>z) fun z=>nomatch z
 |(n,k)::r,a,h=>by
  unfold Dd
  by_cases b:(k==NameKind.free)=true
  ·rw[if_pos b]
   refine Dm r _ ?_
   rcases h with h|h
   ·refine .inl ?_
    rw[List.lookup_cons]
    cases x==n<;>simp[h]
   ·rcases List.mem_cons.mp h with e|e
    ·refine .inl ?_
     have:x=n:=congrArg Prod.fst e
     subst this
     rw[List.lookup_cons]
     simp
    ·exact .inr e
  ·rw[if_neg b]
   refine Dm r _ ?_
   rcases h with h|h
   ·exact .inl h
   ·rcases List.mem_cons.mp h with e|e
    ·have:NameKind.free=k:=congrArg Prod.snd e
     subst this
     exact absurd rfl b
    ·exact .inr e
theorem CV {scope:Scope} {env:Env} (h:∀p∈scope.names,p.2=.free->∃c,env.cells.lookup p.1=some c):closureFor scope env=pure (Dd env.cells scope.names []):=by
 have go:∀(names:List (Str×NameKind)) (b:List (Str×Addr)),(∀p∈names,p.2=.free->∃c,env.cells.lookup p.1=some c)->
   (forIn names b (fun(x:Str×NameKind) r=>if(x.2==NameKind.free)=true then do let a<-cellOf env x.1;pure (ForInStep.yield ((x.1,a)::r))else pure (ForInStep.yield r)):Sem (List (Str×Addr)))=pure (Dd env.cells names b):=by
  intro names
  induction names with
  |nil=>intro b _;rfl
  |cons p r j=>
   intro b f
   obtain⟨n,k⟩:=p
   rw[List.forIn_cons]
   unfold Dd
   by_cases g:(k==NameKind.free)=true
   ·have l:k=.free:=by simpa using g
    obtain⟨c,d⟩:=f (n,k) List.mem_cons_self l
    have d:List.lookup n env.cells=some c:=d
    have e:cellOf env n=pure c:=by unfold cellOf;rw[d]
    simp only[g,if_true,e,d,Option.getD_some]
    exact j _ fun p i=>f p (List.mem_cons_of_mem _ i)
   ·simp only[g,if_false]
    exact j _ fun p i=>f p (List.mem_cons_of_mem _ i)
 unfold closureFor
 exact Eq.trans (congrArg (fun t:Sem (List (Str×Addr))=>t>>=fun m=>pure m) (go scope.names [] h)) rfl
def Gn (env:Env) (n:Str) (k:NameKind):NameKind:=if(k==.free&&env.scope.kind==.function&&env.kindOf n==some .cell)=true then .cell else k
theorem Gp {g:Str->NameKind->NameKind} (y:Str):∀names:List (Str×NameKind),(names.map fun p=>(p.1,g p.1 p.2)).lookup y=(names.lookup y).map (g y)
 |[]=>rfl
 |(n,k)::r=>by
  rw[List.map_cons,List.lookup_cons,List.lookup_cons]
  cases e:y==n with
  |true=>
   have:y=n:=by simpa using e
   subst this
   rfl
  |false=>exact Gp y r
theorem Cu (scope:Scope) (env:Env) (y:Str):(relabel scope env).names.lookup y=(scope.names.lookup y).map (Gn env y):=by
 have e:(relabel scope env).names=scope.names.map fun p=>(p.1,Gn env p.1 p.2):=by
  unfold relabel
  refine List.map_congr_left fun p _=>?_
  obtain⟨n,k⟩:=p
  show(if(k==NameKind.free&&env.scope.kind==.function&&env.kindOf n==some .cell)=true then(n,NameKind.cell)else(n,k))=(n,if(k==NameKind.free&&env.scope.kind==.function&&env.kindOf n==some .cell)=true then NameKind.cell else k)
  by_cases h:(k==NameKind.free&&env.scope.kind==.function&&env.kindOf n==some .cell)=true
  ·rw[if_pos h,if_pos h]
  ·rw[if_neg h,if_neg h]
 rw[e]
 exact Gp y _
def Bn (a:St) (fs:List Nat):St:=fs.map fun i=>(a[i]?).join
theorem Lg {b:St} {fs:List Nat} {j:Nat} {v:V} (h:(Bn b fs)[j]?=some (some v)):∃i,fs[j]?=some i/\b[i]?=some (some v):=by
 unfold Bn at h
 rw[List.getElem?_map]at h
 cases e:fs[j]? with
 |none=>rw[e]at h;cases h
 |some i=>
  rw[e]at h
  refine⟨i,rfl,?_⟩
  have a:(b[i]?).join=some v:=AGU h
  cases c:b[i]? with
  |none=>rw[c]at a;cases a
  |some o=>
   rw[c]at a
   have a:o=some v:=a
   rw[a]
structure EM (X:Cx) (scope:Scope) (x:Str) (fv:List Str) (fs:List Nat):Prop where
 kind:scope.kind=.function
 Jf:∀p∈scope.names,p.2≠.cell
 names:∀p∈scope.names,p.2=.local->scope.names.lookup p.1=some .local
 tg:scope.names.lookup x=some .local
 free:∀p∈scope.names,p.2=.free->X.env.scope.names.lookup p.1=some .cell
 nd:(x::fv).Nodup
 oZ:∀(j:Nat) y,fv[j]?=some y->∃i,fs[j]?=some i/\X.N[i]?=some y/\scope.names.lookup y=some .free
 len:fv.length=fs.length
def Ro (a:Scope) (N:List Str) (scope:Scope) (x:Str) (fv:List Str) (fs:List Nat):Bool:=
 scope.kind==.function&&(scope.names.all fun p=>p.2 !=.cell)&&(scope.names.all fun p=>p.2 !=.local||scope.names.lookup p.1==some .local)&&scope.names.lookup x==some .local&&
 (scope.names.all fun p=>p.2 !=.free||a.names.lookup p.1==some .cell)&&decide (x::fv).Nodup&&fs.map (N[·]?)==fv.map some&&(fv.all fun y=>scope.names.lookup y==some .free)
theorem EM.of {X:Cx} {scope:Scope} {x:Str} {fv:List Str} {fs:List Nat} (h:Ro X.env.scope X.N scope x fv fs=true):EM X scope x fv fs:=by
 unfold Ro at h
 simp only[Bool.and_eq_true,List.all_eq_true,Bool.or_eq_true,bne_iff_ne,beq_iff_eq,decide_eq_true_eq]at h
 obtain⟨⟨⟨⟨⟨⟨⟨g,i⟩,k⟩,m⟩,n⟩,o⟩,f⟩,q⟩:=h
 have hlen:fs.length=fv.length:=by
  have:=congrArg List.length f
  simpa using this
 refine⟨g,i,fun p b c=>(k p b).resolve_left fun z=>z c,m,fun p b c=>(n p b).resolve_left fun z=>z c,o,fun j y e=>?_,hlen.symm⟩
 have r:j<fv.length:=(AGT e).1
 have d:=congrArg (fun l=>l[j]?) f
 simp only[List.getElem?_map,e]at d
 have a:j<fs.length:=by lia
 rw[AGS a]at d
 refine⟨fs[j],AGS a,?_,q y (AGV e)⟩
 simpa using d
abbrev CB (X:Cx) (N':List Str) (scope:Scope) (C:Addr) (s0:Shared) (H0:Hp) (fp:List Addr):Cx where
 prog:=X.prog
 w:=X.w
 K:=X.K
 mg:=X.mg
 base:=X.base
 A:=X.A
 N:=N'
 s₀:=s0
 H₀:=H0
 env:=compEnvC scope (Dd X.env.cells scope.names []) C X.env
 outer:=X.stack
 stack:=X.stack
 ex:=fp
 fn:=fun _=>false
 calm:=X.calm
 pn:=[]
 xe:=fun _ _=>False
section
variable{X:Cx} {pins:List (Addr×Obj)} {σ:St} {H H':Hp} {s s':Shared} {scope:Scope} {x:Str} {fv:List Str} {fs:List Nat} {fp:List Addr}
theorem EM.cells (ok:EM X scope x fv fs) (I:Inv X pins σ H s):∀p∈scope.names,p.2=.free->∃c,X.env.cells.lookup p.1=some c:=fun p a b=>I.ok.has p.1 (.inl (ok.free p a b))
theorem EM.look (ok:EM X scope x fv fs) (I:Inv X pins σ H s) {y:Str} {c:Addr} (h:(Dd X.env.cells scope.names []).lookup y=some c):X.env.cells.lookup y=some c:=
 Di scope.names [] (ok.cells I) (fun _ _ z=>by cases z) h
theorem QU (ok:EM X scope x fv fs) (I:Inv X pins σ H s) (t:∀b∈fp,FJ X pins H b) (w:∀b∈fp,∃o,s.heap.get? b=some o) {h:Heap} {m:Str->Option Value} {tk:Nat} (N:h.Ns s.heap.objs.size m)
  (kept:∀b o,s.heap.get? b=some o->h.get? b=some o):Inv (CB X (x::fv) scope s.heap.objs.size s H fp) [] (none::Bn σ fs) H {s with heap:=h,toks:=tk}:=by
 have g:=fun{y c}=>ok.look I (y:=y) (c:=c)
 have A:X.env.scope.kind=.function:=I.ok.kind
 refine⟨⟨I.ok.mod,ok.kind,I.ok.glob,I.ok.blt,Nat.le_refl _,fun y z c h O=>I.ok.inj y z c (g h) (g O),fun y a=>?_,fun y c B _=>(by cases B),I.ok.hd,I.ok.frames,.inl rfl,fun b f=>⟨?_,fun y c e z=>(t b f).2.2.2.2.1 y c (g e) z⟩,I.bs,
  Nat.le_trans I.ok.Xx I.sz,fun b o e f=>?_,fun b f C=>?_,I.stack,I.ML⟩,rfl,I.bare,Un.kept kept,⟨m,N,fun i y v D d T=>?_⟩,fun y c e=>?_,I.fresh,fun y c e=>I.EV y c (g e),fun p P=>absurd (show p∈([]:List (Addr×Obj))from P) (by simp),I.Be.kept kept,?_⟩
 ·have a:(relabel scope X.env).names.lookup y=some .cell∨(relabel scope X.env).names.lookup y=some .free:=a
  rw[Cu]at a
  have E:scope.names.lookup y=some .free:=by
   cases e:scope.names.lookup y with
   |none=>rw[e]at a;rcases a with z|z<;>cases z
   |some k=>
    rw[e]at a
    have a:Gn X.env y k=.cell∨Gn X.env y k=.free:=a.elim (fun z=>.inl (AGU z)) fun z=>.inr (AGU z)
    by_cases F:k=.free
    ·rw[F]
    ·have d:Gn X.env y k=k:=by
      unfold Gn
      have:(k==NameKind.free)=false:=by simpa using F
      rw[this]
      rfl
     rw[d]at a
     rcases a with z|z
     ·subst z
      exact absurd rfl (ok.Jf _ (PySem.mem_of_lookup e))
     ·exact absurd z F
  exact Option.isSome_iff_exists.mp (Dm scope.names [] (.inr (PySem.mem_of_lookup E)))
 ·obtain⟨o,n⟩:=w b f
  exact Nat.ne_of_lt (Heap.lt_size n)
 ·rcases(t b f).2.2.2.1 with z|z
  ·exact I.ok.Tc b o e z
  ·exact absurd (Nat.lt_of_lt_of_le (Heap.lt_size e) (Nat.le_trans I.ok.Xx z)) (Nat.lt_irrefl _)
 ·rcases List.mem_cons.mp (I.MK b C)with z|z
  ·exact(t b f).2.1 z
  ·exact(t b f).2.2.1 z
 ·cases i with
  |zero=>
   have d:(some none:Option (Option V))=some (some v):=d
   cases d
  |succ j=>
   have D:fv[j]?=some y:=D
   have d:(Bn σ fs)[j]?=some (some v):=d
   obtain⟨i,Q,R⟩:=Lg d
   obtain⟨U,M,S,G⟩:=ok.oZ j y D
   rw[Q]at M
   cases M
   have J:X.env.scope.names.lookup y=some .cell:=ok.free (y,.free) (PySem.mem_of_lookup G) rfl
   obtain⟨W,_,K⟩:=I.loc
   obtain⟨u,r,l⟩:=K i y v S R (.inr (.inl J))
   refine⟨u,r,?_⟩
   rcases l with⟨k,_⟩|⟨_,c,e,o,n,hd⟩
   ·have k:X.env.scope.names.lookup y=some .local:=k
    rw[J]at k
    cases k
   ·obtain⟨Y,q⟩:=Option.isSome_iff_exists.mp (Dm (cells:=X.env.cells) scope.names [] (.inr (PySem.mem_of_lookup G)))
    have:=g q
    rw[e]at this
    cases this
    refine .inr ⟨.inl ?_,c,q,o,kept _ _ n,hd⟩
    show(relabel scope X.env).names.lookup y=some .cell
    rw[Cu,G]
    show some (Gn X.env y .free)=_
    have L:X.env.kindOf y=some .cell:=J
    unfold Gn
    rw[A,L]
    rfl
 ·obtain⟨v,o,n,hd⟩:=I.cell y c (g e)
  exact⟨v,o,kept _ _ n,hd⟩
 ·show(none::Bn σ fs).length=(x::fv).length
  simp[Bn,ok.len]
theorem Jg {e:St} {C:Addr} {f:List Str} (I:Inv X pins σ H s) (a:∀b∈fp,FJ X pins H b) (c:Inv (CB X f scope C s H fp) [] e H' s'):Inv X pins σ H' s':=
 I.gq (ch:=fp) c.os c.base c.Be c.bare fun b d=>⟨(a b d).2.2.2.1,(a b d).2.1,(a b d).2.2.2.2.1,(a b d).2.2.2.2.2⟩
theorem Inv.off {C:Addr} {h':Heap} (I:Inv X pins σ H s) (f:FJ X pins H C) (a:Heap.SameBut C s.heap h'):Inv X pins σ H {s with heap:=h'}:=
 I.turned (t':=s.toks) (fun b o c e=>a.extBut b o c e) f.1 (fun z=>f.2.1 z) f.2.2.2.1 f.2.2.2.2.1 f.2.2.2.2.2
end
def aV (X:Cx) (a:List Expr) (t:TT):Prop:=
 ∀(pins:List (Addr×Obj)) (s:Shared) (b:St) (H:Hp) (Q:Bool->Hp->Prop),Inv X pins b H s->t b H Q->
  wpAny (model X.prog X.w) X.A (forIn a true fun c r=>if r=true then do let ok<-isTrue c X.env (eval c X.env);pure (ForInStep.yield ok)else pure (ForInStep.yield r)) (TP X pins b Q) X.xe s
def OH:TT:=fun _ H Q=>Q true H
theorem BV {X:Cx}:aV X [] OH:=fun _ _ _ H _ I h=>wpAny_tests_nil ⟨H,I,h⟩
theorem Fi {X:Cx} {c:Expr} {t:TT} (h:PT X c t):aV X [c] t:=fun pins s a H Q I q=>wpAny_tests_one (h pins s a H Q I q)
def EN (J:It) (h:TT) (j:TE) (fs:List Nat) (d:St) (H:Hp) (Q:VK):Prop:=∀D,H D=none->∃W:Nat->Nat->Hp->Prop,(∃m,W 0 m (upd H D (.lst [])))/\∀i m a,W i m a->
 (J.stop i a/\Q (.ref D) a)∨(J.go i a/\∀v e,J.NX i a v e->h (some v::Bn d fs) e fun ok f=>
  if ok=true then j (some v::Bn d fs) f fun y g=>∃c,g D=some (.lst c)/\c.length<sizeLine/\∃b,b<m/\W (i+1) b (upd g D (.lst (c++[y])))else∃b,b<m/\W (i+1) b f)
def Vd (b:TI) (c:TT) (d:TE) (fs:List Nat):TE:=fun a H Q=>b a H fun J e=>EN J c d fs a e Q
section
variable{X:Cx} {elt iter:Expr} {x:Str} {px pos:Pos} {ifs:List Expr} {scope:Scope} {fv:List Str} {fs:List Nat} {wi:TI} {te:TE} {tc:TT}
theorem OI (hc:X.calm=true) (ok:EM X scope x fv fs) (oe:∀C s0 H0 d,aV (CB X (x::fv) scope C s0 H0 d) ifs tc) (he:∀C s0 H0 d,PE (CB X (x::fv) scope C s0 H0 d) elt te)
  {pins:List (Addr×Obj)} {l:St} {H:Hp} {s:Shared} {E:Value->Shared->Prop} {it:Addr} {d:List Addr} {F:Nat->Heap->Prop} {J:It} {Q:VK} (I:Inv X pins l H s) (T:Turn X.prog X.w X.K (.Name x px) J d it F) (st:F 0 s.heap)
  (hf:∀b∈d,FJ X pins H b)
  (rd:EN J tc te fs l H Q)
  {RR:Value->Addr->Result->Shared->Prop}
  (og:∀D C t H',Inv X pins l H' t->FJ X pins H' C->(∃m,t.heap.Ns C m)->Q (.ref D) H'->RR (.ref D) C (.ok .next) t):
  wpAny (model X.prog X.w) X.A (newList []) (fun G a=>wpAny (model X.prog X.w) X.A (newFunctionEnv scope X.env.globals (Dd X.env.cells scope.names []) [] X.env.qual none .none (some X.env)) (fun g s4=>
   codeAny (model X.prog X.w) X.A (.compStart (.ListComp elt [⟨.Name x px,iter,ifs,0⟩] scope pos) 0 (.ref it) G {g with scope:=relabel scope X.env}) (RR G g.locals) s4) E a) E s:=by
 obtain⟨W,⟨m0,w0⟩,turn⟩:=rd s.heap.objs.size I.fresh
 have V:Inv X pins l (upd H s.heap.objs.size (.lst [])) {s with heap:=s.heap.push {cls:=.type "list",dict:=none,data:=.seq ([]:List Value).toArray}}:=I.VW (its:=[]) (ys:=[]) (t':=s.toks) .nil (Nat.zero_le _)
 refine wpAny_newObj_type ?_
 show wpAny _ _ _ _ _ ({s with heap:=s.heap.push {cls:=.type "list",dict:=none,data:=.seq ([]:List Value).toArray}}:Shared)
 generalize oh:({s with heap:=s.heap.push {cls:=.type "list",dict:=none,data:=.seq ([]:List Value).toArray}}:Shared)=a at V⊢
 refine wpAny_newFunctionEnv ok.Jf (fun y hy=>absurd hy (by simp)) (fun h1 oj om=>?_) ok.kind
 have eh:a.heap=s.heap.push {cls:=.type "list",dict:=none,data:=.seq ([]:List Value).toArray}:=by rw[<-oh]
 have L:∀b o,s.heap.get? b=some o->a.heap.get? b=some o:=fun b o e=>by rw[eh];exact Heap.get?_push_of_some _ e
 have oo:∀b∈d,∃o,a.heap.get? b=some o:=fun b c=>let⟨o,ho,_⟩:=T.obj 0 _ st b c;⟨o,L b o ho⟩
 have oq:∀b∈d,b≠s.heap.objs.size:=fun b c=>let⟨o,ho,_⟩:=T.obj 0 _ st b c;Nat.ne_of_lt (Heap.lt_size ho)
 have h:∀b∈d,FJ X pins (upd H s.heap.objs.size (.lst [])) b:=fun b c=>⟨by rw[AJ (oq b c)];exact(hf b c).1,(hf b c).2⟩
 have kept:∀b o,a.heap.get? b=some o->h1.get? b=some o:=fun b o e=>om.extBut b o (Nat.ne_of_lt (Heap.lt_size e)) (Heap.get?_push_of_some _ e)
 have Y:=QU (tk:=a.toks+([]:List (Str×Value)).length) ok V h oo oj kept
 have M:F 0 h1:=T.keep 0 _ _ st fun b c o e=>kept b o (L b o e)
 have f:∀{H':Hp},(∀b∈d,H' b=none)->∀b∈d,FJ (CB X (x::fv) scope a.heap.objs.size a (upd H s.heap.objs.size (.lst [])) d) [] H' b:=fun hn b c=>
  ⟨hn b c,(Y.ok.gD b c).1,Y.ok.Td b c,.inl c,(Y.ok.gD b c).2,fun p hp=>absurd hp (by simp)⟩
 have hg:PG (CB X (x::fv) scope a.heap.objs.size a (upd H s.heap.objs.size (.lst [])) d) (.Name x px) (BP 0):=Gd ok.nd rfl (.inl (lookup_relabel_local ok.tg)) (.inr (lookup_relabel_local ok.tg))
 have loop:codeAny (model X.prog X.w) X.A (.compLoop (.ListComp elt [⟨.Name x px,iter,ifs,0⟩] scope pos) 0 (.ref it) (.ref s.heap.objs.size) (compEnvC scope (Dd X.env.cells scope.names []) a.heap.objs.size X.env)) (RR (.ref s.heap.objs.size) a.heap.objs.size)
   {a with heap:=h1,toks:=a.toks+([]:List (Str×Value)).length}:=by
  refine Je (fun n t=>∃i o H',Inv (CB X (x::fv) scope a.heap.objs.size a (upd H s.heap.objs.size (.lst [])) d) [] (o::Bn l fs) H' t/\F i t.heap/\(∀b∈d,H' b=none)/\W i n H') ?_ m0
   ⟨0,none,_,Y,M,fun b c=>(h b c).1,w0⟩
  rintro n s5 ⟨i,o,Z,I5,N,O,w5⟩
  rcases turn i n Z w5 with⟨stop,q⟩|⟨go,step⟩
  ·refine BS (T.done (CB X (x::fv) scope a.heap.objs.size a (upd H s.heap.objs.size (.lst [])) d) rfl rfl rfl hc i [] s5 _ Z _ I5 (f O) N stop) fun r s6 ⟨hr,I6⟩=>?_
   subst hr
   obtain⟨m,hm,_⟩:=I6.loc
   exact og _ _ s6 Z (Jg V h I6) (V.Nk (Nat.le_refl _) I6.free) ⟨m,hm⟩ q
  ·refine BS (T.item (CB X (x::fv) scope a.heap.objs.size a (upd H s.heap.objs.size (.lst [])) d) rfl rfl rfl hc i [] s5 _ Z _ I5 (f O) N go) fun r s6 ⟨u,hr,h6⟩=>?_
   subst hr
   refine BS h6 fun _ s7 ⟨v,H7,I7,r7,y7,j,ow⟩=>?_
   have oz:=I7.pinned (f ow) (T.obj _ _ j)
   have back:∀{P:St} {z:Hp} {R:Shared},Inv (CB X (x::fv) scope a.heap.objs.size a (upd H s.heap.objs.size (.lst [])) d) ([]++HW d s7.heap) P z R->F (i+1) R.heap/\∀b∈d,z b=none:=fun{P z R} B=>
    ⟨T.keep _ _ _ j fun b c o e=>(B.pin (b,o) (DC c e)).1,fun b c=>by
     obtain⟨o,e,_⟩:=T.obj _ _ j b c
     exact(B.pin (b,o) (DC c e)).2.1⟩
   refine BS (hg _ s7 _ H7 v u (fun σ2 H2=>σ2=some v::Bn l fs/\H2=H7) oz r7 ⟨rfl,rfl⟩) fun _ s8 ⟨σ8,H8,I8,e8,o_⟩=>?_
   subst e8 o_
   refine BS (oe _ _ _ _ _ s8 _ H8 _ I8 (step v H8 y7)) fun ok R ⟨z,B,q9⟩=>?_
   cases ok with
   |false=>
    obtain⟨m',k,w9⟩:=q9
    obtain⟨b1,b2⟩:=back B
    exact⟨m',k,i+1,some v,z,B.Du,b1,b2,w9⟩
   |true=>
    refine BS (he _ _ _ _ _ R _ z _ B q9) fun y s10 ⟨yv,S,pA,r10,ys,hD,hz,m',k,w10⟩=>?_
    refine BS (Fh _ s10 _ S (.ref s.heap.objs.size) [yv] (.ref s.heap.objs.size) [y] (fun _ H'=>H'=upd S s.heap.objs.size (.lst (ys++[yv]))) pA rfl (.cons r10 .nil) ⟨_,ys,yv,rfl,rfl,hD,hz,rfl⟩) fun _ s11 ⟨_,H11,U,_,e11⟩=>?_
    subst e11
    obtain⟨b1,b2⟩:=back U
    exact⟨m',k,i+1,some v,_,U.Du,b1,b2,w10⟩
 exact codeAny_compStart_list loop (T.self _ 0 _ _ _ M loop)
theorem Ba (g:X.calm=true) (ok:EM X scope x fv fs) (i:PI X (.Name x px) iter wi) (b:∀C c d a,aV (CB X (x::fv) scope C c d a) ifs tc) (j:∀C c d a,PE (CB X (x::fv) scope C c d a) elt te)
  (k:∀x,foldedSetIterable iter X.env x=pure x:=by intro _;rfl):PE X (.ListComp elt [⟨.Name x px,iter,ifs,0⟩] scope pos) (Vd wi tc te fs):=by
 intro pins s l H Q I h
 rw[eval_ListComp]
 refine wpAny_comprehension_free (use:=none) rfl k (CV (ok.cells I)) ok.kind ok.names (BS (i pins s l H _ I h) fun A B n=>BS n fun o E p=>?_)
 obtain⟨F,a,G,J,K,rfl,r,T,e,t,u⟩:=p
 exact OI g ok b j r T e t u fun D C L v w y ⟨m,z⟩ q=>⟨m,z,fun M f=>⟨.ref D,v,w.off y f,rfl,q⟩⟩
theorem GN {i:Nat} {y:Str} {c b:Pos} (K:X.calm=true) (ok:EM X scope x fv fs) (L:X.N.Nodup) (k:X.N[i]?=some y) (M:Loc X.env.scope y) (O:PI X (.Name x px) iter wi) (l:∀C n o g,aV (CB X (x::fv) scope C n o g) ifs tc)
  (P:∀C n o g,PE (CB X (x::fv) scope C n o g) elt te) (p:swapsWith (.ListComp elt [⟨.Name x px,iter,ifs,0⟩] scope pos) (some (.Name y c)) b.line X.env=pure true:=by rfl)
  (r:X.fn y=true∨X.env.scope.names.lookup y=some .local:=by first|exact .inl rfl|exact .inr rfl|assumption)
  (R:∀x,foldedSetIterable iter X.env x=pure x:=by intro _;rfl):PS X (.Assign [.Name y c] (.ListComp elt [⟨.Name x px,iter,ifs,0⟩] scope pos) b) (fun D d H=>Vd wi tc te fs d H fun v f=>D.nx (d.set i (some v)) f):=by
 intro pins s d H D I h
 rw[exec_Assign_Name_used _ _ _ _ p]
 refine wpAny_bind (wpAny_standAt (wpAny_bind ?_))
 show wpAny _ X.A (comprehension (.ListComp elt [⟨.Name x px,iter,ifs,0⟩] scope pos) scope X.env _ (newList []) false (eval iter X.env) (some (assign (.Name y c) X.env))>>=fun _=>pure ()) _ _ s
 refine wpAny_bind (BS (wpAny_comprehension_free (use:=some (assign (.Name y c) X.env)) (Q:=fun _ j=>SP X pins D .next j) rfl R (CV (ok.cells I)) ok.kind ok.names
  (BS (O pins s d H _ I h) fun xv s1 S=>BS S fun U s2 V=>?_)) fun _ j W=>wpAny_pure (wpAny_pure W))
 obtain⟨it,g,tn,J,H2,rfl,Y,T,t,Z,rd⟩:=V
 refine OI (Q:=fun v f=>D.nx (d.set i (some v)) f) K ok l P Y T t Z rd fun G C j f I' u ⟨m,hm⟩ q=>?_
 show wpAny _ X.A (assign (.Name y c) X.env (.ref G)) _ _ j
 refine wpAny_assign_Name (HV I' L k M (v:=.ref G) rfl (fun iE w ⟨a,B,ha⟩=>?_) r)
 have E:C≠a:=by
  rcases ha with z|z
  ·rw[z];exact u.2.1
  ·exact fun e=>u.2.2.2.2.1 y a z e.symm
 exact⟨m,hm.sameBut B E,fun h' F=>⟨_,f,w.off u F,q⟩⟩
end
theorem Hr {J:It} {l:TT} {f:TE} {fs:List Nat} {h:St} {H:Hp} {Q:VK} {n:Nat} (item g:Nat->V) (p:Nat->Bool) (z:n<=sizeLine)
  (j:∀i D ys,i<n->H D=none->J.go i (upd H D (.lst ys)))
  (r:∀i D ys v H',i<n->H D=none->J.NX i (upd H D (.lst ys)) v H'->v=item i/\H'=upd H D (.lst ys))
  (k:∀D ys,H D=none->J.stop n (upd H D (.lst ys)))
  (s:∀i D ys (R:Bool->Hp->Prop),i<n->H D=none->R (p i) (upd H D (.lst ys))->l (some (item i)::Bn h fs) (upd H D (.lst ys)) R)
  (t:∀i D ys (R:VK),i<n->H D=none->p i=true->R (g i) (upd H D (.lst ys))->f (some (item i)::Bn h fs) (upd H D (.lst ys)) R)
  (u:∀D,H D=none->Q (.ref D) (upd H D (.lst (((List.range n).filter p).map g)))):
  EN J l f fs h H Q:=by
 intro D c
 refine⟨fun i m o=>m=n-i/\i<=n/\o=upd H D (.lst (((List.range i).filter p).map g)),⟨n,by simp⟩,?_⟩
 rintro i m o ⟨rfl,A,rfl⟩
 by_cases a:i<n
 ·refine .inr ⟨j i D _ a c,fun v w x=>?_⟩
  obtain⟨rfl,rfl⟩:=r i D _ v w a c x
  refine s i D _ _ a c ?_
  have q:∀b,p i=b->((List.range (i+1)).filter p).map g=((List.range i).filter p).map g++(if b=true then[g i]else[]):=fun b d=>by
   rw[List.range_succ,List.filter_append,List.map_append]
   cases b with
   |true=>simp[d]
   |false=>simp[d]
  cases d:p i with
  |false=>
   show∃y,y<n-i/\_
   refine⟨n-(i+1),by lia,rfl,a,?_⟩
   rw[q false d]
   simp
  |true=>
   show f _ _ _
   refine t i D _ _ a c d ⟨_,AF,?_,n-(i+1),by lia,rfl,a,?_⟩
   ·rw[List.length_map]
    have:=List.length_filter_le p (List.range i)
    rw[List.length_range]at this
    lia
   ·rw[RX,q true d]
    simp
 ·have e:i=n:=by lia
  subst e
  exact .inl ⟨k D _ c,u D c⟩
theorem AE.put {H H':Hp} {D:Addr} {o:HO} (s:AE H H') (h:H D=none):AE H (upd H' D o):=fun b u e=>by
 rw[AJ (Au e h)]
 exact s b u e
theorem AE.new {H:Hp} {D:Addr} {o:HO} (h:H D=none):AE H (upd H D o):=(AE.refl H).put h
theorem Dw {J:It} {f:TE} {fs:List Nat} {o:St} {H:Hp} {Q:VK} {n:Nat} (item:Nat->V) (Ok:Nat->V->Prop) (C:n<=sizeLine)
  (g:∀i H2,i<n->AE H H2->J.go i H2)
  (u:∀i H2 v H',i<n->AE H H2->J.NX i H2 v H'->v=item i/\H'=H2)
  (h:∀H2,AE H H2->J.stop n H2)
  (w:∀i H2 (R:VK),i<n->AE H H2->(∀y d,AE H2 d->Ok i y->R y d)->f (some (item i)::Bn o fs) H2 R)
  (x:∀D H2 ys,H D=none->AE H H2->H2 D=some (.lst ys)->ys.length=n->(∀(i:Nat) y,ys[i]?=some y->Ok i y)->Q (.ref D) H2):
  EN J OH f fs o H Q:=by
 intro D k
 refine⟨fun i m H2=>m=n-i/\i<=n/\AE H H2/\∃ys,H2 D=some (.lst ys)/\ys.length=i/\∀(j:Nat) y,ys[j]?=some y->Ok j y,⟨n,by simp,Nat.zero_le _,AE.new k,[],AF,rfl,fun j y z=>by simp at z⟩,?_⟩
 rintro i m H2 ⟨rfl,E,c,ys,p,r,s⟩
 by_cases a:i<n
 ·refine .inr ⟨g i H2 a c,fun v d A=>?_⟩
  obtain⟨rfl,rfl⟩:=u i H2 v d a c A
  show f _ _ _
  refine w i _ _ a c fun y F t l=>⟨ys,t _ _ p,by lia,n-(i+1),by lia,rfl,a,(c.trans t).put k,ys++[y],AF,by simp[r],fun j z b=>?_⟩
  by_cases B:j<ys.length
  ·rw[List.getElem?_append_left B]at b
   exact s j z b
  ·rw[List.getElem?_append_right (by lia)]at b
   have e:j-ys.length=0:=by
    cases q:j-ys.length with
    |zero=>rfl
    |succ G=>rw[q]at b;simp at b
   rw[e]at b
   have:y=z:=by simpa using b
   subst this
   have:j=i:=by lia
   subst this
   exact l
 ·have e:i=n:=by lia
  subst e
  exact .inl ⟨h H2 c,x D H2 ys k c p r s⟩
open Builtin Builtin.Str
theorem YV (n m:Nat):max 0 (min (m:Int) (n:Int))=((min m n:Nat):Int):=by
 rw[Int.max_eq_right (Int.le_min.mpr ⟨Int.natCast_nonneg _,Int.natCast_nonneg _⟩)]
 by_cases h:m<=n
 ·rw[Nat.min_eq_left h,Int.min_eq_left (Int.ofNat_le.mpr h)]
 ·rw[Nat.min_eq_right (Nat.le_of_not_le h),Int.min_eq_right (Int.ofNat_le.mpr (Nat.le_of_not_le h))]
theorem Ve (n:Nat) {i:Int} (h:i<0):max 0 (min (i+(n:Int)) (n:Int))=(((i+(n:Int)).toNat:Nat):Int):=by
 rw[Int.min_eq_left (by lia),Int.toNat_eq_max,Int.max_comm]
theorem Vf (l u:Option Int) (n:Nat):strSliceIndices l u 1 n=(List.range (HT.Gf n n u-HT.Gf n 0 l)).map (HT.Gf n 0 l+·):=by
 have clip:∀(v:Option Int) (d:Nat),(match v with|none=>(d:Int)|some i=>max 0 (min (if i<0 then i+(n:Int)else i) (n:Int)))=((HT.Gf n d v:Nat):Int):=by
  intro v d
  cases v with
  |none=>rfl
  |some i=>
   show max 0 (min (if i<0 then i+(n:Int)else i) (n:Int))=(((if i<0 then(i+(n:Int)).toNat else min i.toNat n):Nat):Int)
   by_cases h:i<0
   ·simp only[if_pos h];exact Ve n h
   ·simp only[if_neg h]
    obtain⟨m,rfl⟩:=Int.eq_ofNat_of_zero_le (Int.not_lt.mp h)
    exact YV n m
 have c:=clip l 0
 have e:=clip u n
 unfold strSliceIndices sliceRange
 simp only[show(1:Int)>0 by decide,if_true,Int.one_mul,Int.ediv_one]
 have f:((0:Nat):Int)=0:=rfl
 rw[f]at c
 have gen:∀(A B:Int) (a b:Nat),A=(a:Int)->B=(b:Int)->List.map (fun k:Nat=>(A+(k:Int)).toNat) (List.range (if A<B then B-A+1-1 else 0).toNat)=List.map (fun x=>a+x) (List.range (b-a)):=by
  intro A B a b hA g
  subst hA g
  have j:(if(a:Int)<(b:Int)then(b:Int)-(a:Int)+1-1 else 0).toNat=b-a:=by
   split<;>lia
  rw[j]
  refine List.map_congr_left fun k _=>?_
  lia
 exact gen _ _ _ _ c e
def QV (xs:List Nat) (l u:Option Int):List Nat:=(xs.drop (HT.Gf xs.length 0 l)).take (HT.Gf xs.length xs.length u-HT.Gf xs.length 0 l)
theorem QW {c:Type} (xs:List c) (a k:Nat) (h:a+k<=xs.length):((List.range k).map (a+·)).filterMap (xs[·]?)=(xs.drop a).take k:=by
 rw[List.filterMap_map]
 induction k with
 |zero=>simp
 |succ k d=>
  rw[List.range_succ,List.filterMap_append,d (by lia)]
  have b:a+k<xs.length:=by lia
  have e:(xs.drop a)[k]?=some (xs[a+k]):=by
   rw[List.getElem?_drop]
   exact AGS b
  rw[List.take_add_one,e]
  simp[b]
theorem OJ (x:Str) (l u:Option Int):(Txt.slice x l u).cps.toList=QV x.cps.toList l u:=by
 have hlen:x.cps.toList.length=x.length:=by rw[Array.length_toList];rfl
 have c:HT.Gf x.length x.length u<=x.length:=by
  cases u with
  |none=>exact Nat.le_refl _
  |some v=>
   show(if v<0 then(v+(x.length:Int)).toNat else min v.toNat x.length)<=x.length
   split<;>lia
 unfold Txt.slice QV
 rw[hlen,Vf]
 generalize k:HT.Gf x.length 0 l=a
 generalize d:HT.Gf x.length x.length u=b at c
 by_cases f:a<=b
 ·split
  ·rename_i h
   simp at h
   have:b-a=x.length:=h
   have g:a=0:=by lia
   have j:b=x.length:=by lia
   subst g
   rw[j,<-hlen,List.drop_zero,Nat.sub_zero,List.take_length]
  ·show(List.filterMap (fun i=>x.cps[i]?) _).toArray.toList=_
   rw[List.toList_toArray]
   have e:(fun i:Nat=>x.cps[i]?)=fun i:Nat=>x.cps.toList[i]?:=by
    funext i
    exact(Array.getElem?_toList).symm
   rw[e]
   exact QW _ a (b-a) (by lia)
 ·have z:b-a=0:=by lia
  rw[z]
  simp only[List.range_zero,List.map_nil,List.take_zero]
  split
  ·rename_i h
   simp at h
   have:x.cps.toList=[]:=List.eq_nil_of_length_eq_zero (by rw[hlen];exact h.symm)
   exact this
  ·rfl
section
variable{X:Cx}
inductive aW (x:V) (lo:Option Int) (a:Option Int) (H:Hp) (Q:VK):Prop
 |mk (z:_) (b:x=.str z) (c:z.length<=sizeLine) (d:Q (.str (Txt.slice z lo a)) H):aW x lo a H Q
def pF:V->Option Int->Option Int->Hp->VK->Prop:=fun x lo a H Q=>aW x lo a H Q
theorem Me:oQ X pF:=by
 intro pins s g H x v o p lo m r Q I n a pl e h
 obtain⟨z,rfl,b,q⟩:=h
 obtain⟨t,rfl⟩:=n
 refine⟨"str",_,F.slot_str_getitem.lookup,typeIs_str _ _ _,?_⟩
 have fin:∀c k,EP X pins g Q (.str (Txt.slice z lo m) c) {s with toks:=k}:=fun c k=>⟨.str _,H,I.tok k,⟨c,rfl⟩,q⟩
 cases pl with
 |none=>
  cases e with
  |none=>exact wpAny_getItem_str_slice (l:=none) (u:=none) (st:=none) a rfl (post_val_or_str ⟨Nat.le_trans (Txt.slice_le z _ _) b,fin⟩)
  |int j d=>exact wpAny_getItem_str_slice (l:=none) (u:=some (j,d)) (st:=none) a rfl (post_val_or_str ⟨Nat.le_trans (Txt.slice_le z _ _) b,fin⟩)
 |int i f=>
  cases e with
  |none=>exact wpAny_getItem_str_slice (l:=some (i,f)) (u:=none) (st:=none) a rfl (post_val_or_str ⟨Nat.le_trans (Txt.slice_le z _ _) b,fin⟩)
  |int j d=>exact wpAny_getItem_str_slice (l:=some (i,f)) (u:=some (j,d)) (st:=none) a rfl (post_val_or_str ⟨Nat.le_trans (Txt.slice_le z _ _) b,fin⟩)
end
section
variable{X:Cx} {tg:Expr}
inductive IW (K:AGW) (xs:List V) (H:Hp) (Q:VK):Prop
 |mk (p:Addr) (bs:List Bool) (a:xs=[.ref p]) (b:An K H p (bs.map V.bl)) (c:Q (.bl (bs.all id)) H):IW K xs H Q
def QX (K:AGW):List V->Hp->VK->Prop:=fun a H Q=>IW K a H Q
theorem OK (x:X.calm=true):Bq X (.builtin "all") (QX X.K):=by
 intro pins s L H M N Q I r h
 obtain⟨p,bs,rfl,y,q⟩:=h
 obtain⟨u,rfl,l⟩:=vals1 r
 cases l
 obtain⟨d,m,pl,O⟩:=I.list y
 obtain⟨B,f,g⟩:=id pl.isList
 have n:p<s.heap.objs.size:=Heap.lt_size f
 have t:X.A.in1.handled=none:=I.ok.hd x
 have hlen:d.toArray.size=bs.length:=by rw[List.size_toArray,<-m.length,List.length_map]
 refine call_all_walk (wpAny_pyIter_list pl.isList ⟨s.heap.objs.size,_,_,_,_,_,fun i=>bs.getD i true,rfl,Walks.list t s.heap.objs.size p (Nat.ne_of_lt n) d.toArray,⟨⟨_,Heap.get?_push_size _ rfl,rfl,rfl⟩,⟨B,Heap.get?_push_of_some _ f,g⟩⟩,?_,fun P C kept=>?_⟩)
 ·intro i v D E R j k
  have j:d[i]?=some v:=by simpa using j
  have c:i<bs.length:=by
   have:=(AGT j).1
   rw[<-m.length,List.length_map]at this
   exact this
  have e:(bs.map V.bl)[i]?=some (V.bl bs[i]):=by rw[List.getElem?_map,AGS c];rfl
  obtain⟨u,w,l⟩:=m.get e
  rw[j]at w
  cases w
  cases l
  have F:bs.getD i true=bs[i]:=by rw[List.getD_eq_getElem?_getD,AGS c];rfl
  have k:E (bs.getD i true) D:=k
  rw[F]at k
  exact wpAny_truthy_bool k
 ·refine⟨.bl (bs.all id),H,I.kept (t':=C) fun b o e=>kept b o (fun z=>?_) (Heap.get?_push_of_some _ e),?_,q⟩
  ·have G:b=s.heap.objs.size:=by simpa using z
   exact Nat.ne_of_lt (Heap.lt_size e) G
  ·show Value.bool _=Value.bool _
   congr 1
   rw[hlen,Bool.eq_iff_iff,List.all_eq_true,List.all_eq_true]
   constructor
   ·intro a b J
    obtain⟨i,c,rfl⟩:=List.mem_iff_getElem.mp J
    have:=a i (List.mem_range.mpr c)
    rw[List.getD_eq_getElem?_getD,AGS c]at this
    exact this
   ·intro a i c
    have c:=List.mem_range.mp c
    rw[List.getD_eq_getElem?_getD,AGS c]
    exact a _ (List.getElem_mem c)
inductive cR (K:AGW) (x:V) (vs:List V) (H:Hp) (Q:VK):Prop
 |mk (z:Str) (p:Addr) (ys:List Str) (a:x=.str z) (b:vs=[.ref p]) (c:An K H p (ys.map V.str)) (d:(ys.map (·.length)).sum+ys.length*z.length<=16777216) (e:Q (.str (Txt.join z ys)) H):cR K x vs H Q
inductive LB (x:V) (y:V) (H:Hp) (Q:VK):Prop
 |mk (z:_) (n:_) (a:x=.str z) (b:y=.int n) (c:MulOk z n) (d:Q (.str (Txt.mul z n)) H):LB x y H Q
inductive Lh (x:V) (y:V) (H:Hp) (Q:VK):Prop
 |mk (a:_) (b:_) (c:x=.bl a) (d:y=.bl b) (e:Q (.bl (a==b)) H):Lh x y H Q
def Vg:V->V->Hp->VK->Prop:=fun x y H Q=>Lh x y H Q
theorem cS:EL X (compareOp .Is) Vg:=by
 intro pins s e H x y v u Q I c d h
 obtain⟨a,b,rfl,rfl,q⟩:=h
 cases c
 cases d
 exact is_bool (BF I q rfl)
inductive Gq (x:V) (y:V) (H:Hp) (Q:VK):Prop
 |mk (a:_) (b:_) (c:x=.bl a) (d:y=.bl b) (e:Q (.bl (!(a==b))) H):Gq x y H Q
def OL:V->V->Hp->VK->Prop:=fun x y H Q=>Gq x y H Q
theorem Li:EL X (compareOp .IsNot) OL:=by
 intro pins s e H x y v u Q I c d h
 obtain⟨a,b,rfl,rfl,q⟩:=h
 cases c
 cases d
 exact isnot_bool (BF I q rfl)
inductive Mf (K:AGW) (xs:List V) (H:Hp) (Q:VK):Prop
 |mk (x:_) (T:_) (t:_) (b:_) (a:xs=[x,.ty T]) (c:HY K H x t) (d:PySem.W.kitOne K t (.type T)=some b) (e:Q (.bl b) H):Mf K xs H Q
inductive Vh (x:V) (vs:List V) (H:Hp) (Q:VK):Prop
 |mk (l:_) (xs:_) (i:_) (y:_) (a:x=.ref l) (b:vs=[.int ((i:Nat):Int),y]) (c:H l=some (.lst xs)) (d:i<=xs.length) (e:xs.length<sizeLine) (f:Q .Av (upd H l (.lst (xs.take i++y::xs.drop i)))):Vh x vs H Q
end
section
variable{X:Cx}
inductive cT (x:V) (y:V) (H:Hp) (Q:VK):Prop
 |mk (a:_) (b:_) (xs:_) (ys:_) (c:x=.ref a) (d:y=.ref b) (e:H a=some (.tup xs)) (f:H b=some (.tup ys)) (g:xs.length+ys.length<=sizeLine) (h:∀p H',AE H H'->H' p=some (.tup (xs++ys))->Q (.ref p) H'):cT x y H Q
end
end L2
namespace HT
open PySem PyProof.Rows
section
variable{prog:Program} {w:World} {A:Around} {E:Value->Shared->Prop} {s:Shared}
end
end HT
namespace L2
open PySem PySem.Spec PyProof.Rows
section
variable{X:Cx}
inductive iU (x:V) (lo:Option Int) (b:Option Int) (H:Hp) (Q:VK):Prop
 |mk (a:_) (xs:_) (c:x=.ref a) (d:H a=some (.tup xs)) (e:∀p H',AE H H'->H' p=some (.tup (HZ xs lo b))->Q (.ref p) H'):iU x lo b H Q
theorem YW (l:List V) (k:Nat):HZ l none (some (k:Int))=l.take k:=by
 unfold HZ
 rw[HT.JA]
 show(l.drop 0).take (min k l.length-0)=_
 rw[List.drop_zero,Nat.sub_zero,List.take_eq_take_min]
 simp
theorem Lj (l:List V) (k:Nat):HZ l (some (k:Int)) none=l.drop k:=by
 unfold HZ
 rw[HT.JA]
 show(l.drop (min k l.length)).take (l.length-min k l.length)=_
 have:(l.drop (min k l.length)).length=l.length-min k l.length:=List.length_drop
 rw[<-this,List.take_length]
 by_cases h:k<=l.length
 ·rw[Nat.min_eq_left h]
 ·rw[Nat.min_eq_right (by lia),List.drop_eq_nil_of_le (by lia),List.drop_eq_nil_of_le (by lia)]
end
inductive QD (H:Hp):V->String->Prop where
 |Av:QD H .Av "NoneType"
 |bl (b:Bool):QD H (.bl b) "bool"
 |int (i:Int):QD H (.int i) "int"
 |str (x:Str):QD H (.str x) "str"
 |lst {a:Addr} {xs:List V} (e:Rd H a (.lst xs)):QD H (.ref a) "list"
 |tup {a:Addr} {xs:List V} (e:H a=some (.tup xs)):QD H (.ref a) "tuple"
 |dK {a:Addr} {kvs:List (Key×V)} (e:Rd H a (.dK kvs)):QD H (.ref a) "dict"
theorem Rd.up {H H':Hp} {a:Addr} {u:HO} (h:Rd H a u) (s:∀o,H a=some o->H' a=some o):Rd H' a u:=by
 rcases h with h|⟨o,h⟩
 ·exact .inl (s _ h)
 ·exact .inr ⟨o,s _ h⟩
def cU (T c:String):Bool:=T==c||(T=="bool"&&c=="int")
def YX (c:String):Bool:=["int","bool","str","list","tuple","dict"].contains c
theorem Rp {K:AGW} {H:Hp} {v:V} {T c:String} (h:QD H v T) (a:YX c=true):PySem.W.kitOne K (.type T) (.type c)=some (cU T c):=by
 have a:c="int"∨c="bool"∨c="str"∨c="list"∨c="tuple"∨c="dict":=by
  unfold YX at a
  simpa using a
 cases h<;>rcases a with rfl|rfl|rfl|rfl|rfl|rfl<;>kernel_rfl
section
variable{X:Cx}
inductive aX (xs:List V) (H:Hp) (Q:VK):Prop
 |mk (x:_) (c:_) (T:_) (a:xs=[x,.ty c]) (b:YX c=true) (d:QD H x T) (e:Q (.bl (cU T c)) H):aX xs H Q
def pG:List V->Hp->VK->Prop:=fun a H Q=>aX a H Q
theorem OM {pins:List (Addr×Obj)} {j:St} {H:Hp} {s:Shared} {A:Around} {E:Value->Shared->Prop} {Q:Value->Shared->Prop} {x:V} {u:Value} {T c:String} {b:Bool} (I:Inv X pins j H s) (d:RelV x u) (ty:QD H x T) (e:PySem.W.kitOne X.K (.type T) (.type c)=some b) (h:∀tk,Q (.bool b) {s with toks:=tk}):
  wpAny (model X.prog X.w) A (call (.builtin "isinstance") [u,.type c]) Q E s:=by
 cases ty with
 |Av=>exact EX I d .Av e h
 |bl y=>exact EX I d (.bl y) e h
 |int i=>exact EX I d (.int i) e h
 |str y=>exact EX I d (.str y) e h
 |tup f=>exact EX I d (.tup f) e h
 |@lst a k f=>
  cases(show u=Value.ref a from d)
  obtain⟨_,_,n,_,g⟩:=(show BO X.prog X.w H s.heap a (.lst k)from f.ok I.Be)
  exact PySem.W.kia_one PySem.W.kitx_list I.Ky ⟨_,g,rfl⟩ e (fun z=>nomatch z) h
 |@dK a kvs f=>
  cases(show u=Value.ref a from d)
  obtain⟨_,_,m,_,p⟩:=(show BO X.prog X.w H s.heap a (.dK kvs)from f.ok I.Be)
  obtain⟨o,q,r,g,l,_⟩:=p
  exact PySem.W.kia_one PySem.W.kitx_dict I.Ky ⟨o,g,l.1⟩ e (fun z=>nomatch z) h
theorem Eb:Bq X (.builtin "isinstance") pG:=by
 intro pins s f H g i Q I r h
 obtain⟨x,c,T,rfl,b,ty,q⟩:=h
 obtain⟨u,j,rfl,d,a⟩:=vals2 r
 cases a
 exact OM I d ty (Rp ty b) fun e=>⟨.bl _,H,I.tok e,rfl,q⟩
end
open Builtin Builtin.Str
abbrev sgn (x:Str):List Nat:=x.cps.toList
def Vi:List Nat:=sgn "abcdefghijklmnopqrstuvwxyz"
def aY (c:Nat):Bool:=decide (c∈Vi)
theorem Jh (x:Str):(sgn x).length=x.length:=by
 show x.cps.toList.length=x.cps.size
 exact Array.length_toList
theorem Bz (x y:Str):sgn (x++y)=sgn x++sgn y:=by
 show(x.cps++y.cps).toList=_
 exact Array.toList_append
theorem Ck (x:Str) (l u:Option Int):sgn (Txt.slice x l u)=QV (sgn x) l u:=OJ x l u
def ON (l:List Nat):Bool:=decide (1<=l.length)&&decide (l.length<=8)&&l.all aY
def Cb (x:Str):Bool:=ON (sgn x)
theorem aZ (n d k:Nat):HT.Gf n d (some (k:Int))=min k n:=by
 show(if(k:Int)<0 then((k:Int)+(n:Int)).toNat else min (k:Int).toNat n)=min k n
 rw[if_neg (by lia),Int.toNat_natCast]
theorem Hs (l:List Nat) (k:Nat):QV l none (some (k:Int))=l.take k:=by
 unfold QV
 have e:=aZ l.length l.length k
 rw[e]
 show(l.drop 0).take (min k l.length-0)=_
 rw[List.drop_zero,Nat.sub_zero,List.take_eq_take_min]
 simp
theorem OO (l:List Nat) (k:Nat):QV l (some (k:Int)) none=l.drop k:=by
 unfold QV
 have e:=aZ l.length 0 k
 rw[e]
 show(l.drop (min k l.length)).take (l.length-min k l.length)=_
 have:(l.drop (min k l.length)).length=l.length-min k l.length:=List.length_drop
 rw[<-this,List.take_length]
 by_cases h:k<=l.length
 ·rw[Nat.min_eq_left h]
 ·rw[Nat.min_eq_right (by lia),List.drop_eq_nil_of_le (by lia),List.drop_eq_nil_of_le (by lia)]
theorem OP {l:List Nat} {p:Nat->Bool} (h:l.all p=true) (k:Nat):(l.take k).all p=true:=by
 rw[List.all_eq_true]at h⊢
 exact fun x a=>h x (List.mem_of_mem_take a)
theorem Vj {l:List Nat} {p:Nat->Bool} (h:l.all p=true) (k:Nat):(l.drop k).all p=true:=by
 rw[List.all_eq_true]at h⊢
 exact fun x a=>h x (List.mem_of_mem_drop a)
theorem QY {c:Nat} (h:c∈Vi):aY c=true:=decide_eq_true h
theorem OQ {l:List Nat} (a:1<=l.length) (b:l.length<=8) (c:l.all aY=true):ON l=true:=by
 unfold ON
 simp only[Bool.and_eq_true,decide_eq_true_eq]
 exact⟨⟨a,b⟩,c⟩
inductive Dc where
 |leaf (v:V)
 |row (a:Addr) (xs:List Dc)
 |tab (a:Addr) (ks:List Str) (xs:List Dc)
namespace Dc
def val:Dc->V
 |leaf v=>v
 |row a _=>.ref a
 |tab a _ _=>.ref a
mutual
def addrs:Dc->List Addr
 |leaf _=>[]
 |row a xs=>a::BE xs
 |tab a _ xs=>a::BE xs
def BE:List Dc->List Addr
 |[]=>[]
 |x::r=>addrs x++BE r
end
mutual
def size:Dc->Nat
 |leaf _=>1
 |row _ xs=>1+AL xs
 |tab _ _ xs=>1+AL xs
def AL:List Dc->Nat
 |[]=>0
 |x::r=>size x+AL r
end
def Lf (v:V):Prop:=(∃i,v=.int i)∨∃x:Str,v=.str x/\x.length<=100
def kvs (ks:List Str) (xs:List Dc):List (Key×V):=(ks.zip (xs.map val)).map fun p=>(Sum.inr p.1,p.2)
mutual
def At (H:Hp):Dc->Prop
 |leaf v=>Lf v
 |row a xs=>Rd H a (.lst (xs.map val))/\HU H xs
 |tab a ks xs=>Rd H a (.dK (kvs ks xs))/\ks.length=xs.length/\ks.Nodup/\HU H xs
def HU (H:Hp):List Dc->Prop
 |[]=>True
 |x::r=>At H x/\HU H r
end
mutual
def put (b:Addr) (i:Nat) (k:Str) (p:Dc):Dc->Dc
 |leaf v=>leaf v
 |row a xs=>if a=b then row a (xs.take i++p::xs.drop i)else row a (putL b i k p xs)
 |tab a ks xs=>if a=b then tab a (ks++[k]) (xs++[p])else tab a ks (putL b i k p xs)
def putL (b:Addr) (i:Nat) (k:Str) (p:Dc):List Dc->List Dc
 |[]=>[]
 |x::r=>put b i k p x::putL b i k p r
end
theorem size_pos (d:Dc):1<=d.size:=by
 cases d<;>simp only[size]<;>lia
theorem Cc:∀xs ys:List Dc,BE (xs++ys)=BE xs++BE ys
 |[],_=>rfl
 |x::r,ys=>by simp only[List.cons_append,BE,Cc r ys,List.append_assoc]
theorem Am:∀xs ys:List Dc,AL (xs++ys)=AL xs+AL ys
 |[],ys=>by simp[AL]
 |x::r,ys=>by simp only[List.cons_append,AL,Am r ys];lia
theorem Es {H:Hp}:∀xs ys:List Dc,HU H (xs++ys)↔HU H xs/\HU H ys
 |[],ys=>by simp[HU]
 |x::r,ys=>by simp only[List.cons_append,HU,Es r ys,and_assoc]
theorem Fj {H:Hp}:∀{xs:List Dc},HU H xs->∀x∈xs,At H x
 |[],_,x,a=>nomatch a
 |y::r,h,x,a=>by
  simp only[HU]at h
  rcases List.mem_cons.mp a with rfl|a
  ·exact h.1
  ·exact Fj h.2 x a
mutual
theorem Ji {H H':Hp}:∀d:Dc,(∀a∈d.addrs,∀o,H a=some o->H' a=some o)->d.At H->d.At H'
 |leaf v,_,h=>h
 |row a xs,f,h=>by
  simp only[At]at h⊢
  exact⟨h.1.up (f a (by simp[addrs])),Ec xs (fun c b=>f c (by simp only[addrs];exact List.mem_cons_of_mem _ b)) h.2⟩
 |tab a ks xs,f,h=>by
  simp only[At]at h⊢
  exact⟨h.1.up (f a (by simp[addrs])),h.2.1,h.2.2.1,Ec xs (fun c b=>f c (by simp only[addrs];exact List.mem_cons_of_mem _ b)) h.2.2.2⟩
theorem Ec {H H':Hp}:∀xs:List Dc,(∀a∈BE xs,∀o,H a=some o->H' a=some o)->HU H xs->HU H' xs
 |[],_,h=>h
 |x::r,f,h=>by
  simp only[HU]at h⊢
  exact⟨Ji x (fun c b=>f c (by simp only[BE];exact List.mem_append_left _ b)) h.1,Ec r (fun c b=>f c (by simp only[BE];exact List.mem_append_right _ b)) h.2⟩
end
theorem Rq {H H':Hp} {d:Dc} (s:AE H H') (h:d.At H):d.At H':=Ji d (fun a _ o e=>s a o e) h
theorem Jj {ks:List Str} {xs:List Dc} (h:ks.length=xs.length):(kvs ks xs).map (·.1)=ks.map Sum.inr:=by
 unfold kvs
 rw[List.map_map]
 have:(fun p:Str×V=>(Sum.inr p.1:Key))=(Sum.inr:Str->Key)∘Prod.fst:=rfl
 show List.map ((fun p:Key×V=>p.1)∘fun p:Str×V=>(Sum.inr p.1,p.2)) (ks.zip (xs.map val))=_
 have e:((fun p:Key×V=>p.1)∘fun p:Str×V=>((Sum.inr p.1:Key),p.2))=(Sum.inr:Str->Key)∘Prod.fst:=rfl
 rw[e,<-List.map_map,List.map_fst_zip (by rw[List.length_map];lia)]
mutual
theorem Tw {H:Hp} {b:Addr}:∀d:Dc,d.At H->b∈d.addrs->(∃vs,Rd H b (.lst vs)/\vs.length<d.size)∨∃ks:List Str,∃f,Rd H b (.dK f)/\f.map (·.1)=ks.map Sum.inr/\f.length<d.size
 |leaf v,_,h=>by simp[addrs]at h
 |row a xs,h,c=>by
  simp only[At]at h
  simp only[addrs,List.mem_cons]at c
  simp only[size]
  rcases c with rfl|c
  ·refine .inl ⟨_,h.1,?_⟩
   rw[List.length_map]
   have:=Dj xs
   lia
  ·rcases GO xs h.2 c with⟨vs,e,l⟩|⟨ks,f,e,z,l⟩
   ·exact .inl ⟨vs,e,by lia⟩
   ·exact .inr ⟨ks,f,e,z,by lia⟩
 |tab a ks xs,h,c=>by
  simp only[At]at h
  simp only[addrs,List.mem_cons]at c
  simp only[size]
  rcases c with rfl|c
  ·refine .inr ⟨ks,_,h.1,Jj h.2.1,?_⟩
   have e:(kvs ks xs).length=ks.length:=by
    have:=congrArg List.length (Jj (ks:=ks) (xs:=xs) h.2.1)
    simpa using this
   rw[e,h.2.1]
   have:=Dj xs
   lia
  ·rcases GO xs h.2.2.2 c with⟨vs,e,l⟩|⟨ks,f,e,z,l⟩
   ·exact .inl ⟨vs,e,by lia⟩
   ·exact .inr ⟨ks,f,e,z,by lia⟩
theorem GO {H:Hp} {b:Addr}:∀xs:List Dc,HU H xs->b∈BE xs->(∃vs,Rd H b (.lst vs)/\vs.length<AL xs)∨∃ks:List Str,∃a,Rd H b (.dK a)/\a.map (·.1)=ks.map Sum.inr/\a.length<AL xs
 |[],_,h=>by simp[BE]at h
 |x::r,h,c=>by
  simp only[HU]at h
  simp only[BE,List.mem_append]at c
  simp only[AL]
  rcases c with c|c
  ·rcases Tw x h.1 c with⟨vs,e,l⟩|⟨ks,a,e,z,l⟩
   ·exact .inl ⟨vs,e,by lia⟩
   ·exact .inr ⟨ks,a,e,z,by lia⟩
  ·rcases GO r h.2 c with⟨vs,e,l⟩|⟨ks,a,e,z,l⟩
   ·exact .inl ⟨vs,e,by lia⟩
   ·exact .inr ⟨ks,a,e,z,by lia⟩
theorem Dj:∀xs:List Dc,xs.length<=AL xs
 |[]=>Nat.le_refl _
 |x::r=>by
  have:=Dj r
  have:=size_pos x
  simp only[AL,List.length_cons]
  lia
end
end Dc
section
variable{X:Cx}
inductive Lk (K:AGW) (x:V) (y:V) (H:Hp) (Q:VK):Prop
 |mk (a:Addr) (b:Addr) (xs:List V) (c:x=.ref a) (d:y=.ref b) (e:An K H a xs) (f:An K H b []) (g:Q (.bl xs.isEmpty) H):Lk K x y H Q
def Vk (K:AGW):V->V->Hp->VK->Prop:=fun x y H Q=>Lk K x y H Q
theorem QZ (c:X.A.units<cLine):EL X (compareOp .Eq) (Vk X.K):=by
 intro pins s w H x y v u Q I k l h
 obtain⟨a,b,m,rfl,rfl,n,o,q⟩:=h
 cases k
 cases l
 obtain⟨p,d,f,_⟩:=I.list n
 obtain⟨g,r,i,_⟩:=I.list o
 cases r
 have l1:=d.length
 cases m with
 |nil=>
  cases d
  exact SeqAt.eq_listAt (e:=fun _=>true) f.isList i.isList rfl c (fun j t _=>absurd t (by simp)) ⟨.bl true,H,I,rfl,q⟩
 |cons z B=>
  refine SeqAt.eq_list_lengthsAt f.isList i.isList ?_ c ⟨.bl false,H,I,rfl,q⟩
  rw[List.size_toArray,<-l1]
  simp
inductive Ll (K:AGW) (x:V) (y:V) (H:Hp) (Q:VK):Prop
 |mk (a:Addr) (b:Addr) (xs:List V) (c:x=.ref a) (d:y=.ref b) (e:An K H a xs) (f:An K H b []) (g:Q (.bl (!xs.isEmpty)) H):Ll K x y H Q
def Vl (K:AGW):V->V->Hp->VK->Prop:=fun x y H Q=>Ll K x y H Q
theorem Vm (c:X.A.units<cLine):EL X (compareOp .NotEq) (Vl X.K):=by
 intro pins s w H x y v u Q I k l h
 obtain⟨a,b,m,rfl,rfl,n,o,q⟩:=h
 cases k
 cases l
 obtain⟨p,d,f,_⟩:=I.list n
 obtain⟨g,r,i,_⟩:=I.list o
 cases r
 have l1:=d.length
 cases m with
 |nil=>
  cases d
  exact SeqAt.RcNeAt.lists (e:=fun _=>true) f.isList i.isList rfl c (fun j t _=>absurd t (by simp)) _ _ _ _ ⟨.bl false,H,I,rfl,q⟩
 |cons z B=>
  refine SeqAt.RcNeAt.lists_lengths f.isList i.isList ?_ c _ _ _ _ ⟨.bl true,H,I,rfl,q⟩
  rw[List.size_toArray,<-l1]
  simp
def Vn (xs ys:List V):Bool:=((List.range (min xs.length ys.length)).all fun j=>Tp (xs.getD j .Av) (ys.getD j .Av))&&xs.length==ys.length
inductive Tx (K:AGW) (x:V) (y:V) (H:Hp) (Q:VK):Prop
 |mk (a:Addr) (b:Addr) (xs:List V) (ys:List V) (c:x=.ref a) (d:y=.ref b) (e:Bf K H a xs) (f:Bf K H b ys) (g:(∀z∈xs,DZ z=true)) (h:(∀z∈ys,DZ z=true)) (i:Q (.bl (Vn xs ys)) H):Tx K x y H Q
def iV (T:String):Bool:=T=="list"||T=="dict"
inductive LC (xs:List V) (H:Hp) (Q:VK):Prop
 |mk (x:V) (p:Addr) (T:String) (a:xs=[x,.ref p]) (b:H p=some (.tup [.ty "list",.ty "dict"])) (c:QD H x T) (d:Q (.bl (iV T)) H):LC xs H Q
theorem Tz {w:World} {P:Program} {vs:List (Key×Value)} {ss:List Str} (b:vs.map (·.1)=ss.map Sum.inr) {ws:List Value} (hl:ws.length=vs.length)
  (g:∀(j:Nat) (v:Value),ws[j]?=some v->∃k x,vs[j]?=some (k,x)/\(Ay P w).is k v=true):StrsAre ws ss:=by
 induction ss generalizing vs ws with
 |nil=>
  have:vs=[]:=by cases vs with|nil=>rfl|cons a r=>simp at b
  subst this
  have:ws=[]:=List.eq_nil_of_length_eq_zero hl
  subst this
  exact .nil
 |cons x r h=>
  cases vs with
  |nil=>simp at b
  |cons a vs=>
   simp only[List.map_cons,List.cons.injEq]at b
   cases ws with
   |nil=>simp at hl
   |cons u ws=>
    obtain⟨k,y,e,c⟩:=g 0 u rfl
    have e:a=(k,y):=by simpa using e
    subst e
    have d:k=Sum.inr x:=b.1
    subst d
    have c:JQ (Sum.inr x) u=true:=c
    rcases BW c with⟨i,t,f,_⟩|⟨z,t,f,l⟩
    ·cases f
    ·cases f
     subst l
     exact .cons _ t (h b.2 (by simpa using hl) fun j v m=>g (j+1) v (by simpa using m))
theorem Lm {us:List Value} {ys:List Str} (h:StrsAre us ys):Vals (ys.map V.str) us:=by
 induction h with
 |nil=>exact .nil
 |cons n t _ a=>exact .cons ⟨t,rfl⟩ a
inductive FG (xs:List V) (H:Hp) (Q:VK):Prop
 |mk (d:Addr) (b:List (Key×V)) (ss:List Str) (c:xs=[.ref d]) (e:Rd H d (.dK b)) (f:b.map (·.1)=ss.map Sum.inr) (g:b.length<64) (h:∀(p:Addr) (a:List Str) (H':Hp),H p=none->AE H H'->H' p=some (.lst (a.map V.str))->a.Perm ss->sortedS a=true->Q (.ref p) H'):FG xs H Q
def Jk:List V->Hp->VK->Prop:=fun a H Q=>FG a H Q
theorem Cv (T:X.calm=true):Bq X (.builtin "sorted") Jk:=by
 intro pins s σ H xs us Q I r h
 obtain⟨d,U,F,rfl,hd,G,p,q⟩:=h
 obtain⟨u,rfl,Y⟩:=vals1 r
 cases Y
 obtain⟨z,Z,k,l,dd⟩:=Ea I.Be hd
 have t:X.A.in1.handled=none:=I.ok.hd T
 have n:k.length=U.length:=l.length.symm
 have x:k.map (·.1)=F.map Sum.inr:=by rw[<-G];exact(KV.keys l).symm
 obtain⟨ep,y⟩:=dd.dictAt
 have J:k.length<=sizeLine:=by rw[n];exact z
 refine Calls.call_function_entry kind_sorted plain_sorted entry_sorted (args_sorted1 _) ?_
 unfold Builtin.«sorted»
 refine wpAny_bind (m:=checkCount "sorted" 1 1 _) (wpAny_pure (wpAny_bind (PySem.W.kdu_collect (PySem.W.kdl_dict (knd:=Ay X.prog X.w) (kvs:=k) (ep:=ep) Z) t y J fun c K a keep items=>?_)))
 have B:a.toList.length=k.length:=by rw[Array.length_toList];exact items.1
 have C:StrsAre a.toList F:=Tz (P:=X.prog) (w:=X.w) x B fun j v e=>items.2 j v (by rw[<-Array.getElem?_toList];exact e)
 refine wpAny_bind (wpAny_newList ?_ (by rw[B];exact J))
 have f:(c.push {cls:=.type "list",data:=.seq a.toList.toArray}).get? c.objs.size=some (seqObj "list" a.toList.toArray 0):=Heap.get?_push_size _ rfl
 refine wpAny_bind (wpAny_holding (wpAny_call_entry slot_list_sort ⟨_,f,rfl⟩ entry_list_sort (list_sort_treeK strKind_oneLt f C.keysOf (fun L M rest e=>keyKind_strs (by rw[<-e];exact C)) (by rw[B,n];exact p) fun g a1 a2=>⟨_,rfl,?_⟩) (args_list_sort _)))
 obtain⟨i,b1,N,b3⟩:=sorted_out_str C a1 a2
 obtain⟨ee,he⟩:=sortedHeap_at (out:=(arrOf g).map (·.2)) f
 refine wpAny_pure ⟨_,rfl,?_⟩
 have D:(c.push {cls:=.type "list",data:=.seq a.toList.toArray}).objs.size=c.objs.size+1:=size_push' ..
 have O:=I.kept (t':=K) keep
 have k2:∀b o,c.get? b=some o->(sortedHeap (c.push {cls:=.type "list",data:=.seq a.toList.toArray}) c.objs.size a.toList ((arrOf g).map (·.2))).get? b=some o:=fun b o e=>by
  have R:b<c.objs.size:=Heap.lt_size e
  rw[sortedHeap_old (Nat.ne_of_lt R) (by rw[D];exact Nat.lt_succ_of_lt R)]
  exact Heap.get?_push_of_some _ e
 have E:i.length<=sizeLine:=by
  rw[N.length_eq]
  have:=congrArg List.length G
  rw[List.length_map,List.length_map]at this
  rw[<-this]
  exact z
 have new:BO X.prog X.w (upd H c.objs.size (.lst (i.map V.str))) (sortedHeap (c.push {cls:=.type "list",data:=.seq a.toList.toArray}) c.objs.size a.toList ((arrOf g).map (·.2))) c.objs.size (.lst (i.map V.str)):=
  ⟨by rw[List.length_map];exact E,((arrOf g).map (·.2)).toList,ee,Lm b1,by rw[Array.toArray_toList];exact he⟩
 have S:H c.objs.size=none:=O.fresh
 exact⟨.ref c.objs.size,_,O.laid (t':=K) k2 (Nat.le_refl _) new,rfl,q _ i _ S (AE.new S) AF N b3⟩
end
structure Txt (mg:Str->Option Value):Prop where
 isinstance:mg "isinstance"=none
 int:mg "int"=none
 bool:mg "bool"=none
 str:mg "str"=none
 list:mg "list"=none
 dict:mg "dict"=none
 tuple:mg "tuple"=none
 len:mg "len"=none
 range:mg "range"=none
 max:mg "max"=none
 min:mg "min"=none
 sorted:mg "sorted"=none
 all:mg "all"=none
 any:mg "any"=none
 reversed:mg "reversed"=none
 ValueError:mg "ValueError"=none
 sum:mg "sum"=none
theorem Ar:bootBuiltins "isinstance"=some (.builtin "isinstance"):=by decide+kernel
theorem aa:bootBuiltins "int"=some (.type "int"):=by decide+kernel
theorem iW:bootBuiltins "str"=some (.type "str"):=by decide+kernel
theorem DW:bootBuiltins "list"=some (.type "list"):=by decide+kernel
theorem Ce:bootBuiltins "dict"=some (.type "dict"):=by decide+kernel
theorem Rr:bootBuiltins "tuple"=some (.type "tuple"):=by decide+kernel
theorem Ed:bootBuiltins "sorted"=some (.builtin "sorted"):=by decide+kernel
theorem ab:bootBuiltins "all"=some (.builtin "all"):=by decide+kernel
theorem iX:bootBuiltins "any"=some (.builtin "any"):=by decide+kernel
theorem Qa:bootBuiltins "reversed"=some (.type "reversed"):=by decide+kernel
theorem AU {c:Bool} {A B:Prop} (a:c=false) (h:B):if c=true then A else B:=by
 rw[a]
 exact BK h
theorem Ab {c:Bool} {A B:Prop} (a:c=true) (h:A):if c=true then A else B:=by
 rw[a]
 exact Cr h
theorem Cd {b:Type} {xs:List b} {i:Int} (c:0<=i) (d:i<(xs.length:Int)):∃v,Ja xs i=some v/\v∈xs:=by
 obtain⟨n,rfl⟩:=Int.eq_ofNat_of_zero_le c
 have a:n<xs.length:=by lia
 exact⟨xs[n],BA (AGS a),List.getElem_mem a⟩
inductive zU (P:Program) (w:World) (K:AGW) (mg:Str->Option Value) (base:Heap) (x:Str) (a:List Str) (n:Nat) (sp:Sp):Prop
 |mk (f:Addr) (c:FuncData) (k:PySem.W.keepIn K (.ref f)=true) (b:Binds K c a []) (m:mg x=some (.ref f)) (G:BH P w K mg base Cs n f c a sp):zU P w K mg base x a n sp
structure Df (P:Program) (w:World) (K:AGW) (mg:Str->Option Value) (base:Heap) (x:Str) (ps:List Str) (n:Nat) (sp:Sp):Prop where
 ex:zU P w K mg base x ps n sp
theorem Df.mk' {P:Program} {w:World} {K:AGW} {mg:Str->Option Value} {base:Heap} {x q:Str} {st:Stmt} {c:List Str} {n:Nat} {sp:Sp} {f:Addr} {a:FuncData} (F:DN K x q st f a) (b:Binds K a c []) (m:mg x=some (.ref f)) (G:BH P w K mg base Cs n f a c sp):Df P w K mg base x c n sp:=⟨⟨f,a,F.kp,b,m,G⟩⟩
theorem Cw (r:Int) {n:Int} (h:0<n):0<=r % n/\r % n<n:=⟨Int.emod_nonneg _ (by lia),Int.emod_lt_of_pos _ h⟩
def Chg (b:Addr) (H H':Hp):Prop:=∀a o,a≠b->H a=some o->H' a=some o
def pH (x:Str):Bool:=decide (x.length<=12)&&(sgn x).all aY
def Rt (v:V):Prop:=(∃i:Int,v=.int i/\i.natAbs<2 ^ 400)∨∃x:Str,v=.str x/\pH x=true
namespace Dc
mutual
def ok:Dc->Prop
 |leaf v=>Rt v
 |row _ xs=>DD xs
 |tab _ ks xs=>(∀k∈ks,Cb k=true)/\DD xs
def DD:List Dc->Prop
 |[]=>True
 |x::r=>ok x/\DD r
end
mutual
def named (N:List Str):Dc->Prop
 |leaf _=>True
 |row _ xs=>Qb N xs
 |tab _ ks xs=>(∀k∈ks,k∈N)/\Qb N xs
def Qb (N:List Str):List Dc->Prop
 |[]=>True
 |x::r=>named N x/\Qb N r
end
def pJ:Dc->Prop
 |leaf v=>Rt v
 |row _ xs=>xs=[]
 |tab _ ks xs=>ks=[]/\xs=[]
def iY:Dc->String
 |leaf (.int _)=>"int"
 |leaf _=>"str"
 |row _ _=>"list"
 |tab _ _ _=>"dict"
theorem cV {H:Hp} {d:Dc} (h:d.At H):QD H d.val d.iY:=by
 cases d with
 |leaf v=>
  rcases(show Lf v from h)with⟨i,rfl⟩|⟨x,rfl,_⟩
  ·exact .int i
  ·exact .str x
 |row a b=>simp only[At]at h;exact .lst h.1
 |tab a c b=>simp only[At]at h;exact .dK h.1
def sub:Dc->List V->Option Dc
 |d,[]=>some d
 |row _ xs,.int i::r=>if 0<=i then(xs[i.toNat]?).bind fun x=>sub x r else none
 |tab _ ks xs,.str k::r=>((ks.zip xs).lookup k).bind fun x=>sub x r
 |_,_=>none
def FH (v:V):Prop:=(∃k:Nat,v=.int (k:Int))∨∃x:Str,v=.str x/\Cb x=true
theorem LF {ks:List Str} {xs:List Dc} (h:ks.length=xs.length) {k:Str} (a:k∈ks):∃x,(ks.zip xs).lookup k=some x/\x∈xs:=by
 induction ks generalizing xs with
 |nil=>cases a
 |cons y r b=>
  cases xs with
  |nil=>simp at h
  |cons z c=>
   by_cases e:k=y
   ·subst e
    exact⟨z,by simp,List.mem_cons_self⟩
   ·obtain⟨x,d,f⟩:=b (xs:=c) (by simpa using h) ((List.mem_cons.mp a).resolve_left e)
    refine⟨x,?_,List.mem_cons_of_mem _ f⟩
    have:(k==y)=false:=by simpa using e
    simp[List.zip_cons_cons,List.lookup_cons,this,d]
end Dc
abbrev af:Str:="abcdefghijklmnopqrstuvwxyz"
theorem Mg:af.length=26:=by decide+kernel
theorem Mh:Vi.length=26:=by decide+kernel
theorem Qc (i:Int) (b:0<=i) (d:i<26):∃c,Ja (sgn af) i=some c/\aY c=true:=by
 obtain⟨n,rfl⟩:=Int.eq_ofNat_of_zero_le b
 have a:n<Vi.length:=by rw[Mh];lia
 exact⟨Vi[n],BA (AGS a),QY (List.getElem_mem a)⟩
theorem Gr (r:Int):0<=r % 26/\r % 26<26:=⟨Int.emod_nonneg _ (by decide),Int.emod_lt_of_pos _ (by decide)⟩
inductive Ru (K:AGW) (vs:List V) (H:Hp) (Q:VK) (b:XK):Prop
 |mk (a:Addr) (c:List Int) (k:Nat) (d:vs=[.ref a,.int (k:Int)]) (e:An K H a (c.map V.int)) (f:∀r:Int,0<=r->Q (.int r) H):Ru K vs H Q b
def Vo (K:AGW):Sp:=fun b H Q a=>Ru K b H Q a
inductive Vp (vs:List V) (H:Hp) (Q:VK) (a:XK):Prop
 |mk (c:Int) (k:Nat) (b:vs=[.int c,.int (k:Int)]) (d:k<=1000) (e:∀r:Int,0<=r->r<2305843009213693951->Q (.int r) H):Vp vs H Q a
def EE:Sp:=fun b H Q a=>Vp b H Q a
def Vq:Nat->Int->Int
 |0,n=>n
 |k+1,n=>Vq k n/1000000
def OR (c:Int) (k:Nat):Int:=(((c+3)*1181783497276652981 % 2305843009213693951+((k:Int)+1)*614889782588491411) % 2305843009213693951)*(((c+3)*1181783497276652981 % 2305843009213693951+((k:Int)+1)*614889782588491411) % 2305843009213693951) % 999999999999999989
def T_ (c:Int) (k:Nat):Int:=if c % 4=0/\4*10 ^ 60<=c then Vq k (c/4) % 1000000 else(OR c k+1)*(OR c k/1000003+7) % 2305843009213693951/7919
theorem Vr (c:Int) (k:Nat):0<=T_ c k/\T_ c k<2305843009213693951:=by
 unfold T_
 split
 ·have a:=Int.emod_nonneg (Vq k (c/4)) (show(1000000:Int)≠0 by decide)
  have b:=Int.emod_lt_of_pos (Vq k (c/4)) (show(0:Int)<1000000 by decide)
  lia
 ·have a:=Int.emod_nonneg ((OR c k+1)*(OR c k/1000003+7)) (show(2305843009213693951:Int)≠0 by decide)
  have b:=Int.emod_lt_of_pos ((OR c k+1)*(OR c k/1000003+7)) (show(0:Int)<2305843009213693951 by decide)
  lia
inductive Rv (vs:List V) (H:Hp) (Q:VK) (a:XK):Prop
 |mk (c:Int) (k:Nat) (b:vs=[.int c,.int (k:Int)]) (d:k<=1000) (e:Q (.int (T_ c k)) H):Rv vs H Q a
def Vs:Sp:=fun b H Q a=>Rv b H Q a
theorem Vt {vs:List V} {H:Hp} {Q:VK} {E:XK} (h:EE vs H Q E):Vs vs H Q E:=by
 obtain⟨c,k,e,a,q⟩:=h
 exact⟨c,k,e,a,q _ (Vr c k).1 (Vr c k).2⟩
theorem OS {ys:List Str} (P:Nat->Str->Prop) (h:∀(j:Nat) y,ys[j]?=some y->P j y) (inj:∀(i j:Nat) y,i<j->j<ys.length->P i y->P j y->False):ys.Nodup:=by
 refine List.pairwise_iff_getElem.mpr fun i j d b a e=>?_
 have f:=h i _ (AGS d)
 have c:=h j _ (AGS b)
 rw[<-e]at c
 exact inj i j _ a b f c
inductive Vu (vs:List V) (H:Hp) (Q:VK) (a:XK):Prop
 |mk (c:Int) (d:Int) (b:vs=[.int c,.int d]) (e:∀(p:Addr) (ys:List Str) (H':Hp),AE H H'->H p=none->H' p=some (.lst (ys.map V.str))->ys.length=6->ys.Nodup->(∀y∈ys,Cb y=true)->Q (.ref p) H'):Vu vs H Q a
inductive YY (vs:List V) (H:Hp) (Q:VK) (a:XK):Prop
 |mk (c:Int) (b:vs=[.int c]) (d:∀v H',Rt v->AE H H'->Q v H'):YY vs H Q a
inductive YZ (vs:List V) (H:Hp) (Q:VK) (b:XK):Prop
 |mk (c:Int) (d:Int) (m:Int) (e:vs=[.int c,.int d,.int m]) (f:∀(p:Dc) (H':Hp),AE H H'->p.At H'->p.pJ->(∀a∈p.addrs,∀o u,H' a≠some (.Cg o u))->(∀a∈p.addrs,H a=none)->Q p.val H'):YZ vs H Q b
def cW (N:List Str) (b:Addr) (y:V) (H H':Hp):Prop:=
 (∃a i,H b=some (.lst a)/\H' b=some (.lst (a.take i++y::a.drop i)))∨∃c k,H b=some (.dK c)/\(Sum.inr k:Key)∉c.map (·.1)/\(Cb k=true/\k∈N)/\H' b=some (.dK (c++[(Sum.inr k,y)]))
inductive Ya (K:AGW) (vs:List V) (H:Hp) (Q:VK) (a:XK):Prop
 |mk (b:Addr) (n:Addr) (y:V) (ys:List Str) (c:Int) (e:vs=[.ref b,y,.ref n,.int c]) (f:0<=c) (g:An K H n (ys.map V.str)) (h:ys.length<=100) (i:(∀y∈ys,Cb y=true)) (j:((∃vs,H b=some (.lst vs)/\vs.length<=1000)∨∃d,H b=some (.dK d)/\d.length<=1000)) (k:(∀H',Chg b H H'->cW ys b y H H'->Q (.bl true) H')) (l:∀H',AE H H'->Q (.bl false) H'):Ya K vs H Q a
structure Made (H H':Hp) (d:Dc):Prop where
 same:AE H H'
 at_:d.At H'
 ok:d.ok
 nd:d.addrs.Nodup
 own:∀a∈d.addrs,∀o u,H' a≠some (.Cg o u)
 new:∀a∈d.addrs,H a=none
inductive cX (K:AGW) (vs:List V) (H:Hp) (Q:VK) (b:XK):Prop
 |mk (a:Addr) (n:Addr) (c:List Int) (k:Nat) (ys:List Str) (e:vs=[.ref a,.int (k:Int),.ref n]) (f:An K H a (c.map V.int)) (g:c.length<=63) (h:k<=1000) (i:H n=some (.lst (ys.map V.str))) (j:ys.length<=100) (l:(∀y∈ys,Cb y=true)) (m:∀(t:Addr) (d:Dc) (H':Hp),Made H H' d->H' t=some (.tup [d.val,.int (d.size:Int)])->d.size<=40->(ys≠[]->d.named ys)->Q (.ref t) H'):cX K vs H Q b
inductive Yb (K:AGW) (vs:List V) (H:Hp) (Q:VK) (b:XK):Prop
 |mk (a:Addr) (n:Addr) (c:List Int) (k:Nat) (ys:List Str) (e:vs=[.ref a,.int (k:Int),.ref n]) (f:An K H a (c.map V.int)) (g:c.length<=63) (h:k<=1000) (i:H n=some (.lst (ys.map V.str))) (j:ys.length<=100) (l:(∀y∈ys,Cb y=true)) (m:∀(t:Addr) (d:Dc) (H':Hp),Made H H' d->H' t=some (.tup [d.val,.int (d.size:Int)])->d.size<=24->(ys≠[]->d.named ys)->Q (.ref t) H'):Yb K vs H Q b
inductive Vv (K:AGW) (vs:List V) (H:Hp) (Q:VK) (b:XK):Prop
 |mk (a:Addr) (c:List Int) (d:vs=[.ref a]) (e:An K H a (c.map V.int)) (f:c.length<=63) (g:∀H',Q (.bl true) H'):Vv K vs H Q b
def OT (K:AGW):Sp:=fun b H Q a=>Vv K b H Q a
theorem Ah {n:Nat} (h:n<=1000):n<=sizeLine:=Nat.le_of_lt (BG h)
theorem Ad {x y:V}:[x,y].length<=sizeLine:=Ah (show 2<=1000 by decide)
theorem Ax {x:V}:[x].length<=sizeLine:=Ah (show 1<=1000 by decide)
theorem Jl {P:Program} {w:World} {K:AGW} {mg:Str->Option Value} {base:Heap} {f:Addr} {b:FuncData} {c:List Str} {sp:Sp} (a:∀vs H Q E,¬sp vs H Q E):BH P w K mg base Cs 0 f b c sp:=
 ⟨fun vs H Q E h=>absurd h (a vs H Q E),fun A outer s H args d vs Q E _ _ _ _ h=>absurd h (a vs H Q E)⟩
theorem Vw {t u:TS} {D:Ends} {a:St} {H:Hp} (R:Hp->Prop) (k:∀H',R H'->u D a H') (h:(∀H',R H'->u D a H')->t {D with nx:=u D} a H):QF t u D a H:=h k
structure pK (H Hi:Hp) (d:Dc) (L:Addr) (ts:List Addr):Prop where
 made:Made H Hi d
 nL:H L=none
 eL:Hi L=some (.lst (ts.map V.ref))
 out:L∉d.addrs
 hold:∀t∈ts,∃b k,Hi t=some (.tup [.ref b,.int k])/\b∈d.addrs
namespace Dc
mutual
def slim:Dc->Prop
 |leaf _=>True
 |row _ xs=>Jm xs
 |tab _ _ xs=>xs.length<64/\Jm xs
def Jm:List Dc->Prop
 |[]=>True
 |x::r=>slim x/\Jm r
end
theorem Ht:∀{xs:List Dc},Jm xs->∀x∈xs,slim x
 |[],_,x,a=>nomatch a
 |y::r,h,x,a=>by
  simp only[Jm]at h
  rcases List.mem_cons.mp a with rfl|a
  ·exact h.1
  ·exact Ht h.2 x a
def ABt (ks:List Str) (xs:List Dc) (k:Str):Nat:=(((ks.zip xs).lookup k).map size).getD 0
end Dc
section
variable{X:Cx} {pins:List (Addr×Obj)} {σ:St} {H:Hp} {s:Shared} {a:Addr} {kvs:List (Key×V)}
theorem Inv.freeze (I:Inv X pins σ H s) (e:H a=some (.dK kvs)):∃o,s.heap.get? a=some o/\Inv X pins σ (upd H a (.Cg o (.dK kvs))) s:=by
 have ok:=(show BO X.prog X.w H s.heap a (.dK kvs)from I.Be a _ e)
 obtain⟨z,g,h,i,o,j,k,f,r⟩:=id ok
 refine⟨o,f,?_⟩
 have c:∀b u,H b=some u->u≠.dK kvs->b≠a:=fun b u q n w=>by
  subst w
  rw[e]at q
  exact n (AGU q).symm
 have un:Un X.fs [] H (upd H a (.Cg o (.dK kvs))) s.heap s.heap:=
  ⟨fun b d q _ _ _=>q,fun b d q _ _ _=>⟨d.slots,q⟩,fun b d q n _=>by rw[AJ (fun w=>by subst w;rw[e]at n;cases n)];exact n,fun b d q _=>⟨d,q⟩,
   fun b l q=>by rw[AJ (c b _ q (by intro z;cases z))];exact q,fun b d u q=>by rw[AJ (c b _ q (by intro z;cases z))];exact q,fun b m q=>⟨#[],by rw[AJ (c b _ q (by intro z;cases z)),q];simp⟩⟩
 have Be:F' X.prog X.w (upd H a (.Cg o (.dK kvs))) s.heap:=I.Be.write (by rw[e];trivial) (.inl rfl) (fun b u _ q=>q) ⟨o,f⟩ ⟨f,ok⟩
 exact I.un (h':=s.heap) (t':=s.toks) un Be
theorem Inv.Vx {o:Obj} (I:Inv X pins σ H s) (e:H a=some (.Cg o (.dK kvs))) (nf:∀o u,X.H₀ a≠some (.Cg o u)):Inv X pins σ (upd H a (.dK kvs)) s:=by
 have ok:=(show BO X.prog X.w H s.heap a (.Cg o (.dK kvs))from I.Be a _ e)
 have d:∀b u,H b=some u->u≠.Cg o (.dK kvs)->b≠a:=fun b u q n w=>by
  subst w
  rw[e]at q
  exact n (AGU q).symm
 have f:∀b,H b=none->b≠a:=fun b n w=>by subst w;rw[e]at n;cases n
 have B:=I.base
 refine⟨I.ok,I.os,I.bare,⟨B.keep,B.slot,fun b g q n i=>by rw[AJ (f b (B.free b g q n i))];exact B.free b g q n i,B.there,fun b h q=>by rw[AJ (d b _ (B.Kx b h q) (by intro z;cases z))];exact B.Kx b h q,
  fun b g u q=>by rw[AJ (fun w=>nf g u (by rw[<-w];exact q))];exact B.JR b g u q,fun b m q=>?_⟩,I.loc,I.cell,by rw[AJ (f _ I.free)];exact I.free,fun x c q=>by rw[AJ (f _ (I.EV x c q))];exact I.EV x c q,
  fun p t=>let⟨y,j,A⟩:=I.pin p t;⟨y,by rw[AJ (f _ j)];exact j,A⟩,fun b u q=>?_,I.len⟩
 ·obtain⟨more,k⟩:=B.MI b m q
  exact⟨more,by rw[AJ (d b _ k (by intro z;cases z))];exact k⟩
 ·by_cases l:b=a
  ·subst l
   rw[AF]at q
   cases q
   exact ok.2
  ·rw[AJ l]at q
   exact(I.Be b u q).Ta (fun c v _ r=>r) (fun c r=>by rw[AJ (d c _ r (by intro z;cases z))];exact r) fun c h r=>by rw[AJ (d c _ r (by intro z;cases z))];exact r
theorem Inv.nf (I:Inv X pins σ H s) (e:H a=some (.dK kvs)):∀o u,X.H₀ a≠some (.Cg o u):=fun o u q=>by
 have:=I.base.JR a o u q
 rw[e]at this
 cases this
end
def Mi (a:Addr) (o:Obj) (kvs:List (Key×V)) (k:Hp->Prop):Hp->Prop:=fun H=>H a=some (.Cg o (.dK kvs))/\k (upd H a (.dK kvs))
inductive Vy (t:TE) (b:St) (H:Hp) (Q:VK):Prop
 |mk (a:_) (kvs:_) (c:H a=some (.dK kvs)) (d:∀o,t b (upd H a (.Cg o (.dK kvs))) fun v=>Mi a o kvs (Q v)):Vy t b H Q
def iZ (t:TE):TE:=fun a H Q=>Vy t a H Q
inductive Vz (t:TS) (D:Ends) (b:St) (H:Hp):Prop
 |mk (a:_) (kvs:_) (c:H a=some (.dK kvs)) (d:∀o,t ⟨fun b=>Mi a o kvs (D.nx b),fun v=>Mi a o kvs (D.rt v),fun b=>Mi a o kvs (D.bk b),fun b=>Mi a o kvs (D.ct b)⟩ b (upd H a (.Cg o (.dK kvs)))):Vz t D b H
def ib (t:TS):TS:=fun D a H=>Vz t D a H
section
variable{X:Cx}
theorem cY {e:Expr} {t:TE} (h:PE X e t):PE X e (iZ t):=by
 rintro pins s c H Q I ⟨a,kvs,b,d⟩
 obtain⟨o,l,f⟩:=I.freeze b
 exact BS (h pins s c _ _ f (d o)) fun u m ⟨v,n,g,i,j,k⟩=>⟨v,_,g.Vx j (I.nf b),i,k⟩
theorem cZ {st:Stmt} {t:TS} (h:PS X st t):PS X st (ib t):=by
 rintro pins s k H D I ⟨a,kvs,g,l⟩
 obtain⟨o,p,m⟩:=I.freeze g
 refine BS (h pins s k _ _ m (l o)) fun f q i=>?_
 cases f with
 |next=>obtain⟨b,j,c,d,e⟩:=i;exact⟨b,_,c.Vx d (I.nf g),e⟩
 |brk=>obtain⟨b,j,c,d,e⟩:=i;exact⟨b,_,c.Vx d (I.nf g),e⟩
 |cont=>obtain⟨b,j,c,d,e⟩:=i;exact⟨b,_,c.Vx d (I.nf g),e⟩
 |ret u=>obtain⟨v,b,j,c,n,d,e⟩:=i;exact⟨v,b,_,c.Vx d (I.nf g),n,e⟩
theorem FQ {e:Expr} {t u:TE} (h:PE X e t) (h':PE X e u):PE X e (fun a H Q=>t a H Q∨u a H Q):=by
 rintro pins s a H Q I (q|q)
 ·exact h pins s a H Q I q
 ·exact h' pins s a H Q I q
theorem cb {e:Stmt} {t u:TS} (h:PS X e t) (h':PS X e u):PS X e (fun D a H=>t D a H∨u D a H):=by
 rintro pins s a H D I (q|q)
 ·exact h pins s a H D I q
 ·exact h' pins s a H D I q
end
def gI (a:Addr) (o:Obj) (kvs:List (Key×V)):It:=
 ⟨fun i H=>H a=some (.Cg o (.dK kvs))/\i<kvs.length,fun i H x b=>b=H/\∃k v,kvs[i]?=some (k,v)/\x=kV k,fun i H=>H a=some (.Cg o (.dK kvs))/\i=kvs.length⟩
def ie (tl:TE):TI:=fun c H R=>tl c H fun x b=>∃a o kvs,x=.ref a/\b a=some (.Cg o (.dK kvs))/\R (gI a o kvs) b
theorem Yc {P:Program} {w:World} {k:Key} {u:Value} (h:(Ay P w).is k u=true):RelV (kV k) u:=by
 rcases BW (k:=k) (v:=u) h with⟨i,t,rfl,rfl⟩|⟨x,t,rfl,rfl⟩
 ·exact⟨t,rfl⟩
 ·exact⟨t,rfl⟩
theorem UA {P:Program} {w:World} {K:AGW} {tg:Expr} {a it:Addr} {o:Obj} {kvs:List (Key×V)} {vs:List (Key×Value)} {ep:Nat} (Xy:a≠it) (rel:KV kvs vs) (hD:∀h:Heap,h.get? a=some o->h.DictAt (Ay P w) a vs ep):
  Turn P w K tg (gI a o kvs) [it] it (fun i h=>h.IsKeyIter it a i vs.length ep)where
 mem:=by simp
 obj:=fun i h st b hb=>by
  have e:b=it:=by simpa using hb
  subst e
  obtain⟨ob,h1,_,h3⟩:=st
  exact⟨ob,h1,fun v z=>by rw[h3]at z;cases z⟩
 keep:=fun i h h' st k=>st.at fun ob e=>k it (by simp) ob e
 item:=fun X hp hw _ hc i pins s σ H E I hf st go=>by
  subst hp hw
  have f:=hf it (by simp)
  obtain⟨ga,gi⟩:=go
  have pM:=hD s.heap (show BO X.prog X.w H s.heap a (.Cg o (.dK kvs))from I.Be a _ ga).1
  refine(Walks.dictKeys (knd:=Ay X.prog X.w) (I.ok.hd hc) it a Xy vs ep).item i s _ E (by rw[<-rel.length];exact gi) ⟨st,pM⟩ fun v h' tk hP NY kept=>?_
  obtain⟨k,x,hkx,hk⟩:=hP
  obtain⟨ob,h1,h2,h3⟩:=NY.1
  have hkv:∃y,kvs[i]?=some (k,y):=by
   have e:=congrArg (fun l=>l[i]?) (KV.keys rel)
   simp only[List.getElem?_map,hkx,AGS gi]at e
   have e:kvs[i].1=k:=by simpa using e
   exact⟨kvs[i].2,by rw[AGS gi,<-e]⟩
  obtain⟨y,hy⟩:=hkv
  refine⟨v,rfl,LQ (o:=ob) h1 h2 h3 (by decide) ⟨kV k,H,I.turned (fun b ob' hb e=>kept b ob' (by simp[hb]) e) f.1 f.2.1 f.2.2.2.1 f.2.2.2.2.1 f.2.2.2.2.2,Yc hk,⟨rfl,k,y,hy,rfl⟩,NY.1,fun b hb=>?_⟩⟩
  have e:b=it:=by simpa using hb
  subst e
  exact f.1
 done:=fun X hp hw _ hc i pins s σ H E I hf st stop=>by
  subst hp hw
  have f:=hf it (by simp)
  obtain⟨ga,gi⟩:=stop
  have gi:i=vs.length:=by rw[gi];exact rel.length
  subst gi
  have pM:=hD s.heap (show BO X.prog X.w H s.heap a (.Cg o (.dK kvs))from I.Be a _ ga).1
  refine(Walks.dictKeys (knd:=Ay X.prog X.w) (I.ok.hd hc) it a Xy vs ep).done s _ E ⟨st,pM⟩ fun h' tk kept=>?_
  exact⟨rfl,I.turned (fun b ob hb e=>kept b ob (by simp[hb]) e) f.1 f.2.1 f.2.2.2.1 f.2.2.2.2.1 f.2.2.2.2.2⟩
 self:=fun A i s Q E st hQ=>wpAny_pyIter_keyiter st hQ
section
variable{X:Cx} {tg:Expr}
theorem JH {l:Expr} {tl:TE} (hl:PE X l tl):PI X tg l (ie tl):=by
 intro pins s n H R I h
 refine BS (hl pins s n H _ I h) fun v c p=>p.elim fun x k g r t=>?_
 obtain⟨a,o,kvs,rfl,u,q⟩:=t
 cases r
 have ok:=(show BO X.prog X.w k c.heap a (.Cg o (.dK kvs))from g.Be a _ u)
 obtain⟨m,z,y,E,i,A⟩:=ok
 obtain⟨F,d⟩:=A.dictAt
 obtain⟨G,B,f,C⟩:=id d
 rw[m]at f
 cases f
 have j:a<c.heap.objs.size:=Heap.lt_size m
 refine wpAny_pyIter_dict y d ⟨c.heap.objs.size,[c.heap.objs.size],_,gI a o kvs,k,rfl,g.kept (t':=c.toks) fun b J e=>Heap.get?_push_of_some _ e,
  UA (Nat.ne_of_lt j) i (fun h e=>⟨o,B,e,C⟩),⟨_,Heap.get?_push_size _ rfl,rfl,rfl⟩,fun b D=>?_,q⟩
 have e:b=c.heap.objs.size:=by simpa using D
 subst e
 exact g.Nk (Nat.le_refl _) g.fresh
end
theorem V_ {a:Addr} {o:Obj} {kvs:List (Key×V)} {g:TG} {l:TS} {D:Ends} {b:St} {H:Hp} (Pv:Nat->St->Hp->Prop) (r:Pv 0 b H) (hl:∀i b H,i<=kvs.length->Pv i b H->H a=some (.Cg o (.dK kvs)))
  (s:∀i k v b H,kvs[i]?=some (k,v)->Pv i b H->g (kV k) b H fun c H2=>l {D with nx:=Pv (i+1),ct:=Pv (i+1),bk:=D.nx} c H2) (t:∀b H,Pv kvs.length b H->D.nx b H):
  ∃W:Nat->Nat->St->Hp->Prop,(∃m,W 0 m b H)/\∀i m b H,W i m b H->
   ((gI a o kvs).stop i H/\D.nx b H)∨((gI a o kvs).go i H/\∃N:St->Hp->Prop,(∀d f,N d f->∃n,n<m/\W (i+1) n d f)/\∀x f,(gI a o kvs).NX i H x f->g x b f fun c H2=>l {D with nx:=N,ct:=N,bk:=D.nx} c H2):=by
 refine⟨fun i m b H=>m=kvs.length-i/\i<=kvs.length/\Pv i b H,⟨kvs.length,by simp,Nat.zero_le _,r⟩,?_⟩
 rintro i m b H ⟨rfl,u,p⟩
 have q:=hl i b H u p
 by_cases h:i<kvs.length
 ·refine .inr ⟨⟨q,h⟩,Pv (i+1),fun d f w=>⟨kvs.length-(i+1),by lia,rfl,h,w⟩,fun x f y=>?_⟩
  obtain⟨e,k,v,j,rfl⟩:=y
  subst e
  exact s i k v b _ j p
 ·have e:i=kvs.length:=by lia
  subst e
  exact .inl ⟨⟨q,rfl⟩,t b H p⟩
def FI (H H':Hp):Prop:=∀b u,Rd H b u->Rd H' b u
theorem AE.r {H H':Hp} (s:AE H H'):FI H H':=fun b u r=>r.up fun o=>s b o
theorem FI.trans {H a H2:Hp} (s:FI H a) (t:FI a H2):FI H H2:=fun b u r=>t b u (s b u r)
theorem FI.Cg {H:Hp} {a:Addr} {o:Obj} {kvs:List (Key×V)} (e:H a=some (.dK kvs)):FI H (upd H a (.Cg o (.dK kvs))):=fun b u r=>by
 by_cases c:b=a
 ·subst c
  rcases r with r|⟨d,r⟩
  ·rw[e]at r;cases r;exact .inr ⟨o,AF⟩
  ·rw[e]at r;cases r
 ·exact r.up fun d q=>by rw[AJ c];exact q
end L2
namespace PySem
open PyProof.Rows PySem.F PySem.Spec
theorem Jn:typeLookup (.type "list") "keys"=pure none:=by rw[typeLookup_type,builtinLookup_eq_fast];kernel_rfl
theorem FR {prog:Program} {w:World} {A:Around} {E:Value->Shared->Prop} {s:Shared} {a:Addr} {o:Obj} {xs:Array Value} {k:Nat} {Q:Option Value->Shared->Prop}
  (j:s.heap.get? a=some o) (l:o.cls=.type "list") (b:o.data=.seq xs k) (m:o.dict=none) (hA:A.handled=none)
  (h:∀h' tk e,Heap.NewExcOf s.heap h' e "AttributeError"->Q none {s with heap:=h',toks:=tk}):
  wpAny (model prog w) A (getAttr? (.ref a) "keys") Q E s:=by
 obtain⟨c,BX,p,q⟩:=o
 simp only at l b m
 subst l b m
 obtain⟨r,g,d,tk,os⟩:=s
 have n:∀f,(⟨r,g,d,f,os⟩:Shared).TypeIs (.ref a) "list":=fun _=>⟨_,j,rfl⟩
 have t:=sub_AttributeError
 have u:=F.slot_list_getattribute.lookup
 have v:=F.slot_list_getattribute.bind (.ref a)
 have x:=am_list_getattr_none
 unfold getAttr? getAttrBy? getAttrBy
 repeat (any_goals (first|assumption|exact n _|((with_reducible show wpAny _ _ (call (Value.builtin "list.__getattribute__") _ _) _ _ _);refine call_meets F.slot_list_getattribute (n _) am_entry_list_getattribute (F.args_list_getattribute_2 _ _) (meets_getattribute_miss_list a xs k q "keys" _ Jn (by decide+kernel) (by decide+kernel)) ⟨j,hA,fun h' f e i=>?_⟩)|wp_step))
 obtain⟨y,z,B⟩:=i.there
 show wpAny _ _ (getattributeRaised _ _ _ _ _ _ _) _ _ _
 unfold getattributeRaised
 repeat (any_goals (first|assumption|wp_step))
 exact h _ _ _ i.of
theorem Bs:entryFor table "dict.update.loop"=some Builtin.«dict.update.loop»:=entryFor_of_tree (by kernel_rfl)
theorem Aw:plainId "dict.update.loop"=true:=by decide+kernel
section
variable{prog:Program} {w:World} {K:Type} [DecidableEq K] {knd:KeyKind prog w K} {A:Around} {R:Result->Shared->Prop}
theorem UB {I l d:Addr} {items:Array Value} {more:List (K×Value)} (hh:A.handled=none) (F:l≠I) (h:d≠I) (G:d≠l) (hlen:items.size=more.length) (hsz:more.length<=100000):
  ∀(k i:Nat) (s:Shared),more.length-i=k->i<=more.length->s.heap.IsListIter I l i->s.heap.IsList l items->s.heap.DictOf knd d (merged [] (more.take i))->
   (∀(j:Nat) x c,more[j]?=some (x,c)->∃t a,items[j]?=some (.ref t)/\t≠d/\t≠I/\IsTup s.heap t #[a,c]/\knd.is x a=true)->
   (∀h' tk,h'.DictOf knd d (merged [] more)->(∀b o,b≠d->b≠I->s.heap.get? b=some o->h'.get? b=some o)->R (.ok (.ret .none)) {s with heap:=h',toks:=tk})->
   codeAny (model prog w) A (.builtin "dict.update.loop" ⟨[.ref d,.ref I,rawInt (i:Int),.none],[]⟩) R s:=by
 have W:=Walks.list (prog:=prog) (w:=w) (A:=A.in1) hh I l F items
 intro k
 induction k with
 |zero=>
  intro i s hk hi m H D J L
  have M:i=more.length:=by lia
  subst M
  refine codeAny_builtin Bs ?_
  rw[Around.under_plainId Aw _]
  show wpAny _ A.in1 (pyNext (.ref I)>>=_) _ _ s
  refine wpAny_bind (W.done s _ _ (by rw[hlen];exact⟨m,H⟩) fun h' tk kept=>?_)
  rw[List.take_length]at D
  obtain⟨o,N,O,P,r⟩:=D
  show wpAny _ A.in1 (Builtin.Dict.addKeywords d []>>=_) _ _ _
  exact wpAny_bind (wpAny_pure (wpAny_pure (L h' tk ⟨o,N,O,kept _ _ (by simp[h]) P,r⟩ fun b o _ hb e=>kept b o (by simp[hb]) e)))
 |succ k ih=>
  intro i s hk hi m H D J L
  have n:i<more.length:=by lia
  obtain⟨⟨x,c⟩,hm⟩:∃p,more[i]?=some p:=⟨_,AGS n⟩
  obtain⟨t,a,ht,td,tI,tup,f⟩:=J i x c hm
  refine codeAny_builtin Bs ?_
  rw[Around.under_plainId Aw _]
  show wpAny _ A.in1 (pyNext (.ref I)>>=_) _ _ s
  refine wpAny_bind (W.item i s _ _ (by rw[hlen];exact n) ⟨m,H⟩ fun v h' tk hv y kept=>?_)
  rw[ht]at hv
  cases hv
  obtain⟨ot,Q,q,nt,z⟩:=tup
  have g:h'.get? t=some ot:=kept _ _ (by simp[tI]) Q
  have hT:({s with heap:=h',toks:=tk}:Shared).TypeIs (.ref t) "tuple":=⟨_,g,q⟩
  obtain⟨ct,dt,dat,slt⟩:=ot
  simp only at q z
  subst q z
  obtain⟨o,N,O,P,r⟩:=id D
  have S:h'.DictOf knd d (merged [] (more.take i)):=⟨o,N,O,kept _ _ (by simp[h]) P,r⟩
  have T:(merged [] (more.take i)).length<=sizeLine:=by
   have:=merged_length_le ([]:List (K×Value)) (more.take i)
   rw[List.length_take,List.length_nil]at this
   have e:sizeLine=16777216:=sizeLine_eq
   lia
  show wpAny _ A.in1 (holding [Value.ref t] _>>=_) _ _ _
  refine wpAny_bind (wpAny_holding (wpAny_bind (wpAny_tryCatch ?_)))
  unfold Builtin.Dict.pairItems
  refine wpAny_bind (wpAny_typeOf hT ?_)
  rw[if_pos (by decide)]
  unfold seqItems?
  refine wpAny_bind ?_
  refine wpAny_bind (wpAny_load g ?_)
  refine wpAny_pure (wpAny_pure ?_)
  show wpAny _ A.in1 (holding [a,c] (dictSet d a c)) _ _ _
  refine wpAny_holding ?_
  unfold dictSet
  try with_reducible refine wpAny_holding ?_
  refine wpAny_bind (knd.pyHash f ?_)
  refine wpAny_dictSetHashed_pairs (hsz:=T) f S fun h2 B u=>?_
  have e1:stored (merged [] (more.take i)) x c=merged [] (more.take (i+1)):=(merged_take_succ [] more i (x,c) hm).symm
  rw[e1]at B
  have kp:∀b o,b≠d->b≠I->s.heap.get? b=some o->h2.get? b=some o:=fun b o E U e=>by
   rw[u.2 b E]
   exact kept b o (by simp[U]) e
  have ic:((i:Int)+1)=((i+1:Nat):Int):=by simp
  refine wpAny_pure ⟨plainId_quiet Aw _,?_⟩
  rw[ic]
  refine ih (i+1) _ (by lia) n (y.1.at fun o e=>by rw[u.2 I (Ne.symm h)];exact e) (y.2.at fun o e=>by rw[u.2 l (Ne.symm G)];exact e) B (fun j k2 v2 hj=>?_) (fun U V X Y=>L U V X fun b o E h4 e=>Y b o E h4 (kp b o E h4 e))
  obtain⟨t2,C,a1,a2,a3,⟨Z,b1,b2⟩,a5⟩:=J j k2 v2 hj
  exact⟨t2,C,a1,a2,a3,⟨Z,kp _ _ a2 a3 b1,b2⟩,a5⟩
end
end PySem
namespace L2
open PySem PySem.Spec PyProof.Rows
section
variable{X:Cx}
inductive Rx (K:AGW) (xs:List V) (H:Hp) (Q:VK):Prop
 |mk (l:Addr) (ts:List Addr) (kvs:List (Key×V)) (a:xs=[.ref l]) (b:An K H l (ts.map V.ref)) (c:ts.length=kvs.length) (d:(∀(j:Nat) k v,kvs[j]?=some (k,v)->∃t,ts[j]?=some t/\H t=some (.tup [kV k,v]))) (e:kvs.length<=1000) (f:∀p,H p=none->Q (.ref p) (upd H p (.dK (CN [] kvs)))):Rx K xs H Q
def cc (K:AGW):List V->Hp->VK->Prop:=fun a H Q=>Rx K a H Q
theorem DX (hc:X.calm=true):Bq X (.type "dict") (cc X.K):=by
 intro pins s σ H xs us Q I r h
 obtain⟨l,f,kvs,rfl,hl,hlen,hp,hz,q⟩:=h
 obtain⟨u,rfl,ru⟩:=vals1 r
 cases ru
 obtain⟨n,rv,pl,_⟩:=I.list hl
 obtain⟨W,nl,L,x,Y,C⟩:=id pl
 have M:X.A.in1.handled=none:=I.ok.hd hc
 refine callType_codes (Q₁:=fun N B=>N=.ref s.heap.objs.size/\B={s with heap:=s.heap.push {cls:=.type "dict",data:=.dict #[]}}) F.kt_called_dict (F.kt_typeCall_dict_1 _) F.entry_dict_init (kt_code_dict_new _ ⟨rfl,rfl⟩) ?_
 rintro N B ⟨rfl,rfl⟩
 have g:(s.heap.push {cls:=.type "dict",data:=.dict #[]}).DictOf (Ay X.prog X.w) s.heap.objs.size []:=Heap.DictOf.new s.heap
 refine⟨g.typeIs,F.args_dict_init_2 _ _,?_⟩
 unfold Builtin.«dict.__init__»
 refine wpAny_bind ?_
 unfold Builtin.Dict.selfAndRest
 refine wpAny_bind (wpAny_notOrdered_dict g.typeIs ?_)
 show wpAny _ _ (pure (s.heap.objs.size,[Value.ref l])) _ _ _
 refine wpAny_pure ?_
 show wpAny _ _ (Builtin.Dict.updateFrom "dict.__init__" s.heap.objs.size (.ref l) [] .none) _ _ _
 unfold Builtin.Dict.updateFrom
 have c:(s.heap.push {cls:=.type "dict",data:=.dict #[]}).get? l=some W:=Heap.get?_push_of_some _ L
 have Z:({s with heap:=s.heap.push {cls:=.type "dict",data:=.dict #[]}}:Shared).TypeIs (.ref l) "list":=⟨_,c,x⟩
 refine wpAny_bind (wpAny_typeOf Z ?_)
 rw[if_pos (by decide)]
 refine wpAny_bind (FR c x C Y M fun D zV e1 ne1=>?_)
 rw[if_pos (show(Option.isNone (none:Option Value))=true from rfl)]
 have i:∀b o,(s.heap.push {cls:=.type "dict",data:=.dict #[]}).get? b=some o->D.get? b=some o:=ne1.keeps
 have O:∀b o,s.heap.get? b=some o->D.get? b=some o:=fun b o e=>i b o (Heap.get?_push_of_some _ e)
 have Xz:D.IsList l n.toArray:=⟨W,i _ _ c,x,nl,C⟩
 refine wpAny_bind (wpAny_rule ?_)
 refine wpAny_bind (wpAny_pyIter_list Xz ?_)
 refine wpAny_pure ⟨plainId_quiet Aw _,?_⟩
 obtain⟨od,es,ep,P,rd⟩:=id g
 have y:s.heap.objs.size<D.objs.size:=Heap.lt_size (i _ _ P)
 have R:l<s.heap.objs.size:=Heap.lt_size L
 have ABx:∀kvs:List (Key×V),(∀p∈kvs,∃(t:Addr),H t=some (.tup [kV p.1,p.2]))->True:=fun _ _=>trivial
 have E:∀(t:Addr) k v,H t=some (.tup [kV k,v])->∃a d,IsTup s.heap t #[a,d]/\(Ay X.prog X.w).is k a=true/\RelV v d:=fun t k v e=>by
  obtain⟨z,r2,tp,_⟩:=I.tuple (Bf.of e)
  cases r2 with
  |cons ra rr=>
   cases rr with
   |cons rb rr=>
    cases rr
    exact⟨_,_,tp,Gj ra,rb⟩
 obtain⟨more,G⟩:∃more:List (Key×Value),KV kvs more/\∀(j:Nat) m d,more[j]?=some (m,d)->∃t a,f[j]?=some t/\IsTup s.heap t #[a,d]/\(Ay X.prog X.w).is m a=true:=by
  have gen:∀(kvs:List (Key×V)) (f:List Addr),(∀(j:Nat) k v,kvs[j]?=some (k,v)->∃t,f[j]?=some t/\H t=some (.tup [kV k,v]))->
    ∃more:List (Key×Value),KV kvs more/\∀(j:Nat) m d,more[j]?=some (m,d)->∃t a,f[j]?=some t/\IsTup s.heap t #[a,d]/\(Ay X.prog X.w).is m a=true:=by
   intro kvs
   induction kvs with
   |nil=>exact fun f _=>⟨[],.nil,fun j m d e=>by simp at e⟩
   |cons p r ih=>
    intro f h
    obtain⟨k,v⟩:=p
    obtain⟨t,e1,e2⟩:=h 0 k v rfl
    obtain⟨a,d,a1,a2,a3⟩:=E t k v e2
    obtain⟨more,b1,b2⟩:=ih f.tail (fun j k v e=>by
     obtain⟨t,c1,c2⟩:=h (j+1) k v (by simpa using e)
     exact⟨t,by rw[List.getElem?_tail];exact c1,c2⟩)
    refine⟨(k,d)::more,.cons ⟨rfl,a3⟩ b1,fun j m S e=>?_⟩
    cases j with
    |zero=>
     have e:(k,d)=(m,S):=by simpa using e
     cases e
     exact⟨t,a,e1,a1,a2⟩
    |succ j=>
     obtain⟨t,a,c1,c2,c3⟩:=b2 j m S (by simpa using e)
     exact⟨t,a,by rw[List.getElem?_tail]at c1;exact c1,c2,c3⟩
  exact gen kvs f hp
 obtain⟨J,hm⟩:=G
 have T:n.length=f.length:=by rw[<-rv.length,List.length_map]
 have U:∀(j:Nat) t,f[j]?=some t->n.toArray[j]?=some (.ref t):=fun j t e=>by
  obtain⟨u,D,h2⟩:=rv.get (show(f.map V.ref)[j]?=some (.ref t)by rw[List.getElem?_map,e];rfl)
  cases h2
  simpa using D
 show codeAny _ _ (.builtin "dict.update.loop" ⟨[.ref s.heap.objs.size,.ref D.objs.size,rawInt ((0:Nat):Int),.none],[]⟩) _ _
 refine UB (knd:=Ay X.prog X.w) (l:=l) (items:=n.toArray) (more:=more) M (Nat.ne_of_lt (Nat.lt_trans R y)) (Nat.ne_of_lt y) (Nat.ne_of_gt R) (by rw[List.size_toArray,T,hlen];exact J.length) (by rw[<-J.length];lia) more.length 0 _ (by simp) (Nat.zero_le _)
  ⟨_,Heap.get?_push_size _ rfl,rfl,rfl⟩ ⟨W,Heap.get?_push_of_some _ (i _ _ c),x,nl,C⟩ ⟨od,es,ep,Heap.get?_push_of_some _ (i _ _ P),rd⟩ (fun j m d e=>?_) (fun h2 pN hd2 ig=>⟨rfl,?_⟩)
 ·obtain⟨t,a,c1,⟨ot,c2,pO⟩,c3⟩:=hm j m d e
  have:t<s.heap.objs.size:=Heap.lt_size c2
  exact⟨t,a,U j t c1,Nat.ne_of_lt this,Nat.ne_of_lt (Nat.lt_trans this y),⟨ot,Heap.get?_push_of_some _ (O _ _ c2),pO⟩,c3⟩
 ·have Yd:(CN [] kvs).length<=sizeLine:=by
   have:=DM kvs []
   exact Ah (by simp at this;lia)
  refine⟨.ref s.heap.objs.size,_,I.laid (t':=pN) (fun b o e=>?_) (Nat.le_refl _) (Hq Yd (beq_eq_false_iff_ne.mpr (Ne.symm (Nat.ne_of_lt I.big))) (KV.merge J .nil) hd2),rfl,q _ I.fresh⟩
  have:=Heap.lt_size e
  exact ig b o (Nat.ne_of_lt this) (Nat.ne_of_lt (Nat.lt_trans this y)) (Heap.get?_push_of_some _ (O _ _ e))
end
section
variable{X:Cx}
inductive ij (K:AGW) (c:Bool) (x:V) (y:V) (H:Hp) (Q:VK):Prop
 |mk (a:Addr) (b:Addr) (xs:List V) (ys:List V) (d:x=.ref a) (e:y=.ref b) (f:An K H a xs) (g:An K H b ys) (h:(∀z∈xs,DZ z=true)) (i:(∀z∈ys,DZ z=true)) (j:Q (.bl (if c then !Vn xs ys else Vn xs ys)) H):ij K c x y H Q
theorem V' {a:Expr} {f:TA} {p pos:Pos} (l:Gl X "range") (m:X.mg "range"=none) (n:PA X [a] f) (u:starEach [a] X.env=[(false,eval a X.env)]:=by rfl):
  PE X (.Call (.Name "range" p) [a] [] pos) (fun d H Q=>f d H fun g c=>∃j:Int,g=[.int j]/\∀r,c r=none->Q (.ref r) (upd c r (.bg 0 j))):=by
 intro pins s d H Q I h
 refine Call_ (El I l m boot_range (PyProof.Rows.callWith_type1 (BS (n pos pins s d H _ I h) fun z i v=>v.elim fun g c k w x=>?_) u rfl))
 obtain⟨j,e,q⟩:=x
 subst e
 cases w with
 |cons r y=>
  cases y
  obtain⟨t,rfl⟩:=r
  exact call_range_1 ⟨.ref i.heap.objs.size,upd c i.heap.objs.size (.bg 0 j),k.laid (fun b o e=>Heap.get?_push_of_some _ e) (Nat.le_refl _) ⟨_,_,_,Heap.get?_push_size _ rfl⟩,rfl,q _ k.fresh⟩
inductive Ee (xs:List V) (H:Hp) (Q:VK):Prop
 |mk (r:Addr) (n:Nat) (a:xs=[.ref r]) (b:H r=some (.bg 0 (n:Int))) (c:n<=1000) (d:∀l,H l=none->Q (.ref l) (upd H l (.lst ((List.range n).map fun(i:Nat)=>V.int (i:Int))))):Ee xs H Q
def Iw:List V->Hp->VK->Prop:=fun a H Q=>Ee a H Q
theorem LG (o:X.calm=true):Bq X (.type "list") Iw:=by
 intro pins s K H L M Q I r h
 obtain⟨g,n,rfl,p,x,q⟩:=h
 obtain⟨u,rfl,y⟩:=vals1 r
 cases y
 obtain⟨t,u,v,e⟩:=(show BO X.prog X.w H s.heap g (.bg 0 (n:Int))from I.Be g _ p)
 have f:X.A.handled=none:=I.ok.hd o
 refine call_list_range (n:=n) f e (small_one (by lia) (by lia) (by lia) (by lia)) (by rw[rangeSize_one];split<;>lia) (by lia) fun B C b D E F j=>?_
 have G:((List.range n).map fun(i:Nat)=>V.int (i:Int)).length<=sizeLine:=by rw[List.length_map,List.length_range];exact Ah x
 refine⟨.ref s.heap.objs.size,_,I.laid (t':=C) E (Nat.le_refl _) (show BO X.prog X.w _ B _ (.lst _)from⟨G,b.toList,D,?_,by rw[Array.toArray_toList];exact F⟩),rfl,q _ I.fresh⟩
 have gen:∀(n:Nat) (l:List Value),l.length=n->(∀(i:Nat) v,l[i]?=some v->∃t,v=Value.int (0+(i:Int)*1) t)->Vals ((List.range n).map fun(i:Nat)=>V.int (i:Int)) l:=by
  intro n
  induction n with
  |zero=>intro l c _;rw[List.eq_nil_of_length_eq_zero c];exact .nil
  |succ n J=>
   intro l c k
   have a:l≠[]:=fun z=>by rw[z]at c;cases c
   have m:l=l.dropLast++[l.getLast a]:=(List.dropLast_concat_getLast a).symm
   rw[List.range_succ,List.map_append,m]
   refine(J l.dropLast (by rw[List.length_dropLast,c];rfl) fun i v d=>?_).append (.cons ?_ .nil)
   ·refine k i v ?_
    rw[m,List.getElem?_append_left ((AGT d).1)]
    exact d
   ·have:l[n]?=some (l.getLast a):=by
     rw[List.getLast_eq_getElem]
     have:l.length-1=n:=by lia
     rw[AGS (by lia)]
     congr 1
     simp[this]
    obtain⟨t,e⟩:=k n _ this
    exact⟨t,by rw[e];congr 1;lia⟩
 exact gen n b.toList (by rw[Array.length_toList];exact j.1) fun i v d=>j.2 i v (by rw[<-Array.getElem?_toList];exact d)
inductive EF (xs:List V) (H:Hp) (Q:VK):Prop
 |mk (a:_) (kvs:_) (b:xs=[.ref a]) (c:Rd H a (.dK kvs)) (d:∀p,H p=none->Q (.ref p) (upd H p (.dK kvs))):EF xs H Q
def Hu:List V->Hp->VK->Prop:=fun a H Q=>EF a H Q
theorem FT:Bq X (.type "dict") Hu:=by
 intro pins s f H g i Q I r h
 obtain⟨a,kvs,rfl,b,q⟩:=h
 obtain⟨u,rfl,c⟩:=vals1 r
 cases c
 exact Va I b fun p j d e=>⟨.ref p,_,e,rfl,q p d⟩
inductive Gs (xs:List V) (H:Hp) (Q:VK):Prop
 |mk (a:_) (kvs:_) (b:xs=[V.ref a]) (c:Rd H a (.dK kvs)) (d:Q (.int kvs.length) H):Gs xs H Q
def OU:List V->Hp->VK->Prop:=fun a H Q=>Gs a H Q
theorem UC:Bq X (.builtin "len") OU:=by
 intro pins s e H f g Q I r h
 obtain⟨a,kvs,rfl,b,q⟩:=h
 obtain⟨u,rfl,c⟩:=vals1 r
 cases c
 exact iP I b fun t i d=>⟨.int kvs.length,H,d,⟨t,rfl⟩,q⟩
end
theorem Qd:∀a b:List Nat,ltCps a b=false->ltCps b a=false->a=b
 |[],[],_,_=>rfl
 |[],y::t,h,_=>by simp[ltCps]at h
 |x::r,[],_,h=>by simp[ltCps]at h
 |x::r,y::t,c,d=>by
  simp only[ltCps,Bool.or_eq_false_iff,decide_eq_false_iff_not,Bool.and_eq_false_iff]at c d
  have e:x=y:=by lia
  subst e
  simp at c d
  rw[Qd r t c d]
theorem ag:∀a b c:List Nat,ltCps a b=true->ltCps b c=true->ltCps a c=true
 |[],[],c,h,_=>by simp[ltCps]at h
 |[],y::t,[],_,h=>by simp[ltCps]at h
 |[],y::t,z::u,_,_=>by simp[ltCps]
 |x::r,[],c,h,_=>by simp[ltCps]at h
 |x::r,y::t,[],_,h=>by simp[ltCps]at h
 |x::r,y::t,z::u,d,e=>by
  simp only[ltCps,Bool.or_eq_true,decide_eq_true_eq,Bool.and_eq_true,beq_iff_eq]at d e⊢
  rcases d with d|⟨d,f⟩<;>rcases e with e|⟨e,g⟩
  ·left;lia
  ·left;lia
  ·left;lia
  ·right;exact⟨by lia,ag r t u f g⟩
theorem ip (a b c:List Nat) (g:ltCps b a=false) (d:ltCps c b=false):ltCps c a=false:=by
 cases e:ltCps c a with
 |false=>rfl
 |true=>
  cases f:ltCps a b with
  |true=>rw[ag c a b e f]at d;cases d
  |false=>rw[Qd a b f g]at e;rw[e]at d;cases d
theorem Ln:∀(p:Str) (l:List Str),risingS p l=true->(∀x∈l,ltCps x.cps.toList p.cps.toList=false)/\l.Pairwise fun a b=>ltCps b.cps.toList a.cps.toList=false
 |_,[],_=>⟨fun x c=>(nomatch c),.nil⟩
 |p,y::r,h=>by
  simp only[risingS,Bool.and_eq_true,Bool.not_eq_true']at h
  obtain⟨d,e⟩:=Ln y r h.2
  refine⟨fun x c=>?_,.cons d e⟩
  rcases List.mem_cons.mp c with rfl|c
  ·exact h.1
  ·exact ip _ _ _ h.1 (d x c)
theorem Jo {l:List Str} (h:sortedS l=true):l.Pairwise fun a b=>ltCps b.cps.toList a.cps.toList=false:=by
 cases l with
 |nil=>exact .nil
 |cons x r=>obtain⟨c,d⟩:=Ln x r h;exact .cons c d
theorem Ye {x y:Str} (h:x.cps.toList=y.cps.toList):x=y:=by
 cases x;cases y
 simp only at h
 congr 1
 exact Array.toList_inj.mp h
theorem Jp:∀{a b:List Str},(a.Pairwise fun a b=>ltCps b.cps.toList a.cps.toList=false)->(b.Pairwise fun a b=>ltCps b.cps.toList a.cps.toList=false)->a.Perm b->a=b
 |[],b,_,_,p=>(List.nil_perm.mp p).symm
 |x::r,[],_,_,p=>by have:=p.length_eq;simp at this
 |x::r,y::t,f,g,p=>by
  obtain⟨a1,a2⟩:=List.pairwise_cons.mp f
  obtain⟨h,i⟩:=List.pairwise_cons.mp g
  have e:x=y:=by
   have c:x∈y::t:=p.mem_iff.mp List.mem_cons_self
   have d:y∈x::r:=p.mem_iff.mpr List.mem_cons_self
   rcases List.mem_cons.mp c with c|c
   ·exact c
   ·rcases List.mem_cons.mp d with d|d
    ·exact d.symm
    ·exact Ye (Qd _ _ (h x c) (a1 y d))
  subst e
  rw[Jp a2 i (List.Perm.cons_inv p)]
theorem EG {a b:List Str} (c:sortedS a=true) (d:sortedS b=true) (p:a.Perm b):a=b:=Jp (Jo c) (Jo d) p
namespace Dc
mutual
def deep:Dc->Nat
 |leaf _=>1
 |row _ xs=>1+AW xs
 |tab _ _ xs=>1+AW xs
def AW:List Dc->Nat
 |[]=>0
 |x::r=>max (deep x) (AW r)
end
mutual
def parts:Dc->List Dc
 |leaf v=>[leaf v]
 |row a xs=>row a xs::Qe xs
 |tab a ks xs=>tab a ks xs::Qe xs
def Qe:List Dc->List Dc
 |[]=>[]
 |x::r=>parts x++Qe r
end
structure pP (e d:Dc):Prop where
 at_:∀{H:Hp},d.At H->e.At H
 ok:d.ok->e.ok
 slim:d.slim->e.slim
 deep:e.deep<=d.deep
 size:e.size<=d.size
 addrs:∀a∈e.addrs,a∈d.addrs
mutual
def Dx:Dc->Dc->Prop
 |leaf v,leaf w=>v=w
 |row _ xs,row _ ys=>Cy xs ys
 |tab _ ks xs,tab _ ls ys=>ks=ls/\Cy xs ys
 |_,_=>False
def Cy:List Dc->List Dc->Prop
 |[],[]=>True
 |x::r,y::t=>Dx x y/\Cy r t
 |_,_=>False
end
theorem Lo:∀{xs ys:List Dc},Cy xs ys->∀(i:Nat) x,xs[i]?=some x->∃y,ys[i]?=some y/\Dx x y
 |[],_,_,i,x,e=>by simp at e
 |x::r,[],h,_,_,_=>by simp[Cy]at h
 |x::r,y::t,h,0,z,e=>by simp only[Cy]at h;simp at e;subst e;exact⟨y,rfl,h.1⟩
 |x::r,y::t,h,i+1,z,e=>by simp only[Cy]at h;simp at e;obtain⟨w,a,b⟩:=Lo h.2 i z e;exact⟨w,by simpa using a,b⟩
def kids:Dc->List Dc
 |leaf _=>[]
 |row _ xs=>xs
 |tab _ _ xs=>xs
theorem GP {xs ys:List Dc} (p:xs.Perm ys):AL xs=AL ys:=by
 induction p with
 |nil=>rfl
 |cons x _ a=>simp only[AL,a]
 |swap x y l=>simp only[AL];lia
 |trans _ _ b c=>exact b.trans c
def Yf:Dc->List V->Prop
 |leaf _,l=>l=[]
 |row _ xs,l=>l=(List.range xs.length).map fun(i:Nat)=>V.int (i:Int)
 |tab _ ks _,l=>∃ss:List Str,l=ss.map V.str/\ss.Perm ks/\sortedS ss=true
end Dc
structure Jq (H H':Hp) (d:Dc):Prop where
 same:AE H H'
 at_:d.At H'
 nd:d.addrs.Nodup
 own:∀a∈d.addrs,∀o u,H' a≠some (.Cg o u)
 new:∀a∈d.addrs,H a=none
theorem Ry {c:TT} {h:TS} {D:Ends} {a:St} {H:Hp} (W:Nat->St->Hp->Prop) (i:Nat) (k:W i a H)
  (l:∀m a H,W m a H->c a H fun b e=>if b=true then h {D with nx:=fun d g=>∃f,f<m/\W f d g,ct:=fun d g=>∃f,f<m/\W f d g,bk:=D.nx} a e else D.nx a e)
  (mono:∀a H Q j,(∀b e,Q b e->j b e)->c a H Q->c a H j):VG c h D a H:=by
 refine⟨W,⟨i,k⟩,fun m a H p=>?_⟩
 refine mono a H _ _ (fun b e q=>?_) (l m a H p)
 cases b with
 |true=>exact⟨_,fun d g z=>z,q⟩
 |false=>exact q
inductive Yg (n:Nat) (vs:List V) (H:Hp) (Q:VK) (a:XK):Prop
 |mk (d:Dc) (b:vs=[d.val]) (c:d.At H) (e:d.deep<=n) (f:d.size<=900) (g:∀(d':Dc) (H':Hp),Jq H H' d'->Dc.Dx d d'->Q d'.val H'):Yg n vs H Q a
inductive WA (n:Nat) (vs:List V) (H:Hp) (Q:VK) (a:XK):Prop
 |mk (d:Dc) (e:Dc) (b:vs=[d.val,e.val]) (c:d.At H) (f:e.At H) (g:Dc.Dx d e) (h:d.slim) (i:d.deep<=n) (j:d.size<=900) (k:∀H',AE H H'->Q (.bl true) H'):WA n vs H Q a
inductive WB (n:Nat) (vs:List V) (H:Hp) (Q:VK) (a:XK):Prop
 |mk (d:Dc) (b:vs=[d.val]) (c:d.At H) (e:d.deep<=n) (f:d.size<=900) (g:∀(p:Addr) (H':Hp),AE H H'->H p=none->H' p=some (.lst (d.parts.map Dc.val))->Q (.ref p) H'):WB n vs H Q a
inductive OV (vs:List V) (H:Hp) (Q:VK) (a:XK):Prop
 |mk (d:Dc) (b:vs=[d.val]) (c:d.At H) (e:d.slim) (f:d.size<=900) (g:∀(p:Addr) (l:List V) (H':Hp),AE H H'->H p=none->H' p=some (.lst l)->d.Yf l->Q (.ref p) H'):OV vs H Q a
def Mj:Sp:=fun b H Q a=>OV b H Q a
inductive WC (vs:List V) (H:Hp) (Q:VK) (a:XK):Prop
 |mk (d:Dc) (c:vs=[d.val]) (e:d.At H) (f:d.slim) (g:d.size<=900) (h:∀(p:Addr) (b:List Dc) (H':Hp),AE H H'->H p=none->H' p=some (.lst (b.map Dc.val))->b.Perm d.kids->Q (.ref p) H'):WC vs H Q a
inductive UD (vs:List V) (H:Hp) (Q:VK) (a:XK):Prop
 |mk (d:Dc) (b:vs=[d.val]) (c:d.At H) (e:d.slim) (f:d.size<=900) (g:∀H',AE H H'->Q (.int (d.size:Int)) H'):UD vs H Q a
inductive WD (vs:List V) (H:Hp) (Q:VK) (a:XK):Prop
 |mk (d:Dc) (b:vs=[d.val]) (c:d.At H) (e:d.ok) (f:d.slim) (g:d.size<=900) (h:∀H',AE H H'->Q (.bl true) H'):WD vs H Q a
def Dc.kindS:Dc->Str
 | .leaf (.str _)=>"text"
 | .leaf _=>"number"
 | .row _ _=>"row"
 | .tab _ _ _=>"table"
inductive Yh (vs:List V) (H:Hp) (Q:VK) (a:XK):Prop
 |mk (d:Dc) (b:vs=[d.val]) (c:d.At H) (e:Q (.str d.kindS) H):Yh vs H Q a
inductive WE (n:Nat) (vs:List V) (H:Hp) (Q:VK) (a:XK):Prop
 |mk (d:Dc) (t:Addr) (xs:List V) (c:vs=[d.val,.ref t]) (e:d.At H) (f:d.ok) (g:d.slim) (h:d.deep<=n) (i:H t=some (.tup xs)) (j:xs.length+d.size<=1000) (k:∀(p:Addr) (b:List Addr) (H':Hp),AE H H'->H p=none->H' p=some (.lst (b.map V.ref))->b.length=d.size->(∀q∈b,∃zs,H' q=some (.tup (xs++zs))/\(d.sub zs).isSome=true)->Q (.ref p) H'):WE n vs H Q a
def back (a:Addr) (H H':Hp):Hp:=fun b=>if b=a then H a else H' b
theorem Fl {a b:Addr} {H H':Hp} (h:b≠a):back a H H' b=H' b:=if_neg h
theorem Rz {a:Addr} {H H':Hp}:back a H H' a=H a:=if_pos rfl
theorem OW {a:Addr} {H H':Hp} {u:HO} (e:H a=some u):back a H H'=upd H' a u:=by
 funext b
 unfold back upd
 split
 ·exact e
 ·rfl
theorem Ef {a:Addr} {H H':Hp} (e:H a=H' a):back a H H'=H':=by
 funext b
 unfold back
 split
 ·rename_i h;rw[h,e]
 ·rfl
structure Qf (a:Addr) (o:Obj) (kvs:List (Key×V)) (H Hf:Hp):Prop where
 at_:Hf a=some (.Cg o (.dK kvs))
 rd:FI H Hf
 ne:∀b,b≠a->Hf b=H b
 rda:Rd H a (.dK kvs)
theorem Qf.free {a b:Addr} {o:Obj} {kvs:List (Key×V)} {H c:Hp} (F:Qf a o kvs H c) (h:c b=none):H b=none/\b≠a:=by
 have d:b≠a:=fun z=>by rw[z,F.at_]at h;cases h
 rw[F.ne b d]at h
 exact⟨h,d⟩
theorem Qf.back {a:Addr} {o:Obj} {kvs:List (Key×V)} {H d f:Hp} (F:Qf a o kvs H d) (s:AE d f):AE H (back a H f):=fun b u e=>by
 by_cases c:b=a
 ·subst c;rw[Rz];exact e
 ·rw[Fl c]
  exact s b u (by rw[F.ne b c];exact e)
inductive R_ (t:TE) (b:St) (H:Hp) (Q:VK):Prop
 |mk (a:_) (kvs:_) (d:Rd H a (.dK kvs)) (e:∀o c,Qf a o kvs H c->t b c fun v H'=>H' a=some (.Cg o (.dK kvs))/\Q v (back a H H')):R_ t b H Q
def cf (t:TE):TE:=fun a H Q=>R_ t a H Q
inductive R' (t:TS) (D:Ends) (b:St) (H:Hp):Prop
 |mk (a:_) (kvs:_) (d:Rd H a (.dK kvs)) (e:∀o c,Qf a o kvs H c->t ⟨fun b H'=>H' a=some (.Cg o (.dK kvs))/\D.nx b (back a H H'),fun v H'=>H' a=some (.Cg o (.dK kvs))/\D.rt v (back a H H'),fun b H'=>H' a=some (.Cg o (.dK kvs))/\D.bk b (back a H H'),fun b H'=>H' a=some (.Cg o (.dK kvs))/\D.ct b (back a H H')⟩ b c):R' t D b H
def cg (t:TS):TS:=fun D a H=>R' t D a H
theorem Qf.of {a:Addr} {o:Obj} {kvs:List (Key×V)} {H:Hp} (e:H a=some (.dK kvs)):Qf a o kvs H (upd H a (.Cg o (.dK kvs))):=⟨AF,FI.Cg e,fun b c=>AJ c,.inl e⟩
theorem Qf.same {a:Addr} {o:Obj} {kvs:List (Key×V)} {H:Hp} (e:H a=some (.Cg o (.dK kvs))):Qf a o kvs H H:=⟨e,fun _ _ r=>r,fun _ _=>rfl,.inr ⟨o,e⟩⟩
section
variable{X:Cx}
theorem Ml {e:Expr} {t:TE} (h:PE X e t):PE X e (cf t):=by
 rintro pins s c H Q I ⟨a,kvs,r,d⟩
 rcases r with r|⟨o,r⟩
 ·refine cY h pins s c H Q I ⟨a,kvs,r,fun o=>?_⟩
  have:=d o _ (Qf.of r)
  have e:(fun v b=>b a=some (.Cg o (.dK kvs))/\Q v (back a H b))=fun v=>Mi a o kvs (Q v):=by
   funext v b
   unfold Mi
   rw[OW r]
  rw[e]at this
  exact this
 ·refine BS (h pins s c H _ I (d o H (Qf.same r))) fun u l ⟨v,g,i,j,k,f⟩=>⟨v,g,i,j,?_⟩
  rw[Ef (r.trans k.symm)]at f
  exact f
theorem Yi {st:Stmt} {t:TS} (h:PS X st t):PS X st (cg t):=by
 rintro pins s m H D I ⟨a,kvs,r,n⟩
 rcases r with r|⟨o,r⟩
 ·refine cZ h pins s m H D I ⟨a,kvs,r,fun o=>?_⟩
  have:=n o _ (Qf.of r)
  have e:∀k:Hp->Prop,(fun j=>j a=some (.Cg o (.dK kvs))/\k (back a H j))=Mi a o kvs k:=fun k=>by
   funext j
   unfold Mi
   rw[OW r]
  simp only[<-e]
  exact this
 ·refine BS (h pins s m H _ I (n o H (Qf.same r))) fun f q i=>?_
  cases f with
  |next=>obtain⟨b,l,d,g,c⟩:=i;rw[Ef (r.trans g.symm)]at c;exact⟨b,_,d,c⟩
  |brk=>obtain⟨b,l,d,g,c⟩:=i;rw[Ef (r.trans g.symm)]at c;exact⟨b,_,d,c⟩
  |cont=>obtain⟨b,l,d,g,c⟩:=i;rw[Ef (r.trans g.symm)]at c;exact⟨b,_,d,c⟩
  |ret u=>obtain⟨v,b,l,d,p,g,c⟩:=i;rw[Ef (r.trans g.symm)]at c;exact⟨v,b,_,d,p,c⟩
end
theorem Fm {J:It} {o:TE} {fs:List Nat} {q:St} {H:Hp} {Q:VK} (n:Nat) (item:Nat->V) (P:Addr->Nat->Hp->Prop) (s:∀D,H D=none->P D 0 (upd H D (.lst [])))
  (h:∀D i H2,i<n->P D i H2->J.go i H2) (t:∀D i H2 v H',i<n->P D i H2->J.NX i H2 v H'->v=item i/\H'=H2) (j:∀D H2,P D n H2->J.stop n H2)
  (u:∀D i H2,H D=none->i<n->P D i H2->o (some (item i)::Bn q fs) H2 fun y d=>∃ys,d D=some (.lst ys)/\ys.length<sizeLine/\P D (i+1) (upd d D (.lst (ys++[y]))))
  (w:∀D H2,H D=none->P D n H2->Q (.ref D) H2):EN J OH o fs q H Q:=by
 intro D k
 refine⟨fun i m H2=>m=n-i/\i<=n/\P D i H2,⟨n,rfl,Nat.zero_le _,s D k⟩,?_⟩
 rintro i m H2 ⟨rfl,x,p⟩
 by_cases f:i<n
 ·refine .inr ⟨h D i H2 f p,fun v r y=>?_⟩
  obtain⟨rfl,rfl⟩:=t D i H2 v r f p y
  unfold OH
  dsimp only
  rw[if_pos rfl]
  have g:=u D i r k f p
  have e:(fun(y:V) (d:Hp)=>∃ys,d D=some (.lst ys)/\ys.length<sizeLine/\∃l,l<n-i/\l=n-(i+1)/\i+1<=n/\P D (i+1) (upd d D (.lst (ys++[y]))))=fun y d=>∃ys,d D=some (.lst ys)/\ys.length<sizeLine/\P D (i+1) (upd d D (.lst (ys++[y]))):=by
   funext y d
   refine propext ⟨fun⟨ys,a,b,l,_,_,_,c⟩=>⟨ys,a,b,c⟩,fun⟨ys,a,b,c⟩=>⟨ys,a,b,n-(i+1),by lia,rfl,f,c⟩⟩
  rw[<-e]at g
  exact g
 ·have e:i=n:=by lia
  subst e
  exact .inl ⟨j D H2 p,w D H2 k p⟩
structure Jr (H H':Hp) (es:List Dc):Prop where
 same:AE H H'
 at_:Dc.HU H' es
 nd:(Dc.BE es).Nodup
 own:∀a∈Dc.BE es,∀o u,H' a≠some (.Cg o u)
 new:∀a∈Dc.BE es,H a=none
theorem Jr.nil {H H':Hp} (s:AE H H'):Jr H H' []:=⟨s,trivial,.nil,fun a h=>(nomatch h),fun a h=>(nomatch h)⟩
theorem Et:∀(more kvs:List (Key×V)),((kvs++more).map (·.1)).Nodup->CN kvs more=kvs++more
 |[],kvs,_=>by simp[CN]
 |p::r,kvs,h=>by
  have a:BM kvs p.1=none:=by
   cases e:BM kvs p.1 with
   |none=>rfl
   |some v=>
    have:=Mc e
    rw[List.map_append,List.map_cons]at h
    obtain⟨_,_,b⟩:=List.nodup_append.mp h
    exact absurd rfl (b p.1 this p.1 List.mem_cons_self)
  show CN (putK kvs p.1 p.2) r=_
  rw[OB p.2 a,Et r (kvs++[(p.1,p.2)]) (by simpa using h)]
  simp
namespace Dc
theorem WG {nm:Str} {x:Dc}:∀(ks:List Str) (xs:List Dc) (i:Nat),ks.Nodup->ks[i]?=some nm->xs[i]?=some x->(ks.zip xs).lookup nm=some x
 |[],_,_,_,h,_=>by simp at h
 |y::r,[],_,_,_,h=>by simp at h
 |y::r,z::t,0,_,b,c=>by simp at b c;subst b c;simp
 |y::r,z::t,i+1,nd,b,c=>by
  obtain⟨d,e⟩:=List.nodup_cons.mp nd
  have a:r[i]?=some nm:=by simpa using b
  have f:nm≠y:=fun z=>d (z▸AGV a)
  have:(nm==y)=false:=by simpa using f
  simp only[List.zip_cons_cons,List.lookup_cons,this]
  exact WG r t i e a (by simpa using c)
end Dc
def cj:V->Bool
 | .int _=>true
 |_=>false
def iq:V->Bool
 | .str x=>Cb x
 |_=>false
def Short (v:V):Prop:=∀x,v=.str x->x.length<=1000
inductive WH (vs:List V) (H:Hp) (Q:VK) (a:XK):Prop
 |mk (v:_) (T:_) (b:vs=[v]) (c:QD H v T) (d:Q (.bl (cj v)) H):WH vs H Q a
inductive Qg (vs:List V) (H:Hp) (Q:VK) (a:XK):Prop
 |mk (x:Str) (b:vs=[.str x]) (c:x.length<=1000) (d:∀H',AE H H'->Q (.bl ((sgn x).all aY)) H'):Qg vs H Q a
inductive Yj (vs:List V) (H:Hp) (Q:VK) (a:XK):Prop
 |mk (v:_) (T:_) (b:vs=[v]) (c:QD H v T) (d:Short v) (e:∀H',AE H H'->Q (.bl (iq v)) H'):Yj vs H Q a
inductive WI (vs:List V) (H:Hp) (Q:VK) (a:XK):Prop
 |mk (d:Dc) (b:vs=[d.val]) (c:d.At H) (e:d.ok) (f:d.size<=900) (g:∀H',AE H H'->Q (.bl true) H'):WI vs H Q a
def FU (H b:Hp) (c:V):Dc->Prop
 | .leaf v=>c=v/\Dc.Lf v
 | .row _ xs=>∃a,c=.ref a/\b a=some (.lst (xs.map Dc.val))/\H a=none
 | .tab _ ks xs=>∃a,c=.ref a/\b a=some (.dK (Dc.kvs ks xs))/\H a=none
def rootOf (p:V×Dc):Option Addr:=match p.1 with
 | .ref a=>some a
 |_=>none
abbrev roots (a:List (V×Dc)):List Addr:=a.filterMap rootOf
theorem Bb {d:List (V×Dc)} {c:Addr}:c∈roots d↔∃p∈d,p.1=.ref c:=by
 rw[List.mem_filterMap]
 constructor
 ·rintro⟨p,b,e⟩
  refine⟨p,b,?_⟩
  unfold rootOf at e
  split at e
  ·rename_i a h;cases e;exact h
  ·cases e
 ·rintro⟨p,b,e⟩
  exact⟨p,b,by unfold rootOf;rw[e]⟩
theorem BN (a b:List (V×Dc)):roots (a++b)=roots a++roots b:=List.filterMap_append ..
def BU:List (V×Dc)->List Dc->Prop
 |[],[]=>True
 |p::a,e::b=>e.val=p.1/\Dc.Dx p.2 e/\BU a b
 |_,_=>False
theorem BU.split:∀{c a:List (V×Dc)} {b:List Dc},BU (c++a) b->∃d ec,b=d++ec/\BU c d/\BU a ec
 |[],a,b,h=>⟨[],b,rfl,trivial,h⟩
 |p::c,a,[],h=>by simp[BU]at h
 |p::c,a,e::b,h=>by
  simp only[List.cons_append,BU]at h
  obtain⟨d,ec,rfl,f,g⟩:=BU.split h.2.2
  exact⟨e::d,ec,rfl,by simp only[BU];exact⟨h.1,h.2.1,f⟩,g⟩
theorem BU.app:∀{b a:List (V×Dc)} {c ec:List Dc},BU b c->BU a ec->BU (b++a) (c++ec)
 |[],a,[],ec,_,h=>h
 |[],_,_::_,_,h,_=>by simp[BU]at h
 |_::_,_,[],_,h,_=>by simp[BU]at h
 |p::b,a,e::c,ec,h,h'=>by
  simp only[BU,List.cons_append]at h⊢
  exact⟨h.1,h.2.1,BU.app h.2.2 h'⟩
theorem BU.vals:∀{a:List (V×Dc)} {b:List Dc},BU a b->b.map Dc.val=a.map (·.1)
 |[],[],_=>rfl
 |[],_::_,h=>by simp[BU]at h
 |_::_,[],h=>by simp[BU]at h
 |p::a,e::b,h=>by
  simp only[BU]at h
  simp only[List.map_cons,h.1,BU.vals h.2.2]
theorem BU.WJ:∀{a:List (V×Dc)} {b:List Dc},BU a b->Dc.Cy (a.map (·.2)) b
 |[],[],_=>by simp[Dc.Cy]
 |[],_::_,h=>by simp[BU]at h
 |_::_,[],h=>by simp[BU]at h
 |p::a,e::b,h=>by
  simp only[BU]at h
  simp only[List.map_cons,Dc.Cy]
  exact⟨h.2.1,BU.WJ h.2.2⟩
structure Eg (H Hi:Hp) (L:Addr) (tv:V) (d:Dc) (ps:List (V×Dc)):Prop where
 same:AE H Hi
 nL:H L=none
 eL:Hi L=some (.lst (ps.map (·.1)))
 out:∀p∈ps,FU H Hi p.1 p.2
 src:∀p∈ps,p.2.At H/\p.2.slim
 nd:(roots ps).Nodup
 UE:L∉roots ps
 ck:∀(es:List Dc) (H':Hp),BU ps es->Jr H H' es->(∀c∈Dc.BE es,Hi c=none∨c∈roots ps)->(∀b o,b≠L->b∉roots ps->Hi b=some o->H' b=some o)->∃e:Dc,e.val=tv/\Dc.Dx d e/\Jq H H' e
theorem FU.root {H f:Hp} {p:V×Dc} {c:Addr} (o:FU H f p.1 p.2) (e:p.1=.ref c):f c≠none/\H c=none/\∀j u,f c≠some (.Cg j u):=by
 obtain⟨v,d⟩:=p
 simp only at e
 subst e
 cases d with
 |leaf v=>
  obtain⟨rfl,h⟩:=(show V.ref c=v/\Dc.Lf v from o)
  rcases h with⟨i,h⟩|⟨x,h,_⟩<;>cases h
 |row b k=>
  obtain⟨a,e,g,l⟩:=(show∃a,V.ref c=.ref a/\f a=some (.lst (k.map Dc.val))/\H a=none from o)
  cases e
  exact⟨by rw[g];simp,l,fun j u z=>by rw[g]at z;cases z⟩
 |tab b m k=>
  obtain⟨a,e,g,l⟩:=(show∃a,V.ref c=.ref a/\f a=some (.dK (Dc.kvs m k))/\H a=none from o)
  cases e
  exact⟨by rw[g];simp,l,fun j u z=>by rw[g]at z;cases z⟩
theorem FU.up {H h H2:Hp} {c:V} {d:Dc} (o:FU H h c d) (k:∀a,c=.ref a->∀u,h a=some u->H2 a=some u):FU H H2 c d:=by
 cases d with
 |leaf v=>exact o
 |row b i=>obtain⟨a,e,f,g⟩:=o;exact⟨a,e,k a e _ f,g⟩
 |tab b j i=>obtain⟨a,e,f,g⟩:=o;exact⟨a,e,k a e _ f,g⟩
theorem Eg.step {H t H2:Hp} {L a:Addr} {S:V} {d node:Dc} {j:List (V×Dc)} (C:Eg H t L S d (j++[(.ref a,node)])) (k:List (V×Dc))
  (keep:∀b o,b≠a->b≠L->t b=some o->H2 b=some o) (eL:H2 L=some (.lst ((j++k).map (·.1)))) (out:∀p∈k,FU H H2 p.1 p.2) (src:∀p∈k,p.2.At H/\p.2.slim) (rn:(roots k).Nodup) (v:∀c∈roots k,t c=none)
  (n:H2 a≠none) (own:∀G u,H2 a≠some (.Cg G u))
  (build:∀(ec:List Dc) (H':Hp),BU k ec->Dc.HU H' ec->H' a=H2 a->∃e:Dc,e.val=.ref a/\Dc.Dx node e/\e.At H'/\e.addrs.Perm (a::Dc.BE ec)):Eg H H2 L S d (j++k):=by
 have E:roots (j++[(V.ref a,node)])=roots j++[a]:=by rw[BN];rfl
 have nd:=C.nd
 rw[E]at nd
 obtain⟨I,_,J⟩:=List.nodup_append.mp nd
 have UE:=C.UE
 rw[E]at UE
 have aL:a≠L:=fun z=>UE (by rw[<-z];simp)
 have A:a∉roots j:=fun z=>J a z a (by simp) rfl
 have K:=(C.out (.ref a,node) (by simp)).root rfl
 have T:∀c∈roots j,c≠a/\c≠L/\t c≠none:=fun c f=>by
  obtain⟨p,g,e⟩:=Bb.mp f
  refine⟨fun z=>A (by rw[<-z];exact f),fun z=>UE (by rw[<-z];simp[f]),?_⟩
  exact((C.out p (by simp[g])).root e).1
 refine⟨fun b o e=>?_,C.nL,eL,fun p g=>?_,fun p g=>?_,?_,?_,fun es H' dn B z U=>?_⟩
 ·exact keep b o (Au e K.2.1) (Au e C.nL) (C.same b o e)
 ·rcases List.mem_append.mp g with g|g
  ·refine(C.out p (by simp[g])).up fun c e u h=>?_
   have:=T c (Bb.mpr ⟨p,g,e⟩)
   exact keep c u this.1 this.2.1 h
  ·exact out p g
 ·rcases List.mem_append.mp g with g|g
  ·exact C.src p (by simp[g])
  ·exact src p g
 ·rw[BN]
  refine List.nodup_append.mpr ⟨I,rn,fun x F y r e=>?_⟩
  subst e
  exact(T x F).2.2 (v x r)
 ·rw[BN]
  intro h
  rcases List.mem_append.mp h with h|h
  ·exact UE (by simp[h])
  ·have:=v L h
   rw[C.eL]at this
   cases this
 ·obtain⟨l,ec,rfl,d1,d2⟩:=dn.split
  have W:a∉roots (j++k):=by
   rw[BN]
   intro h
   rcases List.mem_append.mp h with h|h
   ·exact A h
   ·exact K.1 (v a h)
  have D:H' a=H2 a:=by
   cases e:H2 a with
   |none=>exact absurd e n
   |some o=>exact U a o aL W e
  obtain⟨CI,at2⟩:=(Dc.Es _ _).mp B.at_
  obtain⟨e,ev,el,ea,X⟩:=build ec H' d2 at2 D
  have i:a∉Dc.BE (l++ec):=fun h=>by
   rcases z a h with h|h
   ·exact n h
   ·exact W h
  have m:Dc.BE (l++[e])=Dc.BE l++e.addrs:=by rw[Dc.Cc];simp[Dc.BE]
  have s:∀c,c∈Dc.BE (l++[e])->c=a∨c∈Dc.BE (l++ec):=fun c f=>by
   rw[m]at f
   rw[Dc.Cc]
   rcases List.mem_append.mp f with f|f
   ·exact .inr (List.mem_append_left _ f)
   ·rcases List.mem_cons.mp (X.mem_iff.mp f)with f|f
    ·exact .inl f
    ·exact .inr (List.mem_append_right _ f)
  have M:Jr H H' (l++[e]):=by
   refine⟨B.same,(Dc.Es _ _).mpr ⟨CI,by simp only[Dc.HU];exact⟨ea,trivial⟩⟩,?_,fun c f=>?_,fun c f=>?_⟩
   ·have Y:=B.nd
    rw[Dc.Cc]at Y i
    have:(Dc.BE l++(a::Dc.BE ec)).Nodup:=by
     obtain⟨x1,x2,x3⟩:=List.nodup_append.mp Y
     refine List.nodup_append.mpr ⟨x1,List.nodup_cons.mpr ⟨fun h=>i (List.mem_append_right _ h),x2⟩,fun x F y r N=>?_⟩
     subst N
     rcases List.mem_cons.mp r with r|r
     ·exact i (List.mem_append_left _ (by rw[<-r];exact F))
     ·exact x3 x F x r rfl
    rw[m]
    exact((List.Perm.append_left _ X).nodup_iff).mpr this
   ·rcases s c f with rfl|f
    ·intro G u h;rw[D]at h;exact own G u h
    ·exact B.own c f
   ·rcases s c f with rfl|f
    ·exact K.2.1
    ·exact B.new c f
  refine C.ck (l++[e]) H' (d1.app (by simp only[BU];exact⟨ev,el,trivial⟩)) M (fun c f=>?_) (fun b o Z O h=>?_)
  ·rw[E]
   rcases s c f with rfl|f
   ·exact .inr (by simp)
   ·rcases z c f with h|h
    ·left
     cases q:t c with
     |none=>rfl
     |some o=>
      have P:c≠a:=fun w=>n (by rw[<-w];exact h)
      have Q:c≠L:=fun w=>by rw[w,eL]at h;cases h
      rw[keep c o P Q q]at h
      cases h
    ·rw[BN]at h
     rcases List.mem_append.mp h with h|h
     ·exact .inr (by simp[h])
     ·exact .inl (v c h)
  ·rw[E]at O
   have R:b≠a:=fun w=>O (by simp[w])
   refine U b o Z ?_ (keep b o R Z h)
   rw[BN]
   intro w
   rcases List.mem_append.mp w with w|w
   ·exact O (by simp[w])
   ·rw[v b w]at h;cases h
theorem Eg.start {H i:Hp} {L:Addr} {d:Dc} {b:V} (s:AE H i) (m:H L=none) (n:i L=some (.lst [b])) (o:FU H i b d) (h:d.At H) (q:d.slim) (ne:b≠.ref L):Eg H i L b d [(b,d)]:=by
 refine⟨s,m,n,fun p c=>by rw[List.mem_singleton.mp c];exact o,fun p c=>by rw[List.mem_singleton.mp c];exact⟨h,q⟩,?_,?_,fun t v f g z w=>?_⟩
 ·cases b<;>first|exact List.nodup_nil|exact List.nodup_cons.mpr ⟨(fun h=>nomatch h),List.nodup_nil⟩
 ·intro u
  obtain⟨p,c,e⟩:=Bb.mp u
  rw[List.mem_singleton.mp c]at e
  exact ne e
 ·cases t with
  |nil=>simp[BU]at f
  |cons e r=>
   cases r with
   |cons _ _=>simp[BU]at f
   |nil=>
    simp only[BU]at f
    have j:Dc.BE [e]=e.addrs:=by simp[Dc.BE]
    have l:=g.at_
    simp only[Dc.HU]at l
    have fn:=g.nd
    rw[j]at fn
    exact⟨e,f.1,f.2.1,g.same,l.1,fn,fun a k=>g.own a (by rw[j];exact k),fun a k=>g.new a (by rw[j];exact k)⟩
theorem Eg.done {H a:Hp} {L:Addr} {d:Dc} {f:V} (C:Eg H a L f d []):∃e:Dc,e.val=f/\Dc.Dx d e/\Jq H a e:=
 C.ck [] a trivial (.nil C.same) (fun c g=>(nomatch g)) fun b o _ _ h=>h
theorem Eg.leaf {H k H2:Hp} {L:Addr} {d:Dc} {r v:V} {a:List (V×Dc)} (C:Eg H k L r d (a++[(v,.leaf v)])) (keep:∀b o,b≠L->k b=some o->H2 b=some o) (s:H2 L=some (.lst (a.map (·.1)))):Eg H H2 L r d a:=by
 have t:Dc.Lf v:=(show v=v/\Dc.Lf v from C.out (v,.leaf v) (by simp)).2
 have l:roots (a++[(v,Dc.leaf v)])=roots a:=by
  rw[BN]
  rcases t with⟨i,rfl⟩|⟨x,rfl,_⟩<;>simp[roots,rootOf]
 have nd:=C.nd
 have UE:=C.UE
 rw[l]at nd UE
 refine⟨fun b o e=>keep b o (Au e C.nL) (C.same b o e),C.nL,s,fun p g=>?_,fun p g=>C.src p (by simp[g]),nd,UE,fun m D E f z F=>?_⟩
 ·refine(C.out p (by simp[g])).up fun c e u h=>keep c u (fun w=>UE ?_) h
  rw[<-w]
  exact Bb.mpr ⟨p,g,e⟩
 ·have j:Dc.BE (m++[.leaf v])=Dc.BE m:=by rw[Dc.Cc];simp[Dc.BE,Dc.addrs]
  refine C.ck (m++[.leaf v]) D (E.app (by simp[BU,Dc.val,Dc.Dx])) ⟨f.same,(Dc.Es _ _).mpr ⟨f.at_,by simp only[Dc.HU,Dc.At];exact⟨t,trivial⟩⟩,by rw[j];exact f.nd,by rw[j];exact f.own,by rw[j];exact f.new⟩ (fun c y=>?_) (fun b o A B h=>?_)
  ·rw[j]at y
   rw[l]
   rcases z c y with h|h
   ·left
    cases q:k c with
    |none=>rfl
    |some o=>
     have n:c≠L:=fun w=>by rw[w,s]at h;cases h
     rw[keep c o n q]at h
     cases h
   ·exact .inr h
  ·rw[l]at B
   exact F b o A B (keep b o A h)
def Hv (H:Hp) (Q:VK):Dc->Prop
 | .leaf v=>Q v H
 | .row _ xs=>∀p,H p=none->Q (.ref p) (upd H p (.lst (xs.map Dc.val)))
 | .tab _ ks xs=>∀p,H p=none->Q (.ref p) (upd H p (.dK (Dc.kvs ks xs)))
inductive OX (vs:List V) (H:Hp) (Q:VK) (a:XK):Prop
 |mk (d:Dc) (b:vs=[d.val]) (c:d.At H) (e:Hv H Q d):OX vs H Q a
def SD:Sp:=fun b H Q a=>OX b H Q a
inductive Lp (vs:List V) (H:Hp) (Q:VK) (a:XK):Prop
 |mk (d:Dc) (b:vs=[d.val]) (c:d.At H) (e:d.slim) (f:d.size<=900) (g:∀(d':Dc) (H':Hp),Jq H H' d'->Dc.Dx d d'->Q d'.val H'):Lp vs H Q a
def Js:Sp:=fun b H Q a=>Lp b H Q a
theorem Hv.of {j H:Hp} {Q:VK} {d:Dc} (s:AE j H) (h:d.At H) (k:∀f g,AE H g->FU j g f d->(∀a,f=.ref a->H a=none)->Q f g):Hv H Q d:=by
 cases d with
 |leaf v=>
  refine k v H (AE.refl H) ⟨rfl,h⟩ fun a e=>?_
  rcases(show Dc.Lf v from h)with⟨i,rfl⟩|⟨x,rfl,_⟩<;>cases e
 |row b l=>exact fun p c=>k _ _ (AE.new c) ⟨p,rfl,AF,s.free c⟩ fun a e=>by cases e;exact c
 |tab b m l=>exact fun p c=>k _ _ (AE.new c) ⟨p,rfl,AF,s.free c⟩ fun a e=>by cases e;exact c
def EO (ks:List Str) (vs:List V):List (Key×V):=(ks.zip vs).map fun p=>(Sum.inr p.1,p.2)
theorem OY (ks:List Str) (xs:List Dc):Dc.kvs ks xs=EO ks (xs.map Dc.val):=rfl
theorem WK {ks:List Str} {vs:List V} (h:ks.length=vs.length):(EO ks vs).length=ks.length:=by
 unfold EO
 rw[List.length_map,List.length_zip]
 lia
theorem Jt:∀{ks:List Str} {vs:List V} {j:Nat} {k:Str},ks.length=vs.length->ks.Nodup->ks[j]?=some k->BM (EO ks vs) (Sum.inr k)=vs[j]?
 |[],_,_,_,_,_,h=>by simp at h
 |y::r,[],_,_,h,_,_=>by simp at h
 |y::r,v::vs,0,k,_,_,h=>by
  simp at h
  subst h
  exact Bl rfl
 |y::r,v::vs,j+1,k,hl,nd,h=>by
  obtain⟨b,c⟩:=List.nodup_cons.mp nd
  have a:r[j]?=some k:=by simpa using h
  have d:¬(Sum.inr y:Key)=Sum.inr k:=fun z=>b (by rw[Sum.inr.inj z];exact AGV a)
  show BM ((Sum.inr y,v)::EO r vs) (Sum.inr k)=_
  rw[Bm d,Jt (by simpa using hl) c a]
  simp
theorem WL {ks:List Str} {vs:List V} {j:Nat} {k:Str} (hl:ks.length=vs.length) (nd:ks.Nodup) (h:ks[j]?=some k) (c:V):putK (EO ks vs) (Sum.inr k) c=EO ks (vs.set j c):=by
 have e:j<vs.length:=by rw[<-hl];exact(AGT h).1
 have f:BM (EO ks vs) (Sum.inr k)=some vs[j]:=by rw[Jt hl nd h,AGS e]
 unfold putK
 rw[if_pos (by rw[Ct,f];rfl)]
 have gen:∀(ks:List Str) (vs:List V) (j:Nat),ks.length=vs.length->ks.Nodup->ks[j]?=some k->(EO ks vs).map (fun a=>if a.1=Sum.inr k then(a.1,c)else a)=EO ks (vs.set j c):=by
  intro ks
  induction ks with
  |nil=>intro vs j _ _ h;simp at h
  |cons y r g=>
   intro vs j hl nd h
   cases vs with
   |nil=>simp at hl
   |cons v vs=>
    obtain⟨b,i⟩:=List.nodup_cons.mp nd
    cases j with
    |zero=>
     simp at h
     subst h
     have l:(EO r vs).map (fun a=>if a.1=Sum.inr y then(a.1,c)else a)=EO r vs:=by
      have:∀p∈EO r vs,(fun a:Key×V=>if a.1=Sum.inr y then(a.1,c)else a) p=id p:=fun p m=>by
       obtain⟨q,n,rfl⟩:=List.mem_map.mp m
       have o:q.1∈r:=(List.of_mem_zip n).1
       exact if_neg fun z=>b (by rw[<-Sum.inr.inj z];exact o)
      rw[List.map_congr_left this,List.map_id]
     show(if(Sum.inr y:Key)=Sum.inr y then(Sum.inr y,c)else(Sum.inr y,v))::(EO r vs).map _=(Sum.inr y,c)::EO r vs
     rw[if_pos rfl,l]
    |succ j=>
     have d:r[j]?=some k:=by simpa using h
     have s:¬(Sum.inr y:Key)=Sum.inr k:=fun z=>b (by rw[Sum.inr.inj z];exact AGV d)
     show(if(Sum.inr y:Key)=Sum.inr k then(Sum.inr y,c)else(Sum.inr y,v))::(EO r vs).map _=(Sum.inr y,v)::EO r (vs.set j c)
     rw[if_neg s,g vs j (by simpa using hl) i d]
 exact gen ks vs j hl nd h
theorem reorder {ks ss:List Str} {ec:List Dc} (p:ss.Perm ks) (nd:ss.Nodup) (l:ec.length=ss.length):∃a:List Dc,a.Perm ec/\a.length=ks.length/\∀(j t:Nat) k,ks[j]?=some k->ss[t]?=some k->a[j]?=ec[t]?:=by
 have c:∀k∈ks,∃x,(ss.zip ec).lookup k=some x:=fun k q=>let⟨x,h,_⟩:=Dc.LF l.symm (p.mem_iff.mpr q);⟨x,h⟩
 have gen:∀ks:List Str,(∀k∈ks,∃x,(ss.zip ec).lookup k=some x)->∃a:List Dc,a.map some=ks.map fun k=>(ss.zip ec).lookup k:=by
  intro ks
  induction ks with
  |nil=>exact fun _=>⟨[],rfl⟩
  |cons k r s=>
   intro h
   obtain⟨x,u⟩:=h k List.mem_cons_self
   obtain⟨a,d⟩:=s fun v e=>h v (List.mem_cons_of_mem _ e)
   exact⟨x::a,by simp[d,u]⟩
 obtain⟨a,f⟩:=gen ks c
 have b:ec.map some=ss.map fun k=>(ss.zip ec).lookup k:=by
  refine List.ext_getElem? fun i=>?_
  rw[List.getElem?_map,List.getElem?_map]
  cases g:ss[i]? with
  |none=>
   have:ec[i]?=none:=List.getElem?_eq_none_iff.mpr (by rw[l];exact List.getElem?_eq_none_iff.mp g)
   rw[this]
   rfl
  |some k=>
   have m:i<ec.length:=by rw[l];exact(AGT g).1
   rw[AGS m]
   show some (some ec[i])=some ((ss.zip ec).lookup k)
   rw[Dc.WG ss ec i nd g (AGS m)]
 refine⟨a,?_,?_,fun j t k w d=>?_⟩
 ·have y:(a.map some).Perm (ec.map some):=by rw[f,b];exact(p.map _).symm
  have A:=y.filterMap id
  simpa using A
 ·have:=congrArg List.length f
  simpa using this
 ·have n:=congrArg (fun z=>z[j]?) f
  simp only[List.getElem?_map,w]at n
  have o:=congrArg (fun z=>z[t]?) b
  simp only[List.getElem?_map,d]at o
  have B:a[j]?.map some=ec[t]?.map some:=n.trans o.symm
  cases C:a[j]?<;>cases D:ec[t]?<;>simp_all
theorem OZ {xs ys:List Dc} (p:xs.Perm ys):(Dc.BE xs).Perm (Dc.BE ys):=by
 induction p with
 |nil=>exact .refl _
 |cons x _ a=>simp only[Dc.BE];exact a.append_left _
 |swap x y l=>
  simp only[Dc.BE,<-List.append_assoc]
  exact(List.perm_append_comm).append_right _
 |trans _ _ b c=>exact b.trans c
theorem WM {H:Hp} {xs ys:List Dc} (p:xs.Perm ys) (h:Dc.HU H ys):Dc.HU H xs:=by
 have gen:∀l:List Dc,(∀x∈l,x.At H)->Dc.HU H l:=by
  intro l
  induction l with
  |nil=>intro _;trivial
  |cons x r a=>intro h;simp only[Dc.HU];exact⟨h x List.mem_cons_self,a fun y b=>h y (List.mem_cons_of_mem _ b)⟩
 exact gen xs fun x c=>Dc.Fj h x (p.mem_iff.mp c)
theorem Oa:∀{xs ys:List Dc},xs.length=ys.length->(∀(i:Nat) x y,xs[i]?=some x->ys[i]?=some y->Dc.Dx x y)->Dc.Cy xs ys
 |[],[],_,_=>by simp[Dc.Cy]
 |[],_::_,h,_=>by simp at h
 |_::_,[],h,_=>by simp at h
 |x::r,y::t,h,k=>by
  simp only[Dc.Cy]
  exact⟨k 0 x y rfl rfl,Oa (by simpa using h) fun i a b c d=>k (i+1) a b (by simpa using c) (by simpa using d)⟩
theorem UG {H b:Hp} {d:Dc} {a:V} (c:d.At H) (o:FU H b a d) {L:Addr} (e:a=.ref L):b L≠none:=(FU.root (p:=(a,d)) o e).1
theorem Gu {b:List V} {xs:List Dc} {c:V} {x:Dc} {i:Nat} (l:b.length=i) (a:xs[i]?=some x):(b++[c]).zip xs=b.zip xs++[(c,x)]:=by
 induction b generalizing xs i with
 |nil=>
  cases xs with
  |nil=>simp at a
  |cons y t=>
   simp at l
   subst l
   simp at a
   subst a
   simp
 |cons z r d=>
  cases xs with
  |nil=>simp at a
  |cons y t=>
   cases i with
   |zero=>simp at l
   |succ i=>
    simp only[List.cons_append,List.zip_cons_cons]
    rw[d (by simpa using l) (by simpa using a)]
namespace Dc
inductive Eqv:Dc->Dc->Prop where
 |leaf (v:V):Eqv (leaf v) (leaf v)
 |row {a b:Addr} {xs ys:List Dc} (l:xs.length=ys.length) (h:∀(i:Nat) x y,xs[i]?=some x->ys[i]?=some y->Eqv x y):Eqv (row a xs) (row b ys)
 |tab {a b:Addr} {ks ls:List Str} {xs ys:List Dc} (p:ks.Perm ls) (h:∀k x y,(ks.zip xs).lookup k=some x->(ls.zip ys).lookup k=some y->Eqv x y):Eqv (tab a ks xs) (tab b ls ys)
theorem ir {ks:List Str}:∀{xs ys:List Dc},Cy xs ys->∀{k:Str} {x y:Dc},(ks.zip xs).lookup k=some x->(ks.zip ys).lookup k=some y->∃i:Nat,xs[i]?=some x/\ys[i]?=some y:=by
 induction ks with
 |nil=>intro xs ys _ k x y h;simp at h
 |cons z r d=>
  intro xs ys c k x y a b
  cases xs with
  |nil=>simp at a
  |cons j xs=>
   cases ys with
   |nil=>simp at b
   |cons l ys=>
    simp only[Cy]at c
    simp only[List.zip_cons_cons,List.lookup_cons]at a b
    by_cases e:k=z
    ·subst e
     simp at a b
     exact⟨0,by simp[a],by simp[b]⟩
    ·have:(k==z)=false:=by simpa using e
     rw[this]at a b
     obtain⟨i,f,g⟩:=d c.2 a b
     exact⟨i+1,by simpa using f,by simpa using g⟩
inductive Wf:Dc->Prop where
 |leaf (v:V):Wf (leaf v)
 |row {a:Addr} {xs:List Dc} (h:∀x∈xs,Wf x):Wf (row a xs)
 |tab {a:Addr} {ks:List Str} {xs:List Dc} (l:ks.length=xs.length) (n:ks.Nodup) (h:∀x∈xs,Wf x):Wf (tab a ks xs)
def ix (ks:List Str) (k:Str):Nat:=ks.findIdx (·==k)
def Yk:Dc->List V->Dc->Dc
 |_,[],n=>n
 |row a xs,.int i::r,n=>row a (match xs[i.toNat]? with|some x=>xs.set i.toNat (Yk x r n)|none=>xs)
 |tab a ks xs,.str k::r,n=>tab a ks (match xs[ix ks k]? with|some x=>xs.set (ix ks k) (Yk x r n)|none=>xs)
 |d,_::_,_=>d
def room:Dc->V->Bool
 |row _ xs,.int i=>decide (0<=i)&&decide (i<=(xs.length:Int))
 |tab _ ks _,.str k=> !ks.contains k
 |_,_=>false
def pQ:Dc->V->Dc->Dc
 |row a xs,.int i,v=>row a (xs.take i.toNat++v::xs.drop i.toNat)
 |tab a ks xs,.str k,v=>tab a (ks++[k]) (xs++[v])
 |d,_,_=>d
def pU:Dc->V->Dc
 |row a xs,.int i=>row a (xs.eraseIdx i.toNat)
 |tab a ks xs,.str k=>tab a (ks.eraseIdx (ix ks k)) (xs.eraseIdx (ix ks k))
 |d,_=>d
end Dc
namespace Dc
end Dc
namespace Dc
end Dc
inductive WN (vs:List V) (H:Hp) (Q:VK) (a:XK):Prop
 |mk (d:Dc) (z:V) (b:vs=[d.val,z]) (c:d.At H) (e:Dc.FH z) (f:Q (.bl (d.sub [z]).isSome) H):WN vs H Q a
inductive WO (vs:List V) (H:Hp) (Q:VK) (a:XK):Prop
 |mk (d:Dc) (t:Addr) (xs:List V) (e:Dc) (b:vs=[d.val,.ref t]) (c:d.At H) (f:H t=some (.tup xs)) (g:(∀z∈xs,Dc.FH z)) (h:d.sub xs=some e) (i:Q e.val H):WO vs H Q a
inductive UH (vs:List V) (H:Hp) (Q:VK) (a:XK):Prop
 |mk (d:Dc) (t:Addr) (us:List V) (b:V) (e:Dc) (c:vs=[d.val,.ref t]) (f:d.At H) (g:H t=some (.tup (us++[b]))) (h:(∀z∈us++[b],Dc.FH z)) (i:d.sub us=some e) (j:∀H',AE H H'->Q e.val H'):UH vs H Q a
inductive Yl (vs:List V) (H:Hp) (Q:VK) (a:XK):Prop
 |mk (d:Dc) (t:Addr) (us:List V) (b:V) (e:Dc) (x:Dc) (c:vs=[d.val,.ref t]) (f:d.At H) (g:H t=some (.tup (us++[b]))) (h:(∀z∈us++[b],Dc.FH z)) (i:d.sub us=some e) (j:e.sub [b]=some x) (k:∀H',AE H H'->Q e.val H'):Yl vs H Q a
inductive Ym (vs:List V) (H:Hp) (Q:VK) (a:XK):Prop
 |mk (d:Dc) (z:V) (b:vs=[d.val,z]) (c:d.At H) (e:Dc.FH z) (f:Q (.bl (d.room z)) H):Ym vs H Q a
inductive cm (vs:List V) (H:Hp) (Q:VK) (b:XK):Prop
 |mk (d:Dc) (v:Dc) (t:Addr) (us:List V) (a:V) (e:Dc) (g:vs=[d.val,.ref t,v.val]) (h:d.At H) (i:d.slim) (j:d.size<=800) (k:v.At H) (l:v.slim) (m:v.size<=900) (n:H t=some (.tup (us++[a]))) (o:(∀z∈us++[a],Dc.FH z)) (p:d.sub us=some e) (c:e.room a=true) (f:∀(d':Dc) (H':Hp),Jq H H' d'->Dc.Eqv (d.Yk us (e.pQ a v)) d'->Q d'.val H'):cm vs H Q b
inductive WQ (vs:List V) (H:Hp) (Q:VK) (b:XK):Prop
 |mk (d:Dc) (t:Addr) (us:List V) (a:V) (e:Dc) (x:Dc) (f:vs=[d.val,.ref t]) (g:d.At H) (h:d.slim) (i:d.size<=900) (j:H t=some (.tup (us++[a]))) (k:(∀z∈us++[a],Dc.FH z)) (l:d.sub us=some e) (m:e.sub [a]=some x) (n:∀(q:Addr) (d' c:Dc) (H':Hp),Jr H H' [d',c]->H' q=some (.tup [d'.val,c.val])->Dc.Eqv (d.Yk us (e.pU a)) d'->Dc.Eqv x c->Q (.ref q) H'):WQ vs H Q b
inductive WR (vs:List V) (H:Hp) (Q:VK) (a:XK):Prop
 |mk (c:Int) (k:Nat) (b:vs=[.int c,.int (k:Int)]) (d:k<=1000) (e:∀v H',Rt v->AE H H'->Q v H'):WR vs H Q a
inductive UI (vs:List V) (H:Hp) (Q:VK) (a:XK):Prop
 |mk (c:Int) (b:vs=[.int c]) (d:∀(p:Addr) (ys:List Str) (H':Hp),AE H H'->H p=none->H' p=some (.lst (ys.map V.str))->ys.length=6->ys.Nodup->(∀y∈ys,Cb y=true)->Q (.ref p) H'):UI vs H Q a
section
variable{X:Cx} {CX:Tj} {k:Nat} {f:Addr} {fd:FuncData} {ps:List Str} {ds:List Value} {YJ:List V} {sp:Sp} {E:XK} {x:Str} {p pos:Pos} {e:Expr} {es:List Expr} {t:TA} {tf:TE}
theorem Ju (i:PE X (.Name x p) tf) (F:BH X.prog X.w X.K X.mg X.base CX k f fd ps sp) (j:Ao k X.A) (l:PySem.W.keepIn X.K (.ref f)=true) (m:Binds X.K fd ps ds) (n:Vals YJ ds) (o:Passes CX X E)
  (y:PA X (e::es) t) (z:starEach (e::es) X.env=(false,eval e X.env)::starEach es X.env:=by rfl) (b:(backTo pos (starEach es X.env)).any (·.1)=false:=by rfl):
  PE X (.Call (.Name x p) (e::es) [] pos) (fun a H Q=>tf a H fun v c=>v=.ref f/\Ri sp YJ E t a c Q):=by
 intro pins s a H Q I h
 refine wpAny_Call_Name_kw (BS (i pins s a H _ I h) fun u B ⟨v,C,d,D,G,q⟩=>?_)
 subst G
 cases(show u=Value.ref f from D)
 refine PySem.W.callWith_K (h₀:=X.base) d.ok.mod.mD l (BS (y pos pins B a C _ d q) fun L M J=>J.elim fun N c g r q=>⟨g.Ky,?_⟩) z b
 exact VP F j m n o g r q
end
inductive Ob (b:Addr) (vs:List V) (H:Hp) (Q:VK) (a:XK):Prop
 |mk (d:Dc) (c:vs=[d.val,.ref b]) (e:d.At H) (f:d.slim) (g:d.size<=900) (h:∀(p:Addr) (ws:List Dc) (H':Hp),AE H H'->H p=none->H' p=some (.lst (ws.map Dc.val))->ws.length=d.size->Q (.ref p) H'):Ob b vs H Q a
inductive cn (K:AGW) (H:Hp):Nat->V->V->Prop
 |flat {n:Nat} {x y:V} (f:DZ x=true) (g:DZ y=true) (e:Tp x y=true):cn K H n x y
 |same {n:Nat} {a:Addr}:cn K H n (.ref a) (.ref a)
 |lst {n:Nat} {a b:Addr} {xs ys:List V} (c:An K H a xs) (d:An K H b ys) (l:xs.length=ys.length) (h:∀(i:Nat) u v,xs[i]?=some u->ys[i]?=some v->cn K H n u v):cn K H (n+1) (.ref a) (.ref b)
 |tup {n:Nat} {a b:Addr} {xs ys:List V} (c:Bf K H a xs) (d:Bf K H b ys) (l:xs.length=ys.length) (h:∀(i:Nat) u v,xs[i]?=some u->ys[i]?=some v->cn K H n u v):cn K H (n+1) (.ref a) (.ref b)
inductive Yn (K:AGW) (H:Hp) (n:Nat):List V->List V->Prop
 |nil:Yn K H n [] []
 |cons {x y:V} {xs ys:List V} (h:cn K H n x y) (t:Yn K H n xs ys):Yn K H n (x::xs) (y::ys)
section
variable{X:Cx} {pins:List (Addr×Obj)} {σ:St} {H:Hp} {s:Shared}
theorem WS {its:List Value} {j:Nat} {u:Value} (g:its[j]?=some u) (h:j<its.toArray.size):its.toArray[j]=u:=by
 have:=(AGT g).2
 simpa using this
theorem Yo {xs:List V} {its:List Value} (r:Vals xs its) {j:Nat} (h:j<its.toArray.size):∃x,xs[j]?=some x/\RelV x its.toArray[j]:=by
 have e:its.toArray.size=xs.length:=by rw[List.size_toArray];exact r.length.symm
 have a:j<xs.length:=by rw[<-e];exact h
 obtain⟨u,g,b⟩:=r.get (AGS a)
 exact⟨_,AGS a,by rw[WS g h];exact b⟩
inductive pV (K:AGW) (c:Bool) (x y:V) (H:Hp) (Q:VK):Prop
 |mk (a b:Addr) (xs ys:List V) (d:x=.ref a) (e:y=.ref b) (f:An K H a xs) (g:An K H b ys) (h:Yn K H 20 xs ys) (q:Q (.bl c) H):pV K c x y H Q
end
def pW:Key->PyData
 | .inl i=>.int i
 | .inr x=>.str x
mutual
inductive Iy (H:Hp):V->PyData->Prop
 |Av:Iy H .Av .none
 |bl (b:Bool):Iy H (.bl b) (.bool b)
 |int (i:Int):Iy H (.int i) (.int i)
 |str (x:Str):Iy H (.str x) (.str x)
 |lst {a:Addr} {xs:List V} {c:List PyData} (h:Rd H a (.lst xs)) (r:Eu H xs c):Iy H (.ref a) (.list c)
 |tup {a:Addr} {xs:List V} {c:List PyData} (h:H a=some (.tup xs)) (r:Eu H xs c):Iy H (.ref a) (.tuple c)
 |BX {a:Addr} {kvs:List (Key×V)} {c:List PyData} (h:Rd H a (.dK kvs)) (r:Eu H (kvs.map (·.2)) c):Iy H (.ref a) (.dict ((kvs.map fun p=>pW p.1).zip c))
 |oth {v:V} {d:PyData} (r:∀H',AE H H'->∀(P:Program) (w:World) (h:Heap),F' P w H' h->∀u,RelV v u->∃as,Reads h u d as/\∀b∈as,∃o,H' b=some o):Iy H v d
inductive Eu (H:Hp):List V->List PyData->Prop
 |nil:Eu H [] []
 |cons {x:V} {d:PyData} {xs:List V} {a:List PyData} (h:Iy H x d) (t:Eu H xs a):Eu H (x::xs) (d::a)
end
theorem Yp {a:Type} {kvs:List (a×V)} {vs:List (a×Value)} (r:KV kvs vs):Vals (kvs.map (·.2)) (vs.map (·.2)):=by
 unfold KV at r
 induction r with
 |nil=>exact .nil
 |cons h _ b=>exact .cons h.2 b
inductive cq (xs:List V) (H:Hp) (Q:VK):Prop
 |mk (a:Addr) (d:PyData) (e:xs=[.ref a]) (h:Iy H (.ref a) d) (s:d.showable=true) (z:d.shown.length<=sizeLine) (dp:d.depth<=150) (q:Q (.str d.shown) H):cq xs H Q
theorem Bo {x:V} {r:List V}:Ja (x::r) 0=some x:=BA (j:=0) rfl
theorem CI {x y:V} {r:List V}:Ja (x::y::r) 1=some y:=BA (j:=1) rfl
theorem at2 {x y z:V} {r:List V}:Ja (x::y::z::r) 2=some z:=BA (j:=2) rfl
theorem Bj {c:Bool} {A B:Prop} (a:c=true->A) (b:c=false->B):if c=true then A else B:=by
 cases c with
 |true=>exact Cr (a rfl)
 |false=>exact BK (b rfl)
theorem Ew {t u:TS} {D:Ends} {b:St} {H:Hp} (R:St->Hp->Prop) (k:∀a H',R a H'->u D a H') (h:(∀a H',R a H'->u D a H')->t {D with nx:=u D} b H):QF t u D b H:=h k
def plc:V->Bool
 | .str _=>false
 |_=>true
def cu (zs xs:List V):List V:=
 match zs[xs.length-1]?,xs.getLast? with
 |some (.int i),some (.int j)=>if Vn (zs.take (xs.length-1)) xs.dropLast=true/\(j<i∨(i=j/\xs.length<zs.length))then zs.set (xs.length-1) (.int (i+1))else zs
 |_,_=>zs
def pX (w:Str) (xs zs:List V):List V:=if w="copy"then zs else if w="move"then cu zs xs else xs
def steps (xs:List V):Prop:=∀z∈xs,Dc.FH z
def cv:List Str:=["put","take","move","copy","change","ask","has","lacks","is"]
structure Rw (H:Hp) (r:V) (w:Str) (xs zs:List V) (p:Addr):Prop where
 ex:∃(a:Addr) (rest:List V),r=.ref a/\H a=some (.tup (.str w::.ref p::rest))/\(w="copy"∨w="move"->∃p2,rest=[.ref p2]/\H p2=some (.tup zs))
 hp:H p=some (.tup xs)
 sx:steps xs
 sz:steps zs
 lx:xs.length<=100
 lz:zs.length<=100
 wd:w∈cv
 nx:w="put"∨w="lacks"∨w="take"∨w="move"->xs≠[]
 nz:w="copy"∨w="move"->zs≠[]
def Qh (H:Hp) (v:V) (ys:List V):Prop:=∃(t h:Addr) (l:V),v=.ref t/\H t=some (.tup [.ref h,l])/\H h=some (.tup ys.dropLast)/\ys.getLast?=some l
def Yq:List Str:=["put","copy","move"]
def Yr:List Str:=["take","change","move","copy","ask","has","is"]
abbrev WT:List V:=Yq.map V.str
abbrev cw:List V:=Yr.map V.str
theorem Dy (w:Str):∀ws:List Str,Nu (.str w) (ws.map V.str)=decide (w∈ws)
 |[]=>by simp[Nu]
 |x::ws=>by
  have a:=Dy w ws
  simp only[Nu,List.map_cons,List.any_cons]at a⊢
  rw[a]
  by_cases e:w=x
  ·subst e;simp[Tp]
  ·have b:¬x=w:=fun z=>e z.symm
   simp[Tp,e,b]
def Jv:List Value->List Str->Bool
 |[],[]=>true
 | .str x _::us,y::ys=>x==y&&Jv us ys
 |_,_=>false
def Ys (K:AGW) (a:Addr) (ws:List Str):Bool:=match K.lookup a with
 |some o=>o.cls==.type "tuple"&&(match o.data with
  | .seq b _=>decide (b.size<=1000)&&Jv b.toList ws
  |_=>false)
 |none=>false
theorem Lq:∀{us:List Value} {ws:List Str},Jv us ws=true->Vals (ws.map V.str) us
 |[],[],_=>.nil
 |[],_::_,h=>by simp[Jv]at h
 |u::us,[],h=>by cases u<;>simp[Jv]at h
 |u::us,y::ys,h=>by
  cases u with
  |str x t=>
   simp only[Jv,Bool.and_eq_true,beq_iff_eq]at h
   obtain⟨rfl,h⟩:=h
   exact .cons ⟨t,rfl⟩ (Lq h)
  |_=>simp[Jv]at h
theorem Bf.ofK {K:AGW} {a:Addr} {ws:List Str} (h:Ys K a ws=true) (H:Hp):Bf K H a (ws.map V.str):=by
 unfold Ys at h
 split at h
 ·rename_i o lk
  simp only[Bool.and_eq_true,beq_iff_eq]at h
  obtain⟨c,h⟩:=h
  split at h
  ·rename_i b n d
   simp only[Bool.and_eq_true,decide_eq_true_eq]at h
   exact .inr ⟨o,b,n,lk,c,d,Ah h.1,Lq h.2⟩
  ·cases h
 ·cases h
def AB' (H:Hp) (v:V) (w:Str) (xs zs:List V):Prop:=if Nu (.str w) WT then Qh H v (pX w xs zs)else v=.Av
inductive Mm (H:Hp):List Addr->List (List V)->Prop
 |nil:Mm H [] []
 |cons {a:Addr} {xs:List V} {as:List Addr} {b:List (List V)} (h:H a=some (.tup xs)) (t:Mm H as b):Mm H (a::as) (xs::b)
def nA (w:Str) (xs:List V):List (List V):=if Nu (.str w) cw then[xs]else[]
def nB (w:Str) (xs:List V):List (List V):=if w="lacks"then[xs.dropLast]else[]
structure Nd (H H':Hp) (l:Addr) (ps:List Addr) (xss:List (List V)):Prop where
 same:AE H H'
 nl:H l=none
 hl:H' l=some (.lst (ps.map V.ref))
 tu:Mm H' ps xss
def AB1 (H:Hp) (v:V) (w:Str) (xs zs:List V):Prop:=if w="lacks"then Qh H v xs else if Nu (.str w) WT=true/\plc ((pX w xs zs).getLastD .Av)=false then Qh H v (pX w xs zs)else v=.Av
def NoT (H:Hp) (v:V):Prop:=v=.Av∨∃(a:Addr) (b:List V),v=.ref a/\H a=some (.tup b)
def low (xs:List V):Prop:=∀z∈xs,∀i:Int,z=.int i->i.natAbs<1000
def mQ (H:Hp) (vs:List V):Prop:=∀v∈vs,∃(p:Addr) (a:List V),v=.ref p/\H p=some (.tup a)/\steps a/\a≠[]/\a.length<=20/\low a
def zW (H:Hp) (v:V):Prop:=∃d:PyData,Iy H v d/\d.showable=true/\d.shown.length<=sizeLine/\d.depth<=100
def AB2 (H:Hp) (v:V) (b n:Nat):Prop:=∃D:PyData,Iy H v D/\D.showable=true/\D.leavesShort 2000=true/\D.bulk<=b/\D.depth<=n
def AB3 (H:Hp) (xs:List V) (b n:Nat):Prop:=∃a:List PyData,Eu H xs a/\PyData.showableAll a=true/\PyData.leavesShortAll 2000 a=true/\PyData.bulkAll a<=b/\PyData.depthAll a<=n
section
variable{prog:Program} {w:World} {A:Around} {E:Value->Shared->Prop} {s:Shared}
abbrev UJ (h:Heap) (z TI TO T:Addr) (f:Bool):Prop:=
 h.get? z=some {cls:=.type "zip",dict:=none,data:=.fields #[rawInt T,.bool f,.bool false,.ref TI,.ref TO],slots:= #[]}
theorem Oc {z TI TO T:Addr} {f:Bool} {g:Obj} {Q:Bool->Shared->Prop} (d:UJ s.heap z TI TO T f) (h:s.heap.get? T=some g)
  (e:∀h',UJ h' z TI TO T true->Heap.SameBut z s.heap h'->Q false {s with heap:=h'}):wpAny (model prog w) A (Builtin.SmallTypes.ownedTupleIsFree (.ref z)) Q E s:=by
 unfold Builtin.SmallTypes.ownedTupleIsFree
 refine wpAny_bind (wpAny_field d rfl (x:=rawInt T) rfl ?_)
 show wpAny _ _ (loadIfAlive ((T:Int).toNat)>>=_) _ _ _
 rw[Int.toNat_natCast]
 refine wpAny_bind (PySem.W.kdx_alive h ?_)
 show wpAny _ _ (field (.ref z) 1>>=_) _ _ _
 refine wpAny_bind (wpAny_field d rfl (x:=.bool f) rfl ?_)
 cases f with
 |true=>
  show wpAny _ _ (pure false) _ _ _
  exact wpAny_pure (e s.heap d (Heap.SameBut.refl _ _))
 |false=>
  show wpAny _ _ (setField (.ref z) 1 (.bool true)>>=_) _ _ _
  exact wpAny_bind (wpAny_setField_rec d (by simp) fun c a b=>wpAny_pure (e c a b))
theorem LH {z TI TO h i l1 l2 T:Addr} {f:Bool} {B:Obj} {k1 k2:Nat} {xs ys:Array Value} {x y:Value} {Q:Value->Shared->Prop} (D:ZipApart z TI TO h i l1 l2)
  (n:UJ s.heap z TI TO T f) (C:s.heap.get? T=some B) (p:IsPair s.heap TI (.ref h) (.ref i))
  (F:s.heap.IsListIter h l1 k1) (G:s.heap.IsListIter i l2 k2) (q:s.heap.IsList l1 xs) (r:s.heap.IsList l2 ys) (H:xs[k1]?=some x) (I:ys[k2]?=some y)
  (J:∀h',UJ h' z TI TO T true->h'.IsListIter h l1 (k1+1)->h'.IsListIter i l2 (k2+1)->IsPair h' s.heap.objs.size x y->h'.objs.size=s.heap.objs.size+1->
   (∀c o,c≠z->c≠h->c≠i->s.heap.get? c=some o->h'.get? c=some o)->Q (.ref s.heap.objs.size) {s with heap:=h'}):
  wpAny (model prog w) A (Builtin.«zip.__next__» ⟨[.ref z],[]⟩) (fun fin K=>∃v,fin=.done (.ret v)/\Q v K) E s:=by
 show wpAny _ _ (field (.ref z) 2>>=_) _ _ _
 refine wpAny_bind (wpAny_field n rfl (x:=.bool false) rfl ?_)
 show wpAny _ _ (field (.ref z) 3>>=_) _ _ _
 refine wpAny_bind (wpAny_field n rfl (x:=.ref TI) rfl ?_)
 refine wpAny_bind (wpAny_seqItems p rfl ?_)
 show wpAny _ _ (Builtin.SmallTypes.ownedTupleIsFree (.ref z)>>=_) _ _ _
 refine wpAny_bind (Oc n C fun t j a=>?_)
 simp only[Bool.false_eq_true,if_false]
 refine wpAny_bind ?_
 rw[<-Array.forIn_toList]
 show wpAny _ _ (forIn [Value.ref h,Value.ref i] _ _) _ _ _
 rw[List.forIn_cons]
 refine wpAny_bind (wpAny_bind (wpAny_holding ?_))
 show wpAny _ _ (Builtin.SmallTypes.nextOf (.ref h)>>=_) _ _ _
 refine wpAny_bind (wpAny_nextOf_list_item (F.extBut a.extBut D.i1z) (q.extBut a.extBut D.l1z) H fun u k b=>wpAny_pure ?_)
 refine wpAny_pure ?_
 dsimp only
 rw[List.forIn_cons]
 refine wpAny_bind (wpAny_bind (wpAny_holding ?_))
 show wpAny _ _ (Builtin.SmallTypes.nextOf (.ref i)>>=_) _ _ _
 refine wpAny_bind (wpAny_nextOf_list_item ((G.extBut a.extBut D.i2z).extBut b.extBut D.i12.symm) ((r.extBut a.extBut D.l2z).extBut b.extBut D.l2i1) I fun g l d=>wpAny_pure ?_)
 refine wpAny_pure ?_
 dsimp only
 rw[List.forIn_nil]
 refine wpAny_pure ?_
 show wpAny _ _ (newTuple [x,y]>>=_) _ _ _
 refine wpAny_bind (wpAny_newTuple ?_)
 have m:g.objs.size=s.heap.objs.size:=by rw[d.1,b.1,a.1]
 refine wpAny_pure ⟨_,rfl,?_⟩
 show Q (.ref g.objs.size) _
 rw[m]
 have up:∀c o,c≠z->c≠h->c≠i->s.heap.get? c=some o->(g.push {cls:=.type "tuple",data:=.seq #[x,y]}).get? c=some o:=fun c o c1 c2 c3 e=>
  Heap.get?_push_of_some _ (d.extBut _ _ c3 (b.extBut _ _ c2 (a.extBut _ _ c1 e)))
 refine J _ (Heap.get?_push_of_some _ (d.extBut _ _ D.i2z.symm (b.extBut _ _ D.i1z.symm j))) ((k.extBut d.extBut D.i12).at fun o e=>Heap.get?_push_of_some _ e) (l.at fun o e=>Heap.get?_push_of_some _ e) ?_ (by rw[Heap.size_push,m]) up
 have this:(g.push {cls:=.type "tuple",data:=.seq #[x,y]}).get? g.objs.size=some {cls:=.type "tuple",data:=.seq #[x,y]}:=Heap.get?_push_size _ rfl
 rw[m]at this
 exact this
theorem Mn {z TI TO d i l1 l2 T:Addr} {f:Bool} {p:Obj} {k1:Nat} {xs:Array Value} {Q:Fin->Shared->Prop} (q:A.handled=none) (D:ZipApart z TI TO d i l1 l2)
  (j:UJ s.heap z TI TO T f) (r:s.heap.get? T=some p) (k:IsPair s.heap TI (.ref d) (.ref i))
  (t:s.heap.IsListIter d l1 k1) (l:s.heap.IsList l1 xs) (g:xs[k1]?=none)
  (u:∀h' e,(∀c o,c≠z->c≠d->s.heap.get? c=some o->h'.get? c=some o)->(∃o,h'.get? e=some o/\o.cls=.type "StopIteration")->E (.ref e) {s with heap:=h'}):
  wpAny (model prog w) A (Builtin.«zip.__next__» ⟨[.ref z],[]⟩) Q E s:=by
 show wpAny _ _ (field (.ref z) 2>>=_) _ _ _
 refine wpAny_bind (wpAny_field j rfl (x:=.bool false) rfl ?_)
 show wpAny _ _ (field (.ref z) 3>>=_) _ _ _
 refine wpAny_bind (wpAny_field j rfl (x:=.ref TI) rfl ?_)
 refine wpAny_bind (wpAny_seqItems k rfl ?_)
 show wpAny _ _ (Builtin.SmallTypes.ownedTupleIsFree (.ref z)>>=_) _ _ _
 refine wpAny_bind (Oc j r fun n m a=>?_)
 simp only[Bool.false_eq_true,if_false]
 refine wpAny_bind ?_
 rw[<-Array.forIn_toList]
 show wpAny _ _ (forIn [Value.ref d,Value.ref i] _ _) _ _ _
 rw[List.forIn_cons]
 refine wpAny_bind (wpAny_bind (wpAny_holding ?_))
 show wpAny _ _ (Builtin.SmallTypes.nextOf (.ref d)>>=_) _ _ _
 refine wpAny_bind (wpAny_nextOf_list_end q (t.extBut a.extBut D.i1z) (l.extBut a.extBut D.l1z) g fun h e b v=>u h e (fun c o c1 c2 x=>b _ _ c2 (a.extBut _ _ c1 x)) v)
structure cx (h:Heap) (z TI TO i1 i2 l1 l2 S:Addr) (i:Nat) (xs ys:Array Value):Prop where
 st:(i=0/\IsZip h z TI TO .none/\∃a b,IsPair h TO a b)∨∃T f oT,UJ h z TI TO T f/\h.get? T=some oT/\T≠z/\T≠i1/\T≠i2/\T≠S
 ti:IsPair h TI (.ref i1) (.ref i2)
 h1:h.IsListIter i1 l1 i
 h2:h.IsListIter i2 l2 i
 L1:h.IsList l1 xs
 L2:h.IsList l2 ys
theorem cx.keep {h h':Heap} {z TI TO d g l1 l2 S:Addr} {i:Nat} {xs ys:Array Value} (x:cx h z TI TO d g l1 l2 S i xs ys) (c:∀b o,b≠S->h.get? b=some o->h'.get? b=some o) (n:z≠S/\TI≠S/\TO≠S/\d≠S/\g≠S/\l1≠S/\l2≠S):cx h' z TI TO d g l1 l2 S i xs ys:=by
 obtain⟨st,l,m,p,q,L2⟩:=x
 refine⟨?_,c _ _ n.2.1 l,m.at fun o e=>c _ o n.2.2.2.1 e,p.at fun o e=>c _ o n.2.2.2.2.1 e,q.at fun o e=>c _ o n.2.2.2.2.2.1 e,L2.at fun o e=>c _ o n.2.2.2.2.2.2 e⟩
 rcases st with⟨e,j,a,b,r⟩|⟨T,f,t,j,u,v,y,B,k⟩
 ·exact .inl ⟨e,c _ _ n.1 j,a,b,c _ _ n.2.2.1 r⟩
 ·exact .inr ⟨T,f,t,c _ _ n.1 j,c _ _ k u,v,y,B,k⟩
theorem WU {z TI TO g h l1 l2 S:Addr} {i:Nat} {xs ys:Array Value} {x y:Value} {Q:Option Value->Shared->Prop} (D:ZipApart z TI TO g h l1 l2) (st:cx s.heap z TI TO g h l1 l2 S i xs ys) (G:S<s.heap.objs.size) (q:xs[i]?=some x) (r:ys[i]?=some y)
  (t:∀h',cx h' z TI TO g h l1 l2 S (i+1) xs ys->IsPair h' s.heap.objs.size x y->h'.objs.size=s.heap.objs.size+1->(∀c o,c≠z->c≠TO->c≠g->c≠h->s.heap.get? c=some o->h'.get? c=some o)->Q (some (.ref s.heap.objs.size)) {s with heap:=h'}):
  wpAny (model prog w) A (pyNext (.ref z)) Q E s:=by
 obtain⟨st,l,n,p,m,L2⟩:=st
 have lt:∀{c o},s.heap.get? c=some o->s.heap.objs.size≠c:=fun e=>Nat.ne_of_gt (Heap.lt_size e)
 have H:s.heap.objs.size≠g:=by obtain⟨_,e,_⟩:=n;exact lt e
 have I:s.heap.objs.size≠h:=by obtain⟨_,e,_⟩:=p;exact lt e
 rcases st with⟨rfl,j,a,b,J⟩|⟨T,f,K,j,u,v,B,C,L⟩
 ·refine wpAny_pyNext_zip_item D j l J n p m L2 q r fun h' a1 a2 a3 a4 a5 a6 d=>?_
  exact t h' ⟨.inr ⟨s.heap.objs.size,false,_,a1,a5,lt j,H,I,Nat.ne_of_gt G⟩,d _ _ D.TIz D.TITO D.TIi1 D.TIi2 l,a3,a4,m.at fun o e=>d _ o D.l1z D.l1TO D.l1i1 D.l1i2 e,L2.at fun o e=>d _ o D.l2z D.l2TO D.l2i1 D.l2i2 e⟩ a5 a6 d
 ·have k:s.TypeIs (.ref z) "zip":=⟨_,j,rfl⟩
  unfold pyNext
  exact wpAny_bind (wpAny_attempt (wpAny_callSpecial?_slot (name:=Str.ofString "__next__") k F.slot_zip_next
   (wpAny_call_entry F.slot_zip_next k F.entry_zip_next
    (LH D j u l n p m L2 q r fun h' a1 a3 a4 a5 a6 d=>wpAny_pure (t h' ⟨.inr ⟨T,true,K,a1,d _ _ v B C u,v,B,C,L⟩,d _ _ D.TIz D.TIi1 D.TIi2 l,a3,a4,m.at fun o e=>d _ o D.l1z D.l1i1 D.l1i2 e,L2.at fun o e=>d _ o D.l2z D.l2i1 D.l2i2 e⟩ a5 a6 fun c o c1 _ c3 c4 e=>d c o c1 c3 c4 e)) (F.args_zip_next_1 _))))
theorem WV {z TI TO h j l1 l2 S:Addr} {i:Nat} {xs ys:Array Value} {Q:Option Value->Shared->Prop} (k:A.handled=none) (D:ZipApart z TI TO h j l1 l2) (st:cx s.heap z TI TO h j l1 l2 S i xs ys) (l:xs[i]?=none)
  (m:∀h',(∀c o,c≠z->c≠TO->c≠h->c≠j->s.heap.get? c=some o->h'.get? c=some o)->Q none {s with heap:=h'}):wpAny (model prog w) A (pyNext (.ref z)) Q E s:=by
 obtain⟨st,n,p,r,q,L2⟩:=st
 rcases st with⟨rfl,g,a,b,t⟩|⟨T,f,C,g,u,G,H,I,J⟩
 ·exact wpAny_pyNext_zip_end k D g n t p r q L2 (.inl l) m
 ·have d:s.TypeIs (.ref z) "zip":=⟨_,g,rfl⟩
  unfold pyNext
  refine wpAny_bind (wpAny_attempt (wpAny_callSpecial?_slot (name:=Str.ofString "__next__") d F.slot_zip_next
   (wpAny_call_entry F.slot_zip_next d F.entry_zip_next (Mn k D g u n p q l fun h' e v x=>?_) (F.args_zip_next_1 _))))
  obtain⟨o,y,B⟩:=x
  refine wpAny_bind (wpAny_isInstance (T:="StopIteration") (b:=true) ⟨o,y,B⟩ isSubtype_stop ?_)
  exact wpAny_pure (m _ fun c o c1 _ c3 _ e=>v c o c1 c3 e)
structure ZG (xs ys:Array Value) (lo:Addr) (h:Heap) (as:List Addr):Prop where
 rise:as.Pairwise (·<·)
 above:∀a∈as,lo<a
 there:∀a∈as,a<h.objs.size
 pairs:∀(j:Nat) (a:Addr),as[j]?=some a->∃x y,xs[j]?=some x/\ys[j]?=some y/\IsPair h a x y
end
section
variable{prog:Program} {w:World} {A:Around} {s:Shared} {R:Result->Shared->Prop} {xs ys:Array Value}
end
section
variable{prog:Program} {w:World} {A:Around} {E:Value->Shared->Prop} {s:Shared} {xs ys:Array Value}
end
section
variable{X:Cx} {pins:List (Addr×Obj)} {σ:St} {H:Hp} {s:Shared}
inductive rLZ (x y:V) (H:Hp) (Q:VK):Prop
 |mk (a b:Addr) (xs ys:List V) (c:x=.ref a) (d:y=.ref b) (e:H a=some (.lst xs)) (f:H b=some (.lst ys)) (l:xs.length=ys.length)
   (q:∀(p:Addr) (ts:List Addr) (H':Hp),AE H H'->H p=none->H' p=some (.lst (ts.map V.ref))->ts.length=xs.length->(∀(j:Nat) t x y,ts[j]?=some t->xs[j]?=some x->ys[j]?=some y->H' t=some (.tup [x,y]))->Q (.ref p) H'):rLZ x y H Q
end
theorem DS (b:Int) (u:Tok) (l:Addr) (c:Value) (e:Array DictEntry) (n:Nat) (f:Option Addr) (i:Array (Option Value)):
  Meets (Builtin.«int.__eq__» ⟨[.int b u,.ref l],[]⟩) (fun _ R s=>s.heap.get? l=some {cls:=c,dict:=f,data:=.dict e n,slots:=i}/\R (.ok (.ret .notImplemented)) s):=
 .of_wp fun prog w A R s h=>by obtain⟨j,g,d,k,os⟩:=s;obtain⟨a,h⟩:=h;wp_walk using wpAny_loadPart' a,wpAny_load a;exact⟨_,rfl,h⟩
theorem DU (b:Str) (u:Tok) (l:Addr) (c:Value) (e:Array DictEntry) (n:Nat) (f:Option Addr) (i:Array (Option Value)):
  Meets (Builtin.«str.__eq__» ⟨[.str b u,.ref l],[]⟩) (fun _ R s=>s.heap.get? l=some {cls:=c,dict:=f,data:=.dict e n,slots:=i}/\R (.ok (.ret .notImplemented)) s):=
 .of_wp fun prog w A R s h=>by obtain⟨j,g,d,k,os⟩:=s;obtain⟨a,h⟩:=h;wp_walk using wpAny_loadPart' a,wpAny_load a;exact⟨_,rfl,h⟩
section
variable{prog:Program} {w:World} {A:Around} {E:Value->Shared->Prop} {s:Shared}
theorem Bk {d:Addr} {v:Value} {T:String} {Q:Value->Shared->Prop} (c:s.TypeIs (.ref d) "dict") (e:s.TypeIs v T) (a:isSubtype (.type T) (.type "dict")=pure false) (h:Q .notImplemented s):
  wpAny (model prog w) A (call (.builtin "dict.__eq__") [.ref d,v]) Q E s:=by
 refine wpAny_call_entry PySem.F.slot_dict_eq c PySem.F.entry_dict_eq ?_ (PySem.F.args_dict_eq_2 _ _)
 show wpAny _ _ (Builtin.Dict.dictSlotArgs "__eq__" ⟨[.ref d,v],[]⟩>>=_) _ _ s
 refine wpAny_bind ?_
 unfold Builtin.Dict.dictSlotArgs
 refine wpAny_bind (wpAny_notOrdered_dict c ?_)
 show wpAny _ _ (pure (Value.ref d,v)) _ _ s
 refine wpAny_pure ?_
 refine wpAny_bind (wpAny_isInstance (T:=T) (b:=false) e a ?_)
 simp only[Bool.not_false,if_true]
 exact wpAny_bind (wpAny_rule (wpAny_pure ⟨_,rfl,h⟩))
theorem C' (l b:Addr) (items:Array Value) (e:Array DictEntry) (n f:Nat) (i a:Option Addr) (j c:Array (Option Value)):
  Meets (Builtin.«list.__eq__» ⟨[.ref l,.ref b],[]⟩) (fun _ R s=>s.heap.get? l=some {cls:=.type "list",dict:=i,data:=.seq items n,slots:=j}/\s.heap.get? b=some {cls:=.type "dict",dict:=a,data:=.dict e f,slots:=c}/\R (.ok (.ret .notImplemented)) s):=
 .of_wp fun prog w A R s h=>by obtain⟨o,g,d,p,os⟩:=s;obtain⟨k,m,h⟩:=h;have q:=F.sub_dict_list;wp_walk using wpAny_loadPart' k,wpAny_loadPart' m;exact⟨_,rfl,h⟩
structure IX (h:Heap) (b:Addr) (dd:Option Addr) (es:Array DictEntry) (n:Nat) (sl:Array (Option Value)):Prop where
 ho:h.get? b=some {cls:=.type "dict",dict:=dd,data:=.dict es n,slots:=sl}
theorem Od {b:Addr} {d:Option Addr} {e:Array DictEntry} {n:Nat} {f:Array (Option Value)} (i:Int) (u:Tok) (c:IX s.heap b d e n f) (g:A.units<cLine):SeqAt.RcAt A s (.int i u) (.ref b) false:=fun prog w E Q h=>
 SeqAt.rc_eq_decline_or (k:=false) (typeIs_int s i u) ⟨_,c.ho,rfl⟩ (by decide) F.sub_dict_int F.slot_int_eq F.slot_dict_eq_refl
  (fun _ a=>call_meets F.slot_int_eq (typeIs_int s i u) F.entry_int_eq (F.args_int_eq_2 _ _) (DS i u b (.type "dict") e n d f) ⟨c.ho,a⟩)
  (fun _ a=>Bk ⟨_,c.ho,rfl⟩ (typeIs_int s i u) F.sub_int_dict a)
  (fun _ a=>wpAny_of_eq (rfl:isSame (.int i u) (.ref b)=pure false) a) (.inr g) h
theorem Oe {b:Addr} {d:Option Addr} {e:Array DictEntry} {n:Nat} {f:Array (Option Value)} (i:Int) (u:Tok) (c:IX s.heap b d e n f) (g:A.units<cLine):SeqAt.RcAt A s (.ref b) (.int i u) false:=fun prog w E Q h=>
 SeqAt.rc_eq_decline_or (k:=false) ⟨_,c.ho,rfl⟩ (typeIs_int s i u) (by decide) F.sub_int_dict F.slot_dict_eq F.slot_int_eq_refl
  (fun _ a=>Bk ⟨_,c.ho,rfl⟩ (typeIs_int s i u) F.sub_int_dict a)
  (fun _ a=>call_meets F.slot_int_eq_refl (typeIs_int s i u) F.entry_int_eq (F.args_int_eq_2 _ _) (DS i u b (.type "dict") e n d f) ⟨c.ho,a⟩)
  (fun _ a=>wpAny_of_eq (rfl:isSame (.ref b) (.int i u)=pure false) a) (.inr g) h
theorem Of {b:Addr} {d:Option Addr} {e:Array DictEntry} {n:Nat} {f:Array (Option Value)} (x:Str) (u:Tok) (c:IX s.heap b d e n f) (g:A.units<cLine):SeqAt.RcAt A s (.str x u) (.ref b) false:=fun prog w E Q h=>
 SeqAt.rc_eq_decline_or (k:=false) (typeIs_str s x u) ⟨_,c.ho,rfl⟩ (by decide) F.sub_dict_str F.slot_str_eq F.slot_dict_eq_refl
  (fun _ a=>call_meets F.slot_str_eq (typeIs_str s x u) F.entry_str_eq (F.args_str_eq_2 _ _) (DU x u b (.type "dict") e n d f) ⟨c.ho,a⟩)
  (fun _ a=>Bk ⟨_,c.ho,rfl⟩ (typeIs_str s x u) F.sub_str_dict a)
  (fun _ a=>wpAny_of_eq (rfl:isSame (.str x u) (.ref b)=pure false) a) (.inr g) h
theorem Og {b:Addr} {d:Option Addr} {e:Array DictEntry} {n:Nat} {f:Array (Option Value)} (x:Str) (u:Tok) (c:IX s.heap b d e n f) (g:A.units<cLine):SeqAt.RcAt A s (.ref b) (.str x u) false:=fun prog w E Q h=>
 SeqAt.rc_eq_decline_or (k:=false) ⟨_,c.ho,rfl⟩ (typeIs_str s x u) (by decide) F.sub_str_dict F.slot_dict_eq F.slot_str_eq_refl
  (fun _ a=>Bk ⟨_,c.ho,rfl⟩ (typeIs_str s x u) F.sub_str_dict a)
  (fun _ a=>call_meets F.slot_str_eq_refl (typeIs_str s x u) F.entry_str_eq (F.args_str_eq_2 _ _) (DU x u b (.type "dict") e n d f) ⟨c.ho,a⟩)
  (fun _ a=>wpAny_of_eq (rfl:isSame (.ref b) (.str x u)=pure false) a) (.inr g) h
theorem ah {l b:Addr} {items:Array Value} {a:Option Addr} {c:Array DictEntry} {n:Nat} {d:Array (Option Value)} {h:Heap} (hl:h.IsList l items) (f:IX h b a c n d):l≠b:=fun e=>by
 subst e
 obtain⟨o,ho,g,_⟩:=hl
 rw[f.ho]at ho
 cases ho
 exact absurd g (by simp)
theorem Mo {l b:Addr} {items:Array Value} {g:Option Addr} {i:Array DictEntry} {n:Nat} {j:Array (Option Value)} (hl:s.heap.IsList l items) (a:IX s.heap b g i n j) (p:A.units<cLine):SeqAt.RcAt A s (.ref l) (.ref b) false:=fun prog w E Q h=>by
 have d:=ah hl a
 obtain⟨⟨q,e,data,f⟩,ho,m,r,o⟩:=id hl
 simp only at m o
 subst m o
 exact(SeqAt.rc_eq_decline_or (k:=false) ⟨_,ho,rfl⟩ ⟨_,a.ho,rfl⟩ (by decide) F.sub_dict_list F.slot_list_eq F.slot_dict_eq_refl
  (fun _ c=>call_meets F.slot_list_eq ⟨_,ho,rfl⟩ F.entry_list_eq (F.args_list_eq_2 _ _) (C' l b items i r n e g f j) ⟨ho,a.ho,c⟩)
  (fun _ c=>Bk ⟨_,a.ho,rfl⟩ ⟨_,ho,rfl⟩ F.sub_list_dict c)
  (fun _ c=>SeqAt.wpAny_isSame_ref_other' d ho a.ho (by simp) c) (.inr p) h)
theorem Mp {l b:Addr} {items:Array Value} {g:Option Addr} {i:Array DictEntry} {n:Nat} {j:Array (Option Value)} (hl:s.heap.IsList l items) (a:IX s.heap b g i n j) (p:A.units<cLine):SeqAt.RcAt A s (.ref b) (.ref l) false:=fun prog w E Q h=>by
 have d:=ah hl a
 obtain⟨⟨q,e,data,f⟩,ho,m,r,o⟩:=id hl
 simp only at m o
 subst m o
 exact(SeqAt.rc_eq_decline_or (k:=false) ⟨_,a.ho,rfl⟩ ⟨_,ho,rfl⟩ (by decide) F.sub_list_dict F.slot_dict_eq F.slot_list_eq_refl
  (fun _ c=>Bk ⟨_,a.ho,rfl⟩ ⟨_,ho,rfl⟩ F.sub_list_dict c)
  (fun _ c=>call_meets F.slot_list_eq_refl ⟨_,ho,rfl⟩ F.entry_list_eq (F.args_list_eq_2 _ _) (C' l b items i r n e g f j) ⟨ho,a.ho,c⟩)
  (fun _ c=>SeqAt.wpAny_isSame_ref_other' d.symm a.ho ho (by simp) c) (.inr p) h)
end
open PySem.AutoSeq1 (wpAny_loadPart')
open PySem.MeetsSeq3
section
variable{prog:Program} {w:World} {A:Around} {s:Shared}
def zX (prog:Program) (w:World) (A:Around) (s:Shared) (u v:Value):Prop:=∀(E:Value->Shared->Prop) (Q:Bool->Shared->Prop),Q true s->wpAny (model prog w) A (eqBool u v) Q E s
def RcT (prog:Program) (w:World) (A:Around) (s:Shared) (u v:Value):Prop:=∀(E:Value->Shared->Prop) (Q:Value->Shared->Prop),Q (.bool true) s->wpAny (model prog w) A (richCompare .Eq u v) Q E s
theorem call_one {E:Value->Shared->Prop} {T:String} {name:Str} {id:String} {B:Builtin} {self:Value} {rest:List Value} {Q:Value->Shared->Prop} (slot:Slot T name id) (c:s.TypeIs self T) (entry:entryFor table id=some B) (args:argsOk id ⟨self::rest,[]⟩)
  (g:wpAny (model prog w) A.in1 (B ⟨self::rest,[]⟩) (fun fin a=>match fin with| .done f=>wants Q E (.ok f) a| .again b=>b.quiet=true/\codeAny (model prog w) A b (wants Q E) a) (fun e a=>wants Q E (.error e) a) s):
  wpAny (model prog w) A (call (.builtin id) (self::rest)) Q E s:=wpAny_call (codeAny_call_builtin slot.plain entry (slot.check _ _ _ _ _ _ _ _ c args g))
theorem UK {l b:Addr} {items a:Array Value} (hl:s.heap.IsTuple l items) (G:s.heap.IsTuple b a) (hsz:items.size=a.size) (H:A.units<cLine)
  (I:∀j (v:j<items.size) (z:j<a.size),zX prog w A.in1 s items[j] a[j]):RcT prog w A s (.ref l) (.ref b):=fun E Q h=>by
 obtain⟨⟨J,R,data,S⟩,r,B,n,C⟩:=id hl
 obtain⟨⟨D,K,data2,L⟩,f,k,T,m⟩:=id G
 simp only at B C k m
 subst B C k m
 refine wpAny_richCompare_same_room (op:=.Eq) ⟨_,r,rfl⟩ ⟨_,f,rfl⟩ F.slot_tuple_eq (wpAny_call_entry F.slot_tuple_eq ⟨_,r,rfl⟩ F.entry_tuple_eq ?_ (F.args_tuple_eq_2 _ _)) H
 obtain⟨M,g,d,N,os⟩:=s
 have U:=AutoSeq1.sub_tuple_tuple
 wp_walk using wpAny_loadPart' r,wpAny_loadPart' f,wpAny_forIn_list _ (fun rest b t=>b.1=none/\t=⟨M,g,d,N,os⟩/\∃i,rest=(items.toList.zip a.toList).drop i) _
 case turn=>
  rintro⟨y,x⟩ rest b t ⟨c,rfl,i,o⟩
  have p:i<(items.toList.zip a.toList).length:=by
   rcases Nat.lt_or_ge i (items.toList.zip a.toList).length with u|u
   ·exact u
   ·rw[List.drop_of_length_le u]at o;cases o
  have v:i<items.size:=by simp at p;lia
  have z:i<a.size:=by lia
  rw[List.drop_eq_getElem_cons p]at o
  injection o with q e
  have O:y=items[i]:=by have:=congrArg Prod.fst q;simpa using this
  have P:x=a[i]:=by have:=congrArg Prod.snd q;simpa using this
  subst O P
  refine wpAny_bind (I i v z _ _ ?_)
  wp_walk
  exact⟨rfl,rfl,i+1,e⟩
 case fin=>
  rintro⟨V,W⟩ t ⟨c,rfl,i,o⟩
  simp only at c
  subst c
  wp_walk
  exact⟨_,rfl,(fun x=>nomatch x),by simpa[Builtin.Tuple.tupleCompareSizes,hsz]using h⟩
 case h=>
  exact⟨rfl,rfl,0,rfl⟩
theorem IY {a:Type} [DecidableEq a]:∀{b:List (a×Value)} {j:Nat} {k:a} {v:Value},(b.map (·.1)).Nodup->b[j]?=some (k,v)->valueAt b k=some v
 |[],j,k,v,_,h=>by simp at h
 |p::r,0,k,v,_,h=>by
  simp at h
  subst h
  simp[valueAt]
 |p::r,j+1,k,v,nd,h=>by
  rw[List.map_cons]at nd
  obtain⟨f,g⟩:=List.nodup_cons.mp nd
  have c:r[j]?=some (k,v):=by simpa using h
  have i:¬p.1=k:=fun e=>f (by rw[e];exact List.mem_map.mpr ⟨_,AGV c,rfl⟩)
  have d:=IY g c
  unfold valueAt at d⊢
  rw[List.find?_cons_of_neg (by simpa using i)]
  exact d
end
class BY (K:outParam AGW):Prop where
 x:True
structure LI (H H':Hp):Prop where
 rd:FI H H'
 tp:∀a vs,H a=some (.tup vs)->H' a=some (.tup vs)
theorem LI.of {H H':Hp} (s:AE H H'):LI H H':=⟨s.r,fun a b e=>s _ _ e⟩
theorem LI.Cg {a:Addr} {o:Obj} {kvs:List (Key×V)} {H c:Hp} (F:Qf a o kvs H c):LI H c:=⟨F.rd,fun b f e=>by
 have d:b≠a:=fun z=>by
  subst z
  rcases F.rda with r|⟨o,r⟩<;>rw[r]at e<;>cases e
 rw[F.ne b d];exact e⟩
theorem LI.trans {H d H2:Hp} (a:LI H d) (b:LI d H2):LI H H2:=⟨a.rd.trans b.rd,fun c f e=>b.tp c f (a.tp c f e)⟩
theorem Bf.Hy {K:AGW} {H H':Hp} {a:Addr} {xs:List V} (h:Bf K H a xs) (s:LI H H'):Bf K H' a xs:=h.imp (fun r=>s.rd _ _ r) id
theorem Bf.up {K:AGW} {H H':Hp} {a:Addr} {xs:List V} (h:Bf K H a xs) (s:AE H H'):Bf K H' a xs:=h.Hy (.of s)
inductive cy (K:AGW) (H:Hp):V->String->Prop where
 |n {v:V} {T:String} (h:QD H v T):cy K H v T
 |t {a:Addr} {xs:List V} (h:Bf K H a xs):cy K H (.ref a) "tuple"
theorem cy.cV {K:AGW} {H:Hp} {v:V} {T:String} (h:cy K H v T):∃(H':Hp) (a:V),QD H' a T:=by
 cases h with
 |n h=>exact⟨H,v,h⟩
 |t h=>exact⟨upd H 0 (.tup []),.ref 0,.tup AF⟩
section
variable{X:Cx}
inductive EH (K:AGW) (xs:List V) (H:Hp) (Q:VK):Prop
 |mk (x:_) (c:_) (T:_) (a:xs=[x,.ty c]) (b:YX c=true) (d:cy K H x T) (e:Q (.bl (cU T c)) H):EH K xs H Q
theorem Bu:Bq X (.builtin "isinstance") (EH X.K):=by
 intro pins s v H i w Q I r h
 obtain⟨x,c,T,rfl,j,ty,q⟩:=h
 obtain⟨u,y,rfl,g,b⟩:=vals2 r
 cases b
 obtain⟨A,B,d⟩:=ty.cV
 have e:=Rp (K:=X.K) d j
 cases ty with
 |n ty=>exact OM I g ty e fun f=>⟨.bl _,H,I.tok f,rfl,q⟩
 |@t a i k=>
  cases(show u=Value.ref a from g)
  obtain⟨_,_,p,_⟩:=I.tuple k
  obtain⟨o,l,m,_⟩:=p
  exact PySem.W.kia_one PySem.W.kitx_tuple I.Ky ⟨o,l,m⟩ e (fun z=>nomatch z) fun f=>⟨.bl _,H,I.tok f,rfl,q⟩
def iu (T:String):Bool:=T=="list"||T=="tuple"
inductive cz (K:AGW) (xs:List V) (H:Hp) (Q:VK):Prop
 |mk (x:V) (p:Addr) (T:String) (a:xs=[x,.ref p]) (b:H p=some (.tup [.ty "list",.ty "tuple"])) (c:cy K H x T) (d:Q (.bl (iu T)) H):cz K xs H Q
end
inductive Pt where
 |int (i:Int)
 |str (x:Str)
 |bl (b:Bool)
 |Av
 |lst (xs:List Pt)
 |tup (xs:List Pt)
 |BX (ks:List Str) (xs:List Pt)
namespace Pt
mutual
def size:Pt->Nat
 |int _|str _|bl _|Av=>1
 |lst xs|tup xs=>1+AL xs
 |BX _ xs=>1+AL xs
def AL:List Pt->Nat
 |[]=>0
 |x::r=>size x+AL r
end
mutual
def deep:Pt->Nat
 |int _|str _|bl _|Av=>1
 |lst xs|tup xs=>1+AW xs
 |BX _ xs=>1+AW xs
def AW:List Pt->Nat
 |[]=>0
 |x::r=>max (deep x) (AW r)
end
mutual
def doc:Pt->Prop
 |int _=>True
 |str x=>x.length<=100
 |bl _=>False
 |Av=>False
 |tup _=>False
 |lst xs=>ER xs
 |BX ks xs=>ks.length=xs.length/\ks.Nodup/\(∀k∈ks,Cb k=true)/\ks.length<64/\ER xs
def ER:List Pt->Prop
 |[]=>True
 |x::r=>doc x/\ER r
end
def look (ks:List Str) (xs:List Pt) (k:Str):Option Pt:=(ks.zip xs).lookup k
mutual
def CZ:Pt->Pt->Bool
 |int i,int j=>i==j
 |str x,str y=>x==y
 |bl a,bl b=>a==b
 |Av,Av=>true
 |lst xs,lst ys=>FV xs ys
 |tup xs,tup ys=>FV xs ys
 |BX ks xs,BX ls ys=>ks.length==ls.length&&UL ks xs ls ys
 |_,_=>false
def FV:List Pt->List Pt->Bool
 |[],[]=>true
 |x::xs,y::ys=>CZ x y&&FV xs ys
 |_,_=>false
def UL:List Str->List Pt->List Str->List Pt->Bool
 |k::ks,x::xs,ls,ys=>(match look ls ys k with|some y=>CZ x y|none=>false)&&UL ks xs ls ys
 |_,_,_,_=>true
end
theorem size_pos (t:Pt):1<=t.size:=by cases t<;>simp only[size]<;>lia
theorem FW (t:Pt):1<=t.deep:=by cases t<;>simp only[deep]<;>lia
theorem Cm:∀{xs:List Pt} {x:Pt},x∈xs->x.size<=AL xs
 |y::r,x,h=>by
  simp only[AL]
  rcases List.mem_cons.mp h with rfl|h
  ·lia
  ·have:=Cm h;lia
theorem BI:∀{xs:List Pt} {x:Pt},x∈xs->x.deep<=AW xs
 |y::r,x,h=>by
  simp only[AW]
  rcases List.mem_cons.mp h with rfl|h
  ·lia
  ·have:=BI h;lia
theorem Dj:∀xs:List Pt,xs.length<=AL xs
 |[]=>Nat.le_refl _
 |x::r=>by have:=Dj r;have:=size_pos x;simp only[List.length_cons,AL];lia
theorem DV:∀{xs:List Pt},ER xs->∀x∈xs,doc x
 |y::r,h,x,a=>by
  simp only[ER]at h
  rcases List.mem_cons.mp a with rfl|a
  ·exact h.1
  ·exact DV h.2 x a
theorem Am (xs ys:List Pt):AL (xs++ys)=AL xs+AL ys:=by
 induction xs with
 |nil=>simp[AL]
 |cons x r a=>simp only[List.cons_append,AL,a];lia
theorem WW {ks:List Str} {xs:List Pt} {k:Str} {x:Pt} (h:look ks xs k=some x):k∈ks/\x∈xs:=by
 unfold look at h
 induction ks generalizing xs with
 |nil=>simp at h
 |cons y r a=>
  cases xs with
  |nil=>simp at h
  |cons z b=>
   simp only[List.zip_cons_cons,List.lookup_cons]at h
   by_cases e:k=y
   ·subst e
    simp at h
    subst h
    exact⟨List.mem_cons_self,List.mem_cons_self⟩
   ·have:(k==y)=false:=by simpa using e
    rw[this]at h
    have:=a h
    exact⟨List.mem_cons_of_mem _ this.1,List.mem_cons_of_mem _ this.2⟩
theorem UM {ks:List Str} {xs:List Pt} (l:ks.length=xs.length) {k:Str} (a:k∈ks):∃x,look ks xs k=some x:=by
 unfold look
 induction ks generalizing xs with
 |nil=>cases a
 |cons y r b=>
  cases xs with
  |nil=>simp at l
  |cons z c=>
   simp only[List.zip_cons_cons,List.lookup_cons]
   by_cases e:k=y
   ·subst e;exact⟨z,by simp⟩
   ·have:(k==y)=false:=by simpa using e
    rw[this]
    exact b (by simpa using l) ((List.mem_cons.mp a).resolve_left e)
end Pt
mutual
inductive Val {K:AGW} [BY K] (H:Hp):V->Pt->Prop
 |int (i:Int):Val H (.int i) (.int i)
 |str (x:Str):Val H (.str x) (.str x)
 |bl (b:Bool):Val H (.bl b) (.bl b)
 |Av:Val H .Av .Av
 |lst {a:Addr} {vs:List V} {ts:List Pt} (h:Rd H a (.lst vs)) (r:Aj H vs ts):Val H (.ref a) (.lst ts)
 |tup {a:Addr} {vs:List V} {ts:List Pt} (h:Bf K H a vs) (r:Aj H vs ts):Val H (.ref a) (.tup ts)
 |BX {a:Addr} {kvs:List (Key×V)} {ks:List Str} {ts:List Pt} (h:Rd H a (.dK kvs)) (c:kvs.map (·.1)=ks.map Sum.inr) (r:Aj H (kvs.map (·.2)) ts):Val H (.ref a) (.BX ks ts)
inductive Aj {K:AGW} [BY K] (H:Hp):List V->List Pt->Prop
 |nil:Aj H [] []
 |cons {v:V} {t:Pt} {vs:List V} {ts:List Pt} (h:Val H v t) (r:Aj H vs ts):Aj H (v::vs) (t::ts)
end
section
variable{K:AGW} [BY K]
mutual
theorem Val.Hy {H H':Hp} (s:LI H H'):∀{v:V} {t:Pt},Val H v t->Val H' v t
 |_,_,.int i=>.int i
 |_,_,.str x=>.str x
 |_,_,.bl b=>.bl b
 |_,_,.Av=>.Av
 |_,_,.lst h r=>.lst (s.rd _ _ h) (r.Hy s)
 |_,_,.tup h r=>.tup (h.Hy s) (r.Hy s)
 |_,_,.BX h a r=>.BX (s.rd _ _ h) a (r.Hy s)
theorem Aj.Hy {H H':Hp} (s:LI H H'):∀{vs:List V} {ts:List Pt},Aj H vs ts->Aj H' vs ts
 |_,_,.nil=>.nil
 |_,_,.cons h r=>.cons (h.Hy s) (r.Hy s)
end
theorem Val.up {H H':Hp} {v:V} {t:Pt} (h:Val H v t) (s:AE H H'):Val H' v t:=h.Hy (.of s)
theorem Aj.up {H H':Hp} {v:List V} {t:List Pt} (h:Aj H v t) (s:AE H H'):Aj H' v t:=h.Hy (.of s)
theorem Aj.length {H:Hp}:∀{vs:List V} {ts:List Pt},Aj H vs ts->vs.length=ts.length
 |_,_,.nil=>rfl
 |_,_,.cons _ r=>by rw[List.length_cons,List.length_cons,r.length]
theorem Aj.get {H:Hp}:∀{vs:List V} {ts:List Pt},Aj H vs ts->∀{i:Nat} {v:V},vs[i]?=some v->∃t,ts[i]?=some t/\Val H v t
 |_,_,.nil,i,v,h=>by simp at h
 |_,_,.cons h r,0,v,e=>by
  simp at e
  subst e
  exact⟨_,by simp,h⟩
 |_,_,.cons h r,i+1,v,e=>by
  obtain⟨t,a,b⟩:=r.get (i:=i) (v:=v) (by simpa using e)
  exact⟨t,by simpa using a,b⟩
theorem Aj.get' {H:Hp}:∀{vs:List V} {ts:List Pt},Aj H vs ts->∀{i:Nat} {t:Pt},ts[i]?=some t->∃v,vs[i]?=some v/\Val H v t
 |_,_,.nil,i,v,h=>by simp at h
 |_,_,.cons h r,0,v,e=>by
  simp at e
  subst e
  exact⟨_,by simp,h⟩
 |_,_,.cons h r,i+1,v,e=>by
  obtain⟨t,a,b⟩:=r.get' (i:=i) (t:=v) (by simpa using e)
  exact⟨t,by simpa using a,b⟩
theorem Aj.append {H:Hp}:∀{vs:List V} {ts:List Pt},Aj H vs ts->∀{ws:List V} {us:List Pt},Aj H ws us->Aj H (vs++ws) (ts++us)
 |_,_,.nil,_,_,s=>s
 |_,_,.cons h r,_,_,s=>.cons h (r.append s)
theorem Aj.of {H:Hp}:∀{vs:List V} {ts:List Pt},vs.length=ts.length->(∀(i:Nat) v t,vs[i]?=some v->ts[i]?=some t->Val H v t)->Aj H vs ts
 |[],[],_,_=>.nil
 |[],_::_,l,_=>by simp at l
 |_::_,[],l,_=>by simp at l
 |v::vs,t::ts,l,h=>.cons (h 0 v t (by simp) (by simp)) (Aj.of (by simpa using l) fun i w u a b=>h (i+1) w u (by simpa using a) (by simpa using b))
theorem Val.Ex {H:Hp}:∀{kvs:List (Key×V)} {ks:List Str} {ts:List Pt},kvs.map (·.1)=ks.map Sum.inr->Aj H (kvs.map (·.2)) ts->∀k:Str,(∃v t,BM kvs (Sum.inr k)=some v/\Pt.look ks ts k=some t/\Val H v t)∨(BM kvs (Sum.inr k)=none/\Pt.look ks ts k=none)
 |[],[],_,_,r,k=>by cases r;exact .inr ⟨rfl,rfl⟩
 |[],_::_,_,h,_,_=>by simp at h
 |_::_,[],_,h,_,_=>by simp at h
 |(y,v)::kvs,x::ks,ts,h,r,k=>by
  simp only[List.map_cons,List.cons.injEq]at h
  obtain⟨e,h⟩:=h
  subst e
  cases r with
  |@cons _ t _ ts a r=>
   by_cases e:k=x
   ·subst e
    exact .inl ⟨v,t,Bl rfl,by simp[Pt.look],a⟩
   ·have b:(k==x)=false:=by simpa using e
    have c:BM ((Sum.inr x,v)::kvs) (Sum.inr k)=BM kvs (Sum.inr k):=Bm (by intro z;exact e (Sum.inr.inj z).symm)
    have d:Pt.look (x::ks) (t::ts) k=Pt.look ks ts k:=by simp[Pt.look,List.zip_cons_cons,List.lookup_cons,b]
    rw[c,d]
    exact Val.Ex h r k
end
section
variable{K:AGW} [BY K]
theorem Val.Oh {H:Hp} {v:V} {x:Str} (h:Val H v (.str x)):v=.str x:=by cases h;rfl
theorem Val.zY {H:Hp} {v:V} {x:Bool} (h:Val H v (.bl x)):v=.bl x:=by cases h;rfl
theorem Val.tupI {H:Hp} {v:V} {ts:List Pt} (h:Val H v (.tup ts)):∃a vs,v=.ref a/\Bf K H a vs/\Aj H vs ts:=by cases h with|tup h r=>exact⟨_,_,rfl,h,r⟩
theorem Val.Mq {H:Hp} {v:V} {ts:List Pt} (h:Val H v (.lst ts)):∃a vs,v=.ref a/\Rd H a (.lst vs)/\Aj H vs ts:=by cases h with|lst h r=>exact⟨_,_,rfl,h,r⟩
theorem Val.Qi {H:Hp} {v:V} {ks:List Str} {ts:List Pt} (h:Val H v (.BX ks ts)):∃(a:Addr) (kvs:List (Key×V)),v=.ref a/\Rd H a (.dK kvs)/\kvs.map (·.1)=ks.map Sum.inr/\Aj H (kvs.map (·.2)) ts:=by cases h with|BX h b r=>exact⟨_,_,rfl,h,b,r⟩
theorem Aj.CW {H:Hp} {vs:List V} {t:Pt} {ts:List Pt} (h:Aj H vs (t::ts)):∃v a,vs=v::a/\Val H v t/\Aj H a ts:=by cases h with|cons h r=>exact⟨_,_,rfl,h,r⟩
theorem Aj.Mr {H:Hp} {vs:List V} (h:Aj H vs []):vs=[]:=by cases h;rfl
end
section
variable{X:Cx} [BY X.K] {pins:List (Addr×Obj)} {σ:St} {H:Hp} {s:Shared}
theorem Aj.at {vs:List V} {ts:List Pt} {its:List Value} (r:Aj H vs ts) (c:Vals vs its) {j:Nat} (h:j<its.toArray.size):∃v t,vs[j]?=some v/\ts[j]?=some t/\Val H v t/\RelV v its.toArray[j]:=by
 obtain⟨v,b,a⟩:=Yo c h
 obtain⟨t,d,e⟩:=r.get b
 exact⟨v,t,b,d,e,a⟩
end
section
inductive pY {K:AGW} [BY K] (x y:V) (H:Hp) (Q:VK):Prop
 |mk (a b:Addr) (t:Pt) (c:x=.ref a) (e:y=.ref b) (f:Val H (.ref a) t) (g:Val H (.ref b) t) (d:t.deep<=60) (q:Q (.bl true) H):pY x y H Q
end
section
variable{X:Cx}
end
inductive ai:Pt->Prop
 |int (i:Int):ai (.int i)
 |str (x:Str):ai (.str x)
 |nil:ai (.lst [])
 |emp:ai (.BX [] [])
inductive Sm:Pt->Prop
 |one {t:Pt} (h:ai t):Sm t
 |row {xs:List Pt} (h:∀x∈xs,ai x):Sm (.lst xs)
 |tab {ks:List Str} {xs:List Pt} (h:∀x∈xs,ai x):Sm (.BX ks xs)
section
variable{A:Around} {s:Shared}
end
section
variable{X:Cx} [BY X.K] {pins:List (Addr×Obj)} {σ:St} {H:Hp} {s:Shared}
theorem Gv:∀{xs ys:List Pt},xs.length≠ys.length->Pt.FV xs ys=false
 |[],[],h=>by simp at h
 |[],_::_,_=>by simp[Pt.FV]
 |_::_,[],_=>by simp[Pt.FV]
 |x::xs,y::ys,h=>by
  have:=Gv (xs:=xs) (ys:=ys) (by simpa using h)
  simp[Pt.FV,this]
def pairE (xs ys:List Pt) (j:Nat):Bool:=match xs[j]?,ys[j]? with
 |some x,some y=>Pt.CZ x y
 |_,_=>false
theorem Jw:∀{xs ys:List Pt},xs.length=ys.length->(List.range xs.length).all (pairE xs ys)=Pt.FV xs ys
 |[],[],_=>by simp[Pt.FV]
 |[],_::_,h=>by simp at h
 |_::_,[],h=>by simp at h
 |x::xs,y::ys,h=>by
  have a:=Jw (xs:=xs) (ys:=ys) (by simpa using h)
  rw[List.length_cons,List.range_succ_eq_map,List.all_cons,List.all_map]
  have b:pairE (x::xs) (y::ys) 0=Pt.CZ x y:=by simp[pairE]
  have c:(pairE (x::xs) (y::ys)∘Nat.succ)=pairE xs ys:=by
   funext j
   simp[pairE]
  rw[b,c,a]
  simp[Pt.FV]
theorem Hz (I:Inv X pins σ H s) {a:Addr} {kvs:List (Key×V)} (h:Rd H a (.dK kvs)):(a==sysModules)=false/\∃c b n d,IX s.heap a c b n d/\b.size=kvs.length:=by
 obtain⟨z,j,o,e,⟨⟨f,c,data,d⟩,b,n,k,l,i,p,m,q⟩⟩:=Ea I.Be h
 have g:f=.type "dict":=l.1
 simp only at i
 subst g i
 refine⟨j,c,b,n,d,⟨k⟩,?_⟩
 have:=m.length
 rw[e.length,<-this]
 simp
end
section
inductive pZ {K:AGW} [BY K] (x y:V) (H:Hp) (Q:VK):Prop
 |mk (p t:Pt) (a:Val H x p) (b:Val H y t) (c:Sm p) (d:t.doc) (q:Q (.bl (Pt.CZ p t)) H):pZ x y H Q
end
section
variable{X:Cx}
end
def lk {a:Type} (ks:List Str) (xs:List a) (k:Str):Option a:=(ks.zip xs).lookup k
theorem CJ {a:Type} {y k:Str} {r:List Str} {z:a} {zs:List a}:lk (y::r) (z::zs) k=if k=y then some z else lk r zs k:=by
 unfold lk
 rw[List.zip_cons_cons,List.lookup_cons]
 by_cases e:k=y
 ·subst e;simp
 ·have:(k==y)=false:=by simpa using e
  rw[this,if_neg e]
theorem Jx {a:Type} {ks:List Str} {xs:List a} {k:Str} {x:a} (h:lk ks xs k=some x):k∈ks/\x∈xs:=by
 induction ks generalizing xs with
 |nil=>simp[lk]at h
 |cons y r b=>
  cases xs with
  |nil=>simp[lk]at h
  |cons z c=>
   rw[CJ]at h
   by_cases e:k=y
   ·rw[if_pos e]at h
    cases h
    exact⟨by rw[e];exact List.mem_cons_self,List.mem_cons_self⟩
   ·rw[if_neg e]at h
    have:=b h
    exact⟨List.mem_cons_of_mem _ this.1,List.mem_cons_of_mem _ this.2⟩
theorem JI {b:Type} {ks:List Str} {xs:List b} (l:ks.length=xs.length) {k:Str} (a:k∈ks):∃x,lk ks xs k=some x:=by
 induction ks generalizing xs with
 |nil=>cases a
 |cons y r c=>
  cases xs with
  |nil=>simp at l
  |cons z d=>
   rw[CJ]
   by_cases e:k=y
   ·rw[if_pos e];exact⟨z,rfl⟩
   ·rw[if_neg e]
    exact c (by simpa using l) ((List.mem_cons.mp a).resolve_left e)
def pk {a:Type} (f:a->Pt->Bool):Option a->Option Pt->Bool
 |some x,some y=>f x y
 |_,_=>false
def pb {a:Type} (f:a->Pt->Bool):List Str->List a->List Str->List Pt->Bool
 |k::ks,x::xs,ls,ys=>(match lk ls ys k with|some y=>f x y|none=>false)&&pb f ks xs ls ys
 |_,_,_,_=>true
def aj:Pt->List V->Prop
 | .lst xs,l=>l=(List.range xs.length).map fun(i:Nat)=>V.int (i:Int)
 | .BX ks _,l=>∃ss:List Str,l=ss.map V.str/\ss.Perm ks/\sortedS ss=true
 |_,l=>l=[]
def Dz:Pt->Prop
 | .int _=>True
 | .str _=>True
 | .lst xs=>xs.length<=900
 | .BX ks xs=>ks.length=xs.length/\ks.length<64
 |_=>False
def H_:Pt->List Pt->Prop
 | .lst xs,ts=>ts=xs
 | .BX ks xs,ts=>∃ss:List Str,ss.Perm ks/\sortedS ss=true/\ss.map (lk ks xs)=ts.map some
 |_,ts=>ts=[]
theorem H_.one {t:Pt} {as bs:List Pt} (h:H_ t as) (h':H_ t bs):as=bs:=by
 cases t with
 |lst c=>exact(show as=c from h).trans (show bs=c from h').symm
 |BX l c=>
  obtain⟨m,e,f,g⟩:=h
  obtain⟨n,i,j,d⟩:=h'
  have:=EG f j (e.trans i.symm)
  subst this
  rw[g]at d
  have inj:∀{a b:List Pt},a.map some=b.map some->a=b:=by
   intro a
   induction a with
   |nil=>intro b h;cases b with|nil=>rfl|cons _ _=>simp at h
   |cons x r k=>
    intro b h
    cases b with
    |nil=>simp at h
    |cons y q=>
     simp only[List.map_cons,List.cons.injEq]at h
     rw[AGU h.1,k h.2]
  exact inj d
 |_=>exact(show as=[]from h).trans (show bs=[]from h').symm
section
variable{K:AGW} [BY K]
def c_ (H:Hp) (v s e:V):Prop:=(∃a b j,v=.ref a/\Rd H a (.lst b)/\s=.int ((j:Nat):Int)/\b[j]?=some e)∨∃a kvs k,v=.ref a/\Rd H a (.dK kvs)/\s=.str k/\BM kvs (Sum.inr k)=some e
theorem Oi {H:Hp} {kvs:List (Key×V)} {ks:List Str} {ts:List Pt} (f:kvs.map (·.1)=ks.map Sum.inr) (r:Aj H (kvs.map (·.2)) ts) (l:ks.length=ts.length):∀{ss:List Str},(∀k∈ss,k∈ks)->
  ∃(a:List V) (us:List Pt),Aj H a us/\ss.map (lk ks ts)=us.map some/\a.length=ss.length/\∀(i:Nat) e,a[i]?=some e->∃k,ss[i]?=some k/\BM kvs (Sum.inr k)=some e
 |[],_=>⟨[],[],.nil,rfl,rfl,fun i e h=>by simp at h⟩
 |k::ss,h=>by
  obtain⟨a,us,g,j,m,h4⟩:=Oi f r l (ss:=ss) fun x b=>h x (List.mem_cons_of_mem _ b)
  rcases Val.Ex f r k with⟨v,t,n,c,o⟩|⟨_,c⟩
  ·refine⟨v::a,t::us,.cons o g,by rw[List.map_cons,List.map_cons,j];congr 1,by rw[List.length_cons,List.length_cons,m],fun i e d=>?_⟩
   cases i with
   |zero=>simp at d;subst d;exact⟨k,by simp,n⟩
   |succ i=>
    obtain⟨p,a1,a2⟩:=h4 i e (by simpa using d)
    exact⟨p,by simpa using a1,a2⟩
  ·obtain⟨x,b⟩:=Pt.UM l (h k List.mem_cons_self)
   rw[b]at c
   cases c
theorem Val.kids {H:Hp} {v:V} {t:Pt} {l:List V} (n:Val H v t) (hold:Dz t) (st:aj t l):∃(c:List V) (us:List Pt),Aj H c us/\H_ t us/\c.length=l.length/\∀(i:Nat) e,c[i]?=some e->∃s,l[i]?=some s/\c_ H v s e:=by
 cases n with
 |int i=>rw[show l=[]from st];exact⟨[],[],.nil,rfl,rfl,fun i e h=>by simp at h⟩
 |str i=>rw[show l=[]from st];exact⟨[],[],.nil,rfl,rfl,fun i e h=>by simp at h⟩
 |bl b=>exact hold.elim
 |Av=>exact hold.elim
 |tup _ _=>exact hold.elim
 |@lst a f g h r=>
  have e:=r.length
  rw[show l=_ from st]
  refine⟨f,g,r,rfl,by simp[e],fun i x j=>⟨.int (i:Int),?_,.inl ⟨a,f,i,rfl,h,rfl,j⟩⟩⟩
  have z:=(AGT j).1
  rw[List.getElem?_map,List.getElem?_range (by lia)]
  rfl
 |@BX a kvs A g h d r=>
  obtain⟨ss,rfl,m,o⟩:=st
  obtain⟨c,us,p,q,u,w⟩:=Oi d r hold.1 (ss:=ss) fun k d=>m.mem_iff.mp d
  refine⟨c,us,p,⟨ss,m,o,q⟩,by rw[List.length_map];exact u,fun i e y=>?_⟩
  obtain⟨k,k1,k2⟩:=w i e y
  exact⟨.str k,by rw[List.getElem?_map,k1];rfl,.inr ⟨a,kvs,k,rfl,h,rfl,k2⟩⟩
theorem UN {t:Pt} (d:t.doc) (z:t.size<=900):Dz t:=by
 cases t with
 |int i=>trivial
 |str x=>trivial
 |bl b=>simp[Pt.doc]at d
 |Av=>simp[Pt.doc]at d
 |tup a=>simp[Pt.doc]at d
 |lst a=>simp only[Pt.size]at z;have:=Pt.Dj a;exact show a.length<=900 by lia
 |BX c a=>simp only[Pt.doc]at d;exact⟨d.1,d.2.2.2.1⟩
def Pt.iY:Pt->String
 | .int _=>"int"
 | .str _=>"str"
 | .bl _=>"bool"
 | .Av=>"NoneType"
 | .lst _=>"list"
 | .tup _=>"tuple"
 | .BX _ _=>"dict"
theorem Val.ty {H:Hp} {v:V} {t:Pt} (h:Val H v t):cy K H v t.iY:=by
 cases h with
 |int i=>exact .n (.int i)
 |str x=>exact .n (.str x)
 |bl b=>exact .n (.bl b)
 |Av=>exact .n .Av
 |lst h _=>exact .n (.lst h)
 |tup h _=>exact .t h
 |BX h _ _=>exact .n (.dK h)
def Gw:Sp:=fun b H Q _=>∃(v:V) (t:Pt),b=[v]/\Val H v t/\Dz t/\∀(p:Addr) (l:List V) (a:Hp),AE H a->H p=none->a p=some (.lst l)->aj t l->Q (.ref p) a
def Jy:Sp:=fun d H Q _=>∃(G:Hp) (v:V) (t:Pt),d=[v]/\AE G H/\Val G v t/\Dz t/\∀(p:Addr) (b:List V) (c:List Pt) (a:Hp),AE H a->H p=none->a p=some (.lst b)->Aj G b c->H_ t c->Q (.ref p) a
inductive Ms {K:AGW} [BY K] (G H:Hp):List Addr->List (Pt×Pt)->Prop
 |nil:Ms G H [] []
 |cons {t:Addr} {u v:V} {p:Pt×Pt} {ts:List Addr} {a:List (Pt×Pt)} (h:H t=some (.tup [u,v])) (b:Val G u p.1) (c:Val G v p.2) (r:Ms G H ts a):Ms G H (t::ts) (p::a)
end
section
variable{X:Cx}
inductive iw (K:AGW) (xs:List V) (H:Hp) (Q:VK):Prop
 |mk (p:Addr) (bs:List Bool) (a:xs=[.ref p]) (b:An K H p (bs.map V.bl)) (c:Q (.bl (bs.any id)) H):iw K xs H Q
theorem WX (w:X.calm=true):Bq X (.builtin "any") (iw X.K):=by
 intro pins s J H L M Q I r h
 obtain⟨p,bs,rfl,x,q⟩:=h
 obtain⟨u,rfl,k⟩:=vals1 r
 cases k
 obtain⟨c,l,pl,N⟩:=I.list x
 obtain⟨y,d,f⟩:=id pl.isList
 have m:p<s.heap.objs.size:=Heap.lt_size d
 have n:X.A.in1.handled=none:=I.ok.hd w
 have hlen:c.toArray.size=bs.length:=by rw[List.size_toArray,<-l.length,List.length_map]
 refine call_any_walk (wpAny_pyIter_list pl.isList ⟨s.heap.objs.size,_,_,_,_,_,fun i=>bs.getD i true,rfl,Walks.list n s.heap.objs.size p (Nat.ne_of_lt m) c.toArray,⟨⟨_,Heap.get?_push_size _ rfl,rfl,rfl⟩,⟨y,Heap.get?_push_of_some _ d,f⟩⟩,?_,fun O B kept=>?_⟩)
 ·intro i v C D P g j
  have g:c[i]?=some v:=by simpa using g
  have a:i<bs.length:=by
   have:=(AGT g).1
   rw[<-l.length,List.length_map]at this
   exact this
  have e:(bs.map V.bl)[i]?=some (V.bl bs[i]):=by rw[List.getElem?_map,AGS a];rfl
  obtain⟨u,t,k⟩:=l.get e
  rw[g]at t
  cases t
  cases k
  have E:bs.getD i true=bs[i]:=by rw[List.getD_eq_getElem?_getD,AGS a];rfl
  have j:D (bs.getD i true) C:=j
  rw[E]at j
  exact wpAny_truthy_bool j
 ·refine⟨.bl (bs.any id),H,I.kept (t':=B) fun b o e=>kept b o (fun z=>?_) (Heap.get?_push_of_some _ e),?_,q⟩
  ·have F:b=s.heap.objs.size:=by simpa using z
   exact Nat.ne_of_lt (Heap.lt_size e) F
  ·show Value.bool _=Value.bool _
   congr 1
   rw[hlen,Bool.eq_iff_iff,List.any_eq_true,List.any_eq_true]
   constructor
   ·intro⟨i,a,h⟩
    have a:=List.mem_range.mp a
    rw[List.getD_eq_getElem?_getD,AGS a]at h
    exact⟨_,List.getElem_mem a,h⟩
   ·intro⟨b,G,h⟩
    obtain⟨i,a,rfl⟩:=List.mem_iff_getElem.mp G
    exact⟨i,List.mem_range.mpr a,by rw[List.getD_eq_getElem?_getD,AGS a];exact h⟩
end
inductive Ak where
 |any
 |As (d:Pt)
 |row (xs:List Ak) (m:Bool)
 |tab (ks:List Str) (xs:List Ak) (ls:List Str) (m:Bool)
namespace Ak
mutual
def pt:Ak->Pt
 |any=>.tup [.str "any"]
 |As d=>.tup [.str "just",d]
 |row xs m=>.tup [.str "row",.lst (CY xs),.bl m]
 |tab ks xs ls m=>.tup [.str "table",.BX ks (CY xs),.lst (ls.map Pt.str),.bl m]
def CY:List Ak->List Pt
 |[]=>[]
 |x::r=>pt x::CY r
end
theorem AZ:∀xs:List Ak,CY xs=xs.map pt
 |[]=>rfl
 |x::r=>by simp only[CY,List.map_cons,AZ r]
mutual
def size:Ak->Nat
 |any=>1
 |As _=>1
 |row xs _=>1+AL xs
 |tab _ xs _ _=>1+AL xs
def AL:List Ak->Nat
 |[]=>0
 |x::r=>size x+AL r
end
mutual
def deep:Ak->Nat
 |any=>1
 |As _=>1
 |row xs _=>1+AW xs
 |tab _ xs _ _=>1+AW xs
def AW:List Ak->Nat
 |[]=>0
 |x::r=>max (deep x) (AW r)
end
mutual
def ok:Ak->Prop
 |any=>True
 |As d=>Sm d/\d.doc/\d.size<=10
 |row xs _=>DD xs
 |tab ks xs ls _=>ks.length=xs.length/\ks.Nodup/\(∀k∈ks,Cb k=true)/\ks.length<60/\(ls.length<=60/\ls.Nodup/\sortedS ls=true)/\(∀l∈ls,l∉ks)/\DD xs
def DD:List Ak->Prop
 |[]=>True
 |x::r=>ok x/\DD r
end
mutual
def Fz:Ak->Prop
 |any=>True
 |As _=>True
 |row xs _=>IA xs
 |tab ks xs ls _=>ks.length+ls.length<=4/\IA xs
def IA:List Ak->Prop
 |[]=>True
 |x::r=>Fz x/\IA r
end
theorem EI {a b:List Ak}:IA a->IA b->IA (a++b):=by
 induction a with
 |nil=>exact fun _ h=>h
 |cons x r c=>exact fun h g=>⟨h.1,c h.2 g⟩
theorem FX:∀{xs:List Ak},IA xs->∀x∈xs,Fz x
 |y::r,h,x,a=>by
  rcases List.mem_cons.mp a with rfl|a
  ·exact h.1
  ·exact FX h.2 x a
theorem size_pos (t:Ak):1<=t.size:=by cases t<;>simp only[size]<;>lia
theorem Dj:∀xs:List Ak,xs.length<=AL xs
 |[]=>Nat.le_refl _
 |x::r=>by have:=Dj r;have:=size_pos x;simp only[List.length_cons,AL];lia
theorem Bx:∀{xs:List Ak},DD xs->∀x∈xs,ok x
 |y::r,h,x,a=>by
  simp only[DD]at h
  rcases List.mem_cons.mp a with rfl|a
  ·exact h.1
  ·exact Bx h.2 x a
theorem ES:∀{xs:List Ak},(∀x∈xs,ok x)->DD xs
 |[],_=>trivial
 |x::r,h=>⟨h x List.mem_cons_self,ES fun y a=>h y (List.mem_cons_of_mem _ a)⟩
def cnt (c l:Nat) (m:Bool):Bool:=c==l||(m&&decide (l<c))
mutual
def lets:Ak->Pt->Bool
 |any,_=>true
 |As d,t=>Pt.CZ d t
 |row xs m,.lst ys=>cnt ys.length xs.length m&&ao xs ys
 |tab ks xs ls m,.BX a ys=>(ks.all (fun k=>decide (k∈a))&& !(ls.any fun k=>decide (k∈a))&&cnt a.length ks.length m)&&aq ks xs a ys
 |_,_=>false
def ao:List Ak->List Pt->Bool
 |a::as,y::ys=>lets a y&&ao as ys
 |_,_=>true
def aq:List Str->List Ak->List Str->List Pt->Bool
 |k::ks,x::xs,a,ys=>(match lk a ys k with|some y=>lets x y|none=>false)&&aq ks xs a ys
 |_,_,_,_=>true
end
def Kp:Ak->Pt->List (Ak×Pt)->Prop
 |row xs _,.lst ys,a=>a=xs.zip ys
 |tab ks xs _ _,.BX b ys,a=>∃(ss:List Str) (as:List Ak) (bs:List Pt),ss.Perm ks/\ss.map (lk ks xs)=as.map some/\ss.map (lk b ys)=bs.map some/\a=as.zip bs
 |_,_,a=>a=[]
def hold:Ak->Pt
 |row xs _=>.lst (CY xs)
 |tab ks xs _ _=>.BX ks (CY xs)
 |_=>.lst []
end Ak
section
variable{K:AGW} [BY K]
theorem Val.ak {H:Hp} {v:V} {a:Ak} (h:Val H v a.pt):∃(t:Addr) (w:Str) (rest:List V),v=.ref t/\Bf K H t (.str w::rest)/\
  ((a=.any/\w="any"/\rest=[])∨(∃d u,a=.As d/\w="just"/\rest=[u]/\Val H u d)∨(∃xs m u,a=.row xs m/\w="row"/\rest=[u,.bl m]/\Val H u (.lst (Ak.CY xs)))∨∃ks xs ls m u z,a=.tab ks xs ls m/\w="table"/\rest=[u,z,.bl m]/\Val H u (.BX ks (Ak.CY xs))/\Val H z (.lst (ls.map Pt.str))):=by
 cases a with
 |any=>
  obtain⟨t,g,rfl,h,r⟩:=Val.tupI h
  obtain⟨i,j,rfl,b,c⟩:=r.CW
  cases b.Oh
  cases c.Mr
  exact⟨_,_,_,rfl,h,.inl ⟨rfl,rfl,rfl⟩⟩
 |As d=>
  obtain⟨t,g,rfl,h,r⟩:=Val.tupI h
  obtain⟨i,j,rfl,b,c⟩:=r.CW
  obtain⟨n,o,rfl,e,f⟩:=c.CW
  cases b.Oh
  cases f.Mr
  exact⟨_,_,_,rfl,h,.inr (.inl ⟨d,_,rfl,rfl,rfl,e⟩)⟩
 |row xs m=>
  obtain⟨t,g,rfl,h,r⟩:=Val.tupI h
  obtain⟨i,j,rfl,b,c⟩:=r.CW
  obtain⟨n,o,rfl,e,f⟩:=c.CW
  obtain⟨p,q,rfl,k,l⟩:=f.CW
  cases b.Oh
  cases k.zY
  cases l.Mr
  exact⟨_,_,_,rfl,h,.inr (.inr (.inl ⟨xs,m,_,rfl,rfl,rfl,e⟩))⟩
 |tab ks xs ls m=>
  obtain⟨t,g,rfl,h,r⟩:=Val.tupI h
  obtain⟨i,j,rfl,b,c⟩:=r.CW
  obtain⟨n,o,rfl,e,f⟩:=c.CW
  obtain⟨p,q,rfl,k,l⟩:=f.CW
  obtain⟨y,A,rfl,s,x⟩:=l.CW
  cases b.Oh
  cases s.zY
  cases x.Mr
  exact⟨_,_,_,rfl,h,.inr (.inr (.inr ⟨ks,xs,ls,m,_,_,rfl,rfl,rfl,e,k⟩))⟩
end
section
variable{K:AGW} [BY K]
theorem SE {a:Type}:∀{ks:List Str} {xs:List a},ks.length=xs.length->ks.Nodup->ks.map (lk ks xs)=xs.map some:=by
 intro ks
 induction ks with
 |nil=>intro xs l _;cases xs with|nil=>rfl|cons _ _=>simp at l
 |cons k r b=>
  intro xs l nd
  cases xs with
  |nil=>simp at l
  |cons x xs=>
   obtain⟨c,d⟩:=List.nodup_cons.mp nd
   rw[List.map_cons,List.map_cons,CJ,if_pos rfl,<-b (by simpa using l) d]
   congr 1
   exact List.map_congr_left fun y e=>by rw[CJ,if_neg (fun z=>c (by rw[<-z];exact e))]
theorem DO {a:Type} {ks ss:List Str} {xs as:List a} (l:ks.length=xs.length) (nd:ks.Nodup) (b:ss.Perm ks) (e:ss.map (lk ks xs)=as.map some):as.Perm xs:=by
 have c:(as.map some).Perm (xs.map some):=by rw[<-e,<-SE l nd];exact b.map _
 have d:=c.filterMap id
 simpa using d
theorem Jz {b:Type} {ks:List Str} {xs:List b} (l:ks.length=xs.length):∀{ss:List Str},(∀k∈ss,k∈ks)->∃as:List b,ss.map (lk ks xs)=as.map some
 |[],_=>⟨[],rfl⟩
 |k::ss,h=>by
  obtain⟨as,e⟩:=Jz l (ss:=ss) fun x a=>h x (List.mem_cons_of_mem _ a)
  obtain⟨x,a⟩:=JI l (h k List.mem_cons_self)
  exact⟨x::as,by rw[List.map_cons,List.map_cons,a,e]⟩
theorem GQ {a b:Type} (f:a->b) {k:Str}:∀{ks:List Str} {xs:List a},lk ks (xs.map f) k=(lk ks xs k).map f
 |[],xs=>by simp[lk]
 |_::_,[]=>by simp[lk]
 |y::ks,x::xs=>by
  rw[List.map_cons,CJ,CJ]
  by_cases e:k=y
  ·rw[if_pos e,if_pos e];rfl
  ·rw[if_neg e,if_neg e];exact GQ f
def iz:List (Ak×Pt)->Nat
 |[]=>0
 |p::r=>p.1.size+iz r
theorem GP {a b:List Ak} (p:a.Perm b):Ak.AL a=Ak.AL b:=by
 induction p with
 |nil=>rfl
 |cons x _ c=>simp only[Ak.AL,c]
 |swap x y l=>simp only[Ak.AL];lia
 |trans _ _ d e=>exact d.trans e
structure Prs (G:Hp) (u v:V) (a:Ak) (t:Pt) (l es fs:List V) (ps:List (Ak×Pt)):Prop where
 le:es.length=l.length
 lf:fs.length=l.length
 lp:ps.length=l.length
 ge:∀(i:Nat) e,es[i]?=some e->∃s,l[i]?=some s/\c_ G u s e
 gf:∀(i:Nat) e,fs[i]?=some e->∃s,l[i]?=some s/\c_ G v s e
 va:∀(i:Nat) e p,es[i]?=some e->ps[i]?=some p->Val G e p.1.pt
 vb:∀(i:Nat) e p,fs[i]?=some e->ps[i]?=some p->Val G e p.2
 kp:Ak.Kp a t ps
 ok:∀p∈ps,p.1.ok/\p.2.doc/\p.1.size<a.size/\p.2.size<t.size
 sm:iz ps<a.size
end
section
variable{K:AGW} [BY K]
def nw (H H':Hp):Hp:=fun b=>match H b with
 |none=>H' b
 |some _=>none
theorem BB {H H':Hp} {b:Addr} (h:H b=none):nw H H' b=H' b:=by unfold nw;rw[h]
theorem FY {H H':Hp} {b:Addr} {o} (h:H b=some o):nw H H' b=none:=by unfold nw;rw[h]
theorem Ey {H H':Hp}:AE (nw H H') H':=fun b o e=>by
 cases h:H b with
 |none=>rw[BB h]at e;exact e
 |some z=>rw[FY h]at e;cases e
structure Bt (o:Option Addr) (H H':Hp):Prop where
 keep:∀b e,o≠some b->H b=some e->H' b=some e
 GB:∀b,H' b=none->H b=none
theorem Bt.refl {o:Option Addr} {H:Hp}:Bt o H H:=⟨fun _ _ _ e=>e,fun _ h=>h⟩
theorem Bt.of {o:Option Addr} {H H':Hp} (s:AE H H'):Bt o H H':=⟨fun b e _ h=>s b e h,fun b h=>s.free h⟩
theorem Bt.same {H H':Hp} (s:Bt none H H'):AE H H':=fun b e h=>s.keep b e (fun z=>nomatch z) h
theorem Bt.trans {o:Option Addr} {H d H2:Hp} (a:Bt o H d) (b:Bt o d H2):Bt o H H2:=⟨fun c e n h=>b.keep c e n (a.keep c e n h),fun c h=>a.GB c (b.GB c h)⟩
theorem CC {H:Hp} {p b:Addr} {o:HO} (h:upd H p o b=none):b≠p/\H b=none:=by
 by_cases e:b=p
 ·subst e;rw[AF]at h;cases h
 ·rw[AJ e]at h;exact⟨e,h⟩
theorem Bt.put {l:Addr} {H d:Hp} {o:HO} (a:Bt (some l) H d):Bt (some l) H (upd d l o):=⟨fun c e n h=>by rw[AJ (fun z=>n (by rw[z]))];exact a.keep c e n h,fun b h=>a.GB b (CC h).2⟩
theorem Bt.new {o:Option Addr} {p:Addr} {H f:Hp} {e:HO} (a:Bt o H f) (h:H p=none):Bt o H (upd f p e):=⟨fun c g n d=>by rw[AJ (fun z=>by rw[z,h]at d;cases d)];exact a.keep c g n d,fun b h=>a.GB b (CC h).2⟩
def JJ (l:Addr) (H:Hp):Hp:=fun b=>if b=l then none else H b
theorem FZ {l b:Addr} {H:Hp} (h:b≠l):JJ l H b=H b:=by unfold JJ;rw[if_neg h]
theorem SG {l:Addr} {H:Hp}:AE (JJ l H) H:=fun b o e=>by
 unfold JJ at e
 by_cases h:b=l
 ·rw[if_pos h]at e;cases e
 ·rw[if_neg h]at e;exact e
theorem CD {H a H2 c:Hp} (d:∀b,a b=none->H b=none) (s:∀b o,a b=none->H2 b=some o->c b=some o):AE (nw a H2) (nw H c):=fun b o e=>by
 cases h:a b with
 |none=>rw[BB h]at e;rw[BB (d b h)];exact s b o h e
 |some z=>rw[FY h]at e;cases e
theorem Aj.snoc {H:Hp} {vs:List V} {ts:List Pt} {v:V} {t:Pt} (h:Aj H vs ts) (g:Val H v t):Aj H (vs++[v]) (ts++[t]):=h.append (.cons g .nil)
section
variable{J:It} {te:TE} {fs:List Nat} {σ:St} {H:Hp} {Q:VK}
theorem Gx (o:Option Addr) (n:Nat) (item:Nat->V) (a:Nat->List Pt->Hp->Prop) (P:n<=1000) (E:∀D,H D=none->a 0 [] (upd H D (.lst [])))
  (F:∀i us H2 D ws,Bt o H H2->H D=none->a i us H2->a i us (upd H2 D (.lst ws))) (hl:∀l,o=some l->H l≠none)
  (t:∀i us H2,i<n->Bt o H H2->a i us H2->J.go i H2) (G:∀i us H2 v H',i<n->Bt o H H2->a i us H2->J.NX i H2 v H'->v=item i/\H'=H2) (x:∀us H2,Bt o H H2->a n us H2->J.stop n H2)
  (I:∀i us H2 (R:VK),i<n->Bt o H H2->a i us H2->us.length=i->(∀w u f,Bt o H2 f->Val (nw H2 f) w u->a (i+1) (us++[u]) f->R w f)->te (some (item i)::Bn σ fs) H2 R)
  (L:∀D H2 ws us,H D=none->Bt o H H2->H2 D=some (.lst ws)->us.length=n->Aj (nw H H2) ws us->a n us H2->Q (.ref D) H2):EN J OH te fs σ H Q:=by
 refine Fm n item (fun D i H2=>H D=none/\Bt o H H2/\∃ws us,H2 D=some (.lst ws)/\us.length=i/\Aj (nw (upd H D (.lst [])) H2) ws us/\a i us H2)
  (fun D c=>⟨c,.new .refl c,[],[],AF,rfl,.nil,E D c⟩) (fun D i H2 g ⟨_,s,ws,us,_,_,_,d⟩=>t i us H2 g s d) (fun D i H2 v H' g ⟨_,s,ws,us,_,_,_,d⟩ y=>G i us H2 v H' g s d y) (fun D H2 ⟨_,s,ws,us,_,_,_,d⟩=>x us H2 s d) (fun D i H2 _ g ⟨c,s,ws,us,j,p,q,d⟩=>?_) (fun D H2 _ ⟨c,s,ws,us,j,p,q,d⟩=>?_)
 ·refine I i us H2 _ g s d p fun w u f r M A=>?_
  have N:o≠some D:=fun z=>hl D z c
  have O:=r.keep D _ N j
  have S:=q.length
  have C:∀b,upd H D (.lst []) b=none->b≠D/\H b=none:=fun b h=>CC h
  refine⟨ws,O,Nat.lt_of_le_of_lt (by lia) (BG (Nat.le_refl 1000)),c,(s.trans r).new c,ws++[w],us++[u],AF,by simp[p],Aj.snoc (q.up (CD (fun b h=>h) fun b e k B=>?_)) (M.up (CD (fun b h=>?_) fun b e k B=>?_)),F _ _ _ _ _ (s.trans r) c A⟩
  ·have m:=(C b k).1
   rw[AJ m]
   refine r.keep b e (fun z=>?_) B
   exact hl b z (C b k).2
  ·have m:b≠D:=fun z=>by rw[z,j]at h;cases h
   rw[AJ m]
   exact s.GB b h
  ·have m:b≠D:=fun z=>by rw[z,j]at k;cases k
   rw[AJ m]
   exact B
 ·exact L D H2 ws us c s j p (q.up (CD (fun b h=>(CC h).2) fun b e _ h=>h)) d
theorem UO (o:Option Addr) (n:Nat) (item:Nat->V) (ks:List Str) (c:Nat->List Pt->Hp->Prop) (hn:n<=1000) (h0:∀D,H D=none->c 0 [] (upd H D (.lst [])))
  (T:∀i us H2 D e,Bt o H H2->(H D=none)->c i us H2->c i us (upd H2 D e)) (hl:∀l,o=some l->H l≠none)
  (G:∀i us H2,i<n->Bt o H H2->c i us H2->J.go i H2) (hy:∀i us H2 v H',i<n->Bt o H H2->c i us H2->J.NX i H2 v H'->v=item i/\H'=H2) (I:∀us H2,Bt o H H2->c n us H2->J.stop n H2)
  (he:∀i us H2 (R:VK),i<n->Bt o H H2->c i us H2->us.length=i->(∀w u k t,Bt o H2 k->Val (nw H2 k) w u->c (i+1) (us++[u]) k->k t=none->R (.ref t) (upd k t (.tup [.str (ks.getD i ""),w])))->te (some (item i)::Bn σ fs) H2 R)
  (hQ:∀D H2 (ts:List Addr) ws us,H D=none->Bt o H H2->H2 D=some (.lst (ts.map V.ref))->ts.length=n->us.length=n->(∀(j:Nat) t w,ts[j]?=some t->ws[j]?=some w->H2 t=some (.tup [.str (ks.getD j ""),w])/\H t=none)->Aj (nw H H2) ws us->c n us H2->Q (.ref D) H2):EN J OH te fs σ H Q:=by
 refine Fm n item (fun D i H2=>H D=none/\Bt o H H2/\∃(ts:List Addr) (ws:List V) (us:List Pt),H2 D=some (.lst (ts.map V.ref))/\ts.length=i/\us.length=i/\(∀(j:Nat) t w,ts[j]?=some t->ws[j]?=some w->H2 t=some (.tup [.str (ks.getD j ""),w])/\H t=none)/\Aj (nw (upd H D (.lst [])) H2) ws us/\c i us H2)
  (fun D d=>⟨d,.new .refl d,[],[],[],AF,rfl,rfl,(fun j t w h=>by simp at h),.nil,h0 D d⟩) (fun D i H2 r ⟨_,s,ts,ws,us,_,_,_,_,_,g⟩=>G i us H2 r s g) (fun D i H2 v H' r ⟨_,s,ts,ws,us,_,_,_,_,_,g⟩ y=>hy i us H2 v H' r s g y) (fun D H2 ⟨_,s,ts,ws,us,_,_,_,_,_,g⟩=>I us H2 s g) (fun D i H2 _ r ⟨d,s,ts,ws,us,x,lt,C,L,E,g⟩=>?_) (fun D H2 _ ⟨d,s,ts,ws,us,x,lt,C,L,E,g⟩=>?_)
 ·refine he i us H2 _ r s g C fun w u k t m vw M p=>?_
  have oD:o≠some D:=fun z=>hl D z d
  have N:=m.keep D _ oD x
  have U:t≠D:=fun z=>by rw[z,N]at p;cases p
  have d4:upd k t (.tup [.str (ks.getD i ""),w]) D=some (.lst (ts.map V.ref)):=by rw[AJ (Ne.symm U)];exact N
  have lw:=E.length
  have F:H t=none:=(s.trans m).GB t p
  have X:∀b,upd H D (.lst []) b=none->b≠D/\H b=none:=fun b h=>CC h
  refine⟨ts.map V.ref,d4,Nat.lt_of_le_of_lt (by rw[List.length_map];lia) (BG (Nat.le_refl 1000)),d,((s.trans m).new F).new d,ts++[t],ws++[w],us++[u],by rw[AF,List.map_append];rfl,by simp[lt],by simp[C],fun j q Y a f=>?_,Aj.snoc (E.up (CD (fun b h=>h) fun b e a f=>?_)) (vw.up (CD (fun b h=>?_) fun b e a f=>?_)),T _ _ _ _ _ ((s.trans m).new F) d (T _ _ _ _ _ (s.trans m) F M)⟩
  ·by_cases hj:j<ts.length
   ·rw[List.getElem?_append_left hj]at a
    rw[List.getElem?_append_left (by lia)]at f
    obtain⟨g1,Z⟩:=L j q Y a f
    have A:=m.keep q _ (fun z=>hl q z Z) g1
    have n1:q≠t:=fun z=>by rw[z,p]at A;cases A
    have n2:q≠D:=fun z=>by rw[z,N]at A;cases A
    exact⟨by rw[AJ n2,AJ n1];exact A,Z⟩
   ·have O:=(AGT a).1
    rw[List.length_append,List.length_singleton]at O
    have ej:j=i:=by lia
    subst ej
    rw[List.getElem?_append_right (by lia),lt,Nat.sub_self]at a
    have e1:t=q:=by simpa using a
    subst e1
    rw[List.getElem?_append_right (by lia),show j-ws.length=0 by lia]at f
    have e2:w=Y:=by simpa using f
    subst e2
    exact⟨by rw[AJ U,AF],F⟩
  ·have B:=(X b a).1
   have hb:=(X b a).2
   have P:=m.keep b e (fun z=>hl b z hb) f
   have S:b≠t:=fun z=>by rw[z,p]at P;cases P
   rw[AJ B,AJ S]
   exact P
  ·have B:b≠D:=fun z=>by rw[z,x]at h;cases h
   rw[AJ B]
   exact s.GB b h
  ·have B:b≠D:=fun z=>by rw[z,x]at a;cases a
   have S:b≠t:=fun z=>by rw[z,p]at f;cases f
   rw[AJ B,AJ S]
   exact f
 ·exact hQ D H2 ts ws us d s x lt C L (E.up (CD (fun b h=>(CC h).2) fun b e _ h=>h)) g
end
mutual
def Pt.nice:Pt->Prop
 | .int _| .str _| .bl _| .Av=>True
 | .lst xs| .tup xs=>xs.length<=900/\Pt.CG xs
 | .BX ks xs=>ks.length=xs.length/\ks.Nodup/\ks.length<=900/\Pt.CG xs
def Pt.CG:List Pt->Prop
 |[]=>True
 |x::r=>Pt.nice x/\Pt.CG r
end
theorem Pt.Fn:∀{xs:List Pt},Pt.CG xs->∀x∈xs,x.nice
 |y::r,h,x,a=>by
  simp only[Pt.CG]at h
  rcases List.mem_cons.mp a with rfl|a
  ·exact h.1
  ·exact Pt.Fn h.2 x a
theorem Pt.J_:∀{xs:List Pt},(∀x∈xs,x.nice)->Pt.CG xs
 |[],_=>trivial
 |x::r,h=>⟨h x List.mem_cons_self,Pt.J_ fun y a=>h y (List.mem_cons_of_mem _ a)⟩
mutual
theorem Pt.J':∀t:Pt,t.doc->t.size<=900->t.nice
 | .int _,_,_=>trivial
 | .str _,_,_=>trivial
 | .bl _,d,_=>by simp[Pt.doc]at d
 | .Av,d,_=>by simp[Pt.doc]at d
 | .tup _,d,_=>by simp[Pt.doc]at d
 | .lst xs,d,z=>by
  simp only[Pt.doc]at d
  simp only[Pt.size]at z
  have:=Pt.Dj xs
  simp only[Pt.nice]
  exact⟨by lia,Pt.IB xs d (by lia)⟩
 | .BX a xs,d,z=>by
  simp only[Pt.doc]at d
  simp only[Pt.size]at z
  simp only[Pt.nice]
  exact⟨d.1,d.2.1,by lia,Pt.IB xs d.2.2.2.2 (by lia)⟩
theorem Pt.IB:∀xs:List Pt,Pt.ER xs->Pt.AL xs<=900->Pt.CG xs
 |[],_,_=>trivial
 |x::r,d,z=>by
  simp only[Pt.ER]at d
  simp only[Pt.AL]at z
  exact⟨Pt.J' x d.1 (by lia),Pt.IB r d.2 (by lia)⟩
end
def CO (ks:List Str) (ws:List V):List (Key×V):=(ks.zip ws).map fun p=>(Sum.inr p.1,p.2)
theorem CP {ks:List Str} {ws:List V} (l:ks.length=ws.length):(CO ks ws).map (·.1)=ks.map Sum.inr:=by
 unfold CO
 rw[List.map_map]
 have:(ks.zip ws).map Prod.fst=ks:=List.map_fst_zip (by lia)
 conv=>rhs;rw[<-this,List.map_map]
 rfl
theorem Eh {ks:List Str} {ws:List V} (l:ks.length=ws.length):(CO ks ws).map (·.2)=ws:=by
 unfold CO
 rw[List.map_map]
 have:(ks.zip ws).map Prod.snd=ws:=List.map_snd_zip (by lia)
 conv=>rhs;rw[<-this]
 rfl
theorem EJ {ks:List Str} {ws:List V} (l:ks.length=ws.length):(CO ks ws).length=ks.length:=by
 have:=congrArg List.length (CP l)
 simpa using this
theorem Mt {ks:List Str} {ws:List V} {j:Nat} {k:Key} {v:V} (h:(CO ks ws)[j]?=some (k,v)):∃nm,ks[j]?=some nm/\ws[j]?=some v/\k=Sum.inr nm:=by
 unfold CO at h
 rw[List.getElem?_map]at h
 cases e:(ks.zip ws)[j]? with
 |none=>rw[e]at h;cases h
 |some p=>
  obtain⟨x,y⟩:=p
  rw[e]at h
  have h:=AGU h
  rw[List.getElem?_zip_eq_some]at e
  have a:(Sum.inr x:Key)=k:=congrArg Prod.fst h
  have b:y=v:=congrArg Prod.snd h
  subst a b
  exact⟨x,e.1,e.2,rfl⟩
theorem Fo {ks:List Str} {ws:List V} (l:ks.length=ws.length) (nd:ks.Nodup):CN [] (CO ks ws)=CO ks ws:=Et _ _ (by
 have:((CO ks ws).map (·.1)).Nodup:=by
  rw[CP l]
  exact List.Pairwise.map _ (fun a b h z=>h (Sum.inr.inj z)) nd
 simpa using this)
theorem WY {kvs:List (Key×V)} {ks:List Str} (c:kvs.map (·.1)=ks.map Sum.inr) {i:Nat} {k:Key} {v:V} (e:kvs[i]?=some (k,v)):i<ks.length/\k=Sum.inr (ks.getD i ""):=by
 have d:kvs.length=ks.length:=by have:=congrArg List.length c;simpa using this
 have a:=(AGT e).1
 rw[d]at a
 refine⟨a,?_⟩
 have b:=congrArg (fun z=>z[i]?) c
 simp only[List.getElem?_map,e,AGS a]at b
 have b:k=Sum.inr ks[i]:=by simpa using b
 rw[b,List.getD_eq_getElem?_getD,AGS a]
 rfl
theorem Qj {H:Hp}:∀{kvs:List (Key×V)} {ks:List Str} {ts:List Pt},kvs.map (·.1)=ks.map Sum.inr->Aj H (kvs.map (·.2)) ts->ks.Nodup->∀{i:Nat},i<ks.length->∃v t,BM kvs (Sum.inr (ks.getD i ""))=some v/\ts[i]?=some t/\Val H v t
 |[],[],_,_,_,_,i,h=>by simp at h
 |[],_::_,_,h,_,_,_,_=>by simp at h
 |_::_,[],_,h,_,_,_,_=>by simp at h
 |(y,v)::kvs,x::ks,_,h,.cons b r,nd,0,c=>by
  simp only[List.map_cons,List.cons.injEq]at h
  obtain⟨e,h⟩:=h
  subst e
  exact⟨v,_,Bl rfl,by simp,b⟩
 |(y,v)::kvs,x::ks,_,h,.cons b r,nd,i+1,c=>by
  simp only[List.map_cons,List.cons.injEq]at h
  obtain⟨e,h⟩:=h
  subst e
  obtain⟨d,f⟩:=List.nodup_cons.mp nd
  have a:i<ks.length:=by simpa using c
  obtain⟨w,t,g,j,k⟩:=Qj h r f a
  have l:(x::ks).getD (i+1) ""=ks.getD i "":=by simp
  rw[l]
  refine⟨w,t,?_,by simpa using j,k⟩
  rw[Bm (fun z=>d ?_)]
  ·exact g
  ·have z:=Sum.inr.inj z
   rw[z,List.getD_eq_getElem?_getD,AGS a]
   exact List.getElem_mem a
mutual
def Pt.wide:Pt->Nat
 | .int _| .str _| .bl _| .Av=>0
 | .lst xs| .tup xs=>Pt.WZ xs
 | .BX ks xs=>max ks.length (Pt.WZ xs)
def Pt.WZ:List Pt->Nat
 |[]=>0
 |x::r=>max (Pt.wide x) (Pt.WZ r)
end
structure Qk (H:Hp) (n:Addr) (ys:List Str):Prop where
 at_:H n=some (.lst (ys.map V.str))
 len:ys.length=4
 nd:ys.Nodup
 nb:∀y∈ys,Cb y=true
theorem Qk.up {H H':Hp} {n:Addr} {ys:List Str} (h:Qk H n ys) (s:AE H H'):Qk H' n ys:=⟨s _ _ h.at_,h.len,h.nd,h.nb⟩
theorem Qk.but {H H':Hp} {n l:Addr} {ys:List Str} (h:Qk H n ys) (s:Bt (some l) H H') (nl:n≠l):Qk H' n ys:=⟨s.keep _ _ (fun z=>nl (AGU z).symm) h.at_,h.len,h.nd,h.nb⟩
structure Small (H H':Hp) (v:V) (t:Pt):Prop where
 val:Val (nw H H') v t
 sm:Sm t
 doc:t.doc
 size:t.size<=4
 deep:t.deep<=2
def KA:Sp:=fun b H Q _=>∃(c:Int) (k:Nat) (n:Addr) (d:List Str),b=[.int c,.int (k:Int),.ref n]/\k<=1000/\Qk H n d/\∀(v:V) (t:Pt) (a:Hp),AE H a->Small H a v t->Q v a
def JK (n:Nat):Sp:=fun b H Q _=>∃(v:V) (t:Pt),b=[v]/\Val H v t/\t.nice/\t.deep<=n/\∀(w:V) (a:Hp),AE H a->Val (nw H a) w t->Q w a
def Mu (n:Nat):Sp:=fun f H Q _=>∃(l:Addr) (d:Nat) (nm:Addr) (c:List Int) (g:List Str),f=[.ref l,.int (d:Int),.ref nm]/\d+4<=n/\H l=some (.lst (c.map V.int))/\c.length<=100/\nm≠l/\Qk H nm g/\
 ∀(v:V) (a:Ak) (b:List Int) (e:Hp),Bt (some l) H e->e l=some (.lst (b.map V.int))->b.length<=c.length->Val (nw H e) v a.pt->a.ok->a.size<=1+4*(c.length-b.length)->a.deep<=d+1->a.Fz->Q v e
def ov (G H H':Hp):Hp:=fun b=>match G b with
 |some o=>some o
 |none=>nw H H' b
theorem DE {G H H':Hp}:AE G (ov G H H'):=fun b o e=>by unfold ov;rw[e]
theorem Mv {G H H':Hp} (s:AE G H) (a:AE H H'):AE (ov G H H') H':=fun b o e=>by
 unfold ov at e
 cases h:G b with
 |some z=>rw[h]at e;cases e;exact a _ _ (s _ _ h)
 |none=>rw[h]at e;exact Ey _ _ e
def SH:Sp:=fun e H Q _=>∃(v:V) (a:Ak) (c:Int) (nm:Addr) (f:List Str),e=[v,.int c,.ref nm]/\Val H v a.pt/\a.ok/\a.size<=57/\a.deep<=5/\a.Fz/\Qk H nm f/\
 ∀(w:V) (b:Ak) (d:Hp),AE H d->Val d w b.pt->b.ok->b.size<=70->b.deep<=15->b.Fz->Q w d
end
section
variable{K:AGW} [BY K]
theorem ar {a:List (Key×V)} {b:List Str} (c:a.map (·.1)=b.map Sum.inr) (k:Str):(BM a (Sum.inr k)).isSome=decide (k∈b):=by
 rw[Bool.eq_iff_iff,decide_eq_true_iff]
 have d:(Sum.inr k:Key)∈a.map (·.1)↔k∈b:=by
  rw[c]
  constructor
  ·intro h
   obtain⟨y,f,e⟩:=List.mem_map.mp h
   rw[<-Sum.inr.inj e];exact f
  ·exact fun h=>List.mem_map_of_mem h
 rw[<-d]
 cases e:BM a (Sum.inr k:Key)with
 |none=>simp only[Option.isSome_none];exact⟨(fun h=>nomatch h),fun h=>absurd h (OG e)⟩
 |some z=>simp only[Option.isSome_some];exact⟨fun _=>Mc e,fun _=>trivial⟩
end
section
variable{X:Cx}
theorem Mw {ss:List Str}:∀{us:List Value},Vals (ss.map V.str) us->StrsAre us ss:=by
 induction ss with
 |nil=>intro us h;cases h;exact .nil
 |cons x r a=>
  intro us h
  cases h with
  |cons b c=>
   obtain⟨t,rfl⟩:=b
   exact .cons x t (a c)
inductive Ql (K:AGW) (xs:List V) (H:Hp) (Q:VK):Prop
 |mk (d:Addr) (ss:List Str) (b:xs=[.ref d]) (c:An K H d (ss.map V.str)) (e:ss.length<64) (f:∀(p:Addr) (a:List Str) (H':Hp),H p=none->AE H H'->H' p=some (.lst (a.map V.str))->a.Perm ss->sortedS a=true->Q (.ref p) H'):Ql K xs H Q
theorem Mx (R:X.calm=true):Bq X (.builtin "sorted") (Ql X.K):=by
 intro pins s S H T U Q I r h
 obtain⟨d,y,rfl,J,n,q⟩:=h
 obtain⟨u,rfl,L⟩:=vals1 r
 cases L
 obtain⟨a,z,pl,l⟩:=I.list J
 obtain⟨W,p,j,Y,k⟩:=id pl.isList
 have A:a.length=y.length:=by rw[<-z.length,List.length_map]
 have l:a.length<=sizeLine:=Nat.le_of_lt (BG (by lia))
 have t:StrsAre a y:=Mw z
 refine Calls.call_function_entry kind_sorted plain_sorted entry_sorted (args_sorted1 _) ?_
 unfold Builtin.«sorted»
 refine wpAny_bind (m:=checkCount "sorted" 1 1 _) (wpAny_pure (wpAny_bind (wpAny_collect_seq d (.inl rfl) p j k (fun c keep=>?_) (by rw[List.size_toArray];exact l))))
 rw[List.toList_toArray]
 refine wpAny_bind (wpAny_newList ?_ l)
 have f:(c.push {cls:=.type "list",data:=.seq a.toArray}).get? c.objs.size=some (seqObj "list" a.toArray 0):=Heap.get?_push_size _ rfl
 refine wpAny_bind (wpAny_holding (wpAny_call_entry slot_list_sort ⟨_,f,rfl⟩ entry_list_sort (list_sort_treeK strKind_oneLt f t.keysOf (fun B C rest e=>keyKind_strs (by rw[<-e];exact t)) (by rw[A];exact n) fun g a1 a2=>⟨_,rfl,?_⟩) (args_list_sort _)))
 obtain⟨i,M,D,N⟩:=sorted_out_str t a1 a2
 obtain⟨O,P⟩:=sortedHeap_at (out:=(arrOf g).map (·.2)) f
 refine wpAny_pure ⟨_,rfl,?_⟩
 have v:(c.push {cls:=.type "list",data:=.seq a.toArray}).objs.size=c.objs.size+1:=size_push' ..
 have E:=I.kept (t':=s.toks) keep
 have k2:∀b o,c.get? b=some o->(sortedHeap (c.push {cls:=.type "list",data:=.seq a.toArray}) c.objs.size a ((arrOf g).map (·.2))).get? b=some o:=fun b o e=>by
  have F:b<c.objs.size:=Heap.lt_size e
  rw[sortedHeap_old (Nat.ne_of_lt F) (by rw[v];exact Nat.lt_succ_of_lt F)]
  exact Heap.get?_push_of_some _ e
 have x:i.length<=sizeLine:=by
  rw[D.length_eq,<-A]
  exact l
 have new:BO X.prog X.w (upd H c.objs.size (.lst (i.map V.str))) (sortedHeap (c.push {cls:=.type "list",data:=.seq a.toArray}) c.objs.size a ((arrOf g).map (·.2))) c.objs.size (.lst (i.map V.str)):=
  ⟨by rw[List.length_map];exact x,((arrOf g).map (·.2)).toList,O,Lm M,by rw[Array.toArray_toList];exact P⟩
 have G:H c.objs.size=none:=E.fresh
 exact⟨.ref c.objs.size,_,E.laid (t':=s.toks) k2 (Nat.le_refl _) new,rfl,q _ i _ G (AE.new G) AF D N⟩
inductive c' (xs:List V) (H:Hp) (Q:VK):Prop
 |mk (d:Addr) (a:List (Key×V)) (ss:List Str) (b:xs=[.ref d]) (c:Rd H d (.dK a)) (e:a.map (·.1)=ss.map Sum.inr) (f:∀(p:Addr),H p=none->Q (.ref p) (upd H p (.lst (ss.map V.str)))):c' xs H Q
end
section
variable{K:AGW} [BY K]
namespace Ak
theorem Cf (a b:List Ak):CY (a++b)=CY a++CY b:=by simp[AZ]
theorem Am (a b:List Ak):AL (a++b)=AL a+AL b:=by
 induction a with
 |nil=>simp[AL]
 |cons x r c=>simp only[List.cons_append,AL,c];lia
theorem Bi (a b:List Ak):AW (a++b)=max (AW a) (AW b):=by
 induction a with
 |nil=>simp[AW]
 |cons x r c=>simp only[List.cons_append,AW,c];lia
theorem CQ {a b:List Ak} (h:DD a) (g:DD b):DD (a++b):=ES fun x c=>(List.mem_append.mp c).elim (Bx h x) (Bx g x)
theorem Fp (a:Ak):AL [a]=a.size:=by simp[AL]
theorem Fq (a:Ak):AW [a]=a.deep:=by simp[AW]
theorem JL {a:Ak} (h:a.ok):DD [a]:=⟨h,trivial⟩
end Ak
theorem Qm {ks:List Str} {ws:List V} (l:ks.length=ws.length) (y:Str) (v:V):CO (ks++[y]) (ws++[v])=CO ks ws++[(Sum.inr y,v)]:=by
 unfold CO
 rw[List.zip_append l,List.map_append]
 rfl
theorem SI {ks:List Str} {ws:List V} (l:ks.length=ws.length) {y:Str} (h:y∉ks) (v:V):putK (CO ks ws) (Sum.inr y) v=CO (ks++[y]) (ws++[v]):=by
 rw[Qm l,OB]
 have:=ar (CP l) y
 rw[decide_eq_false h]at this
 cases e:BM (CO ks ws) (Sum.inr y:Key)with
 |none=>rfl
 |some z=>rw[e]at this;cases this
structure F_ (H H4:Hp) (l p6 p7:Addr) (ys:List Str) (d N:Nat) (i:Nat) (Hi:Hp) (ks:List Str) (as:List Ak) (ls:List Str) (LJ:List Int) (ws:List V):Prop where
 n6:H p6=none
 n7:H p7=none
 o6:H4 p6≠none
 o7:H4 p7≠none
 ne:p6≠p7
 hl:H l≠none
 h4:∀b,H4 b=none->H b=none
 bt:Bt (some l) H Hi
 dm:∀b,Hi b=none->H4 b=none
 e6:Hi p6=some (.dK (CO ks ws))
 e7:Hi p7=some (.lst (ls.map V.str))
 el:Hi l=some (.lst (LJ.map V.int))
 le:LJ.length<=N
 lw:ks.length=ws.length
 la:ks.length=as.length
 vl:Aj (nw H4 Hi) ws (Ak.CY as)
 ok:Ak.DD as
 fw:Ak.IA as
 lm:ks.length+ls.length<=i
 sz:Ak.AL as<=i+4*(N-LJ.length)
 dp:Ak.AW as<=d
 ik:∀k∈ks,∃j,j<i/\ys[j]?=some k
 il:∀k∈ls,∃j,j<i/\ys[j]?=some k
 nk:ks.Nodup
 dj:∀x∈ls,x∉ks
 l4:ks.length<=i
 m4:ls.length<=i
 nl:ls.Nodup
section
variable{H H4:Hp} {l p6 p7:Addr} {ys:List Str} {d N:Nat} {i:Nat} {Hi:Hp} {ks:List Str} {as:List Ak} {ls:List Str} {LJ:List Int} {ws:List V}
theorem F_.up {H':Hp} (t:F_ H H4 l p6 p7 ys d N i Hi ks as ls LJ ws) (s:AE Hi H'):F_ H H4 l p6 p7 ys d N i H' ks as ls LJ ws:=
 {t with bt:=t.bt.trans (.of s),dm:=fun b h=>t.dm b (s.free h),e6:=s _ _ t.e6,e7:=s _ _ t.e7,el:=s _ _ t.el,vl:=t.vl.up (CD (fun b h=>h) fun b e _ h=>s _ _ h)}
theorem F_.weak (t:F_ H H4 l p6 p7 ys d N i Hi ks as ls LJ ws):F_ H H4 l p6 p7 ys d N (i+1) Hi ks as ls LJ ws:=
 {t with sz:=by have:=t.sz;lia,lm:=by have:=t.lm;lia,ik:=fun k a=>let⟨j,c,b⟩:=t.ik k a;⟨j,by lia,b⟩,il:=fun k a=>let⟨j,c,b⟩:=t.il k a;⟨j,by lia,b⟩,l4:=by have:=t.l4;lia,m4:=by have:=t.m4;lia}
theorem F_.fresh (t:F_ H H4 l p6 p7 ys d N i Hi ks as ls LJ ws) {y:Str} (c:ys[i]?=some y) (nd:ys.Nodup):y∉ks/\y∉ls:=by
 have e:=(AGT c).1
 have inj:∀j,j<i->ys[j]?=some y->False:=fun j b a=>by
  rw[<-c]at a
  have:=(List.getElem?_inj (by lia) nd).mp a
  lia
 exact⟨fun h=>let⟨j,b,a⟩:=t.ik y h;inj j b a,fun h=>let⟨j,b,a⟩:=t.il y h;inj j b a⟩
theorem F_.pf (t:F_ H H4 l p6 p7 ys d N i Hi ks as ls LJ ws) {y:Str} (c:ys[i]?=some y) (nd:ys.Nodup):F_ H H4 l p6 p7 ys d N (i+1) (upd Hi p7 (.lst (ls.map V.str++[.str y]))) ks as (ls++[y]) LJ ws:=by
 have f:=t.fresh c nd
 have l7:l≠p7:=fun z=>t.hl (by rw[z];exact t.n7)
 exact{t.weak with
  bt:=t.bt.new t.n7
  dm:=fun b h=>t.dm b (CC h).2
  e6:=by rw[AJ t.ne];exact t.e6
  e7:=by rw[AF,List.map_append];rfl
  el:=by rw[AJ l7];exact t.el
  vl:=t.vl.up (CD (fun b h=>h) fun b e g j=>by rw[AJ (fun z=>t.o7 (by rw[<-z];exact g))];exact j)
  il:=fun k m=>(List.mem_append.mp m).elim (fun h=>t.weak.il k h) fun h=>⟨i,by lia,by rw[List.mem_singleton.mp h];exact c⟩
  dj:=fun x n=>(List.mem_append.mp n).elim (fun h=>t.dj x h) fun h=>by rw[List.mem_singleton.mp h];exact f.1
  m4:=by have:=t.m4;simp;lia
  lm:=by have:=t.lm;simp;lia
  nl:=List.nodup_append.mpr ⟨t.nl,by simp,fun a o b p z=>f.2 (by rw[<-List.mem_singleton.mp p,<-z];exact o)⟩}
theorem F_.asked {H':Hp} {v:V} {a:Ak} {c:List Int} (t:F_ H H4 l p6 p7 ys d N i Hi ks as ls LJ ws) {y:Str} (o:ys[i]?=some y) (nd:ys.Nodup) (bt:Bt (some l) Hi H') (el:H' l=some (.lst (c.map V.int))) (le:c.length<=LJ.length) (q:Val (nw Hi H') v a.pt) (ok:a.ok) (sz:a.size<=1+4*(LJ.length-c.length)) (dp:a.deep<=d) (fw:a.Fz):
  H' p6=some (.dK (CO ks ws))/\putK (CO ks ws) (Sum.inr y) v=CO (ks++[y]) (ws++[v])/\F_ H H4 l p6 p7 ys d N (i+1) (upd H' p6 (.dK (CO (ks++[y]) (ws++[v])))) (ks++[y]) (as++[a]) ls c (ws++[v]):=by
 have f:=t.fresh o nd
 have l6:l≠p6:=fun z=>t.hl (by rw[z];exact t.n6)
 have l7:l≠p7:=fun z=>t.hl (by rw[z];exact t.n7)
 have e6:=bt.keep _ _ (fun z=>l6 (AGU z)) t.e6
 have e7:=bt.keep _ _ (fun z=>l7 (AGU z)) t.e7
 refine⟨e6,SI t.lw f.1 v,{t.weak with
  bt:=(t.bt.trans bt).new t.n6
  dm:=fun b h=>t.dm b (bt.GB b (CC h).2)
  e6:=AF
  e7:=by rw[AJ (Ne.symm t.ne)];exact e7
  el:=by rw[AJ l6];exact el
  le:=Nat.le_trans le t.le
  lw:=by have:=t.lw;simp[this]
  la:=by have:=t.la;simp[this]
  vl:=?_
  ok:=Ak.CQ t.ok (Ak.JL ok)
  fw:=Ak.EI t.fw ⟨fw,trivial⟩
  lm:=by have:=t.lm;simp;lia
  sz:=by
   rw[Ak.Am,Ak.Fp]
   have:=t.sz
   have:=t.le
   lia
  dp:=by rw[Ak.Bi,Ak.Fq];have:=t.dp;lia
  ik:=fun k r=>(List.mem_append.mp r).elim (fun h=>t.weak.ik k h) fun h=>⟨i,by lia,by rw[List.mem_singleton.mp h];exact o⟩
  nk:=by
   rw[List.nodup_append]
   refine⟨t.nk,by simp,fun a p b g z=>?_⟩
   rw[List.mem_singleton.mp g]at z
   rw[z]at p
   exact f.1 p
  dj:=fun x m h=>(List.mem_append.mp h).elim (fun h=>t.dj x m h) fun h=>by
   rw[List.mem_singleton.mp h]at m
   exact f.2 m
  l4:=by have:=t.l4;simp;lia}⟩
 rw[Ak.Cf]
 refine(t.vl.up (CD (fun b h=>h) fun b e j n=>?_)).snoc (q.up (CD (fun b h=>t.dm b h) fun b e j n=>?_))
 ·have g:b≠p6:=fun z=>t.o6 (by rw[<-z];exact j)
  rw[AJ g]
  exact bt.keep b e (fun z=>t.hl (by rw[AGU z];exact t.h4 b j)) n
 ·have g:b≠p6:=fun z=>by rw[z,t.e6]at j;cases j
  rw[AJ g]
  exact n
end
def ph (us:List Pt):Prop:=∀u∈us,u.doc/\u.size<=4/\u.deep<=2
theorem i_ {v:V} {i:Nat} {u:TS} {D:Ends} {a:St} {H:Hp} (h:u D (a.set i (some v)) H):QF (QH (tC v) (BP i)) u D a H:=h
theorem SJ {a:Type} {y k:Str} {t:a} (n:k≠y):∀{ks:List Str} {us:List a},ks.length=us.length->lk (ks++[y]) (us++[t]) k=lk ks us k
 |[],[],_=>by rw[List.nil_append,List.nil_append,CJ,if_neg n]
 |[],_::_,l=>by simp at l
 |_::_,[],l=>by simp at l
 |x::ks,u::us,l=>by rw[List.cons_append,List.cons_append,CJ,CJ,SJ n (by simpa using l)]
theorem Oj {G:Hp} {y:Str} {v:V} {t:Pt} (g:Val G v t):∀{ks:List Str} {ws:List V} {us:List Pt},ks.length=ws.length->ks.Nodup->Aj G ws us->∃(b:List V) (a:List Pt),(CO ks ws).map (fun e=>if e.1=(Sum.inr y:Key)then(e.1,v)else e)=CO ks b/\ks.length=b.length/\Aj G b a/\(∀u∈a,u∈us∨u=t)/\Pt.AL a<=Pt.AL us+(if y∈ks then t.size else 0)/\(∀k,k≠y->lk ks a k=lk ks us k)
 |[],[],_,_,_,.nil=>⟨[],[],rfl,rfl,.nil,(fun u h=>nomatch h),by simp,fun _ _=>rfl⟩
 |[],_::_,_,l,_,_=>by simp at l
 |_::_,[],_,l,_,_=>by simp at l
 |k::ks,w::ws,_,l,nd,.cons (t:=u) (ts:=us) h r=>by
  obtain⟨q,s⟩:=List.nodup_cons.mp nd
  obtain⟨b,a,i,j,m,n,A,o⟩:=Oj (y:=y) g (ks:=ks) (ws:=ws) (by simpa using l) s r
  have p:CO (k::ks) (w::ws)=(Sum.inr k,w)::CO ks ws:=rfl
  by_cases f:k=y
  ·subst f
   refine⟨v::b,t::a,?_,by simp[j],.cons g m,fun x c=>?_,?_,fun z d=>by rw[CJ,CJ,if_neg d,if_neg d];exact o z d⟩
   ·rw[p,List.map_cons,i,if_pos rfl];rfl
   ·rcases List.mem_cons.mp c with rfl|c
    ·exact .inr rfl
    ·exact(n x c).imp (List.mem_cons_of_mem _) id
   ·rw[if_neg q]at A
    rw[if_pos List.mem_cons_self]
    simp only[Pt.AL];lia
  ·refine⟨w::b,u::a,?_,by simp[j],.cons h m,fun x c=>?_,?_,fun z d=>by rw[CJ,CJ,o z d]⟩
   ·rw[p,List.map_cons,i,if_neg (fun z=>f (Sum.inr.inj z))];rfl
   ·rcases List.mem_cons.mp c with rfl|c
    ·exact .inl List.mem_cons_self
    ·exact(n x c).imp (List.mem_cons_of_mem _) id
   ·have:(y∈k::ks)↔y∈ks:=by
     constructor
     ·intro h;exact(List.mem_cons.mp h).resolve_left (fun z=>f z.symm)
     ·exact List.mem_cons_of_mem _
    simp only[this,Pt.AL];lia
theorem Yt {G:Hp} {y:Str} {v:V} {t:Pt} (i:Val G v t) {ks:List Str} {ws:List V} {us:List Pt} (l:ks.length=ws.length) (nd:ks.Nodup) (h:Aj G ws us):∃(c:List Str) (e:List V) (d:List Pt),putK (CO ks ws) (Sum.inr y) v=CO c e/\c.length=e.length/\c.Nodup/\Aj G e d/\(∀k∈c,k∈ks∨k=y)/\(∀u∈d,u∈us∨u=t)/\Pt.AL d<=Pt.AL us+t.size/\c.length<=ks.length+1/\(∀k∈ks,k∈c)/\ks.length<=c.length/\(∀k,k≠y->lk c d k=lk ks us k):=by
 by_cases g:y∈ks
 ·obtain⟨e,d,n,o,p,q,j,r⟩:=Oj i (y:=y) l nd h
  refine⟨ks,e,d,?_,o,nd,p,fun k f=>.inl f,q,by rw[if_pos g]at j;exact j,by lia,fun k f=>f,Nat.le_refl _,r⟩
  unfold putK
  rw[if_pos,n]
  rw[Ct,ar (CP l)]
  exact decide_eq_true g
 ·refine⟨ks++[y],ws++[v],us++[t],SI l g v,by simp[l],?_,h.snoc i,fun k f=>?_,fun u s=>?_,?_,by simp,fun k f=>List.mem_append_left _ f,by simp,fun k f=>SJ f (by rw[l,h.length])⟩
  ·rw[List.nodup_append]
   refine⟨nd,by simp,fun a m b w z=>?_⟩
   rw[List.mem_singleton.mp w]at z
   rw[z]at m
   exact g m
  ·exact(List.mem_append.mp f).imp id List.mem_singleton.mp
  ·exact(List.mem_append.mp s).imp id List.mem_singleton.mp
  ·rw[Pt.Am];simp only[Pt.AL];lia
end
section
variable{K:AGW} [BY K]
section
variable{X:Cx}
inductive au (x:V) (y:V) (H:Hp) (Q:VK):Prop
 |mk (l b:Addr) (xs zs:List V) (a:x=.ref l) (c:y=.ref b) (d:Rd H l (.lst xs)) (e:Rd H b (.lst zs)) (f:xs.length+zs.length<=sizeLine) (g:∀p,H p=none->Q (.ref p) (upd H p (.lst (xs++zs)))):au x y H Q
theorem My:EL X (binaryOp .Add) au:=by
 intro pins s p H x y v u Q I f g h
 obtain⟨l,b,t,w,rfl,rfl,i,j,A,q⟩:=h
 cases f
 cases g
 obtain⟨z,c,n,r,e⟩:=i.ok I.Be
 obtain⟨z2,a,B,d,k⟩:=j.ok I.Be
 have C:=r.length
 have m:=d.length
 refine PySem.P.add_list e k ?_ (by rw[List.size_toArray,List.size_toArray];lia)
 have o:c.toArray++a.toArray=(c++a).toArray:=by simp
 rw[o]
 exact⟨.ref _,_,I.VW (t':=s.toks) (r.append d) (by rw[List.length_append];lia),rfl,q _ I.fresh⟩
end
theorem Wa:∀{kvs:List (Key×V)} {ks:List Str},kvs.map (·.1)=ks.map Sum.inr->kvs=CO ks (kvs.map (·.2))
 |[],[],_=>rfl
 |[],_::_,h=>by simp at h
 |_::_,[],h=>by simp at h
 |(k,v)::kvs,y::ks,h=>by
  simp only[List.map_cons,List.cons.injEq]at h
  have:=Wa h.2
  rw[h.1,List.map_cons]
  show _=(Sum.inr y,v)::CO ks (kvs.map (·.2))
  rw[<-this]
theorem dA {G H H':Hp} {b:Addr} (a:AE G H) (h:H b=none):ov G H H' b=H' b:=by
 unfold ov
 rw[a.free h,BB h]
theorem i' {G H a H2 c:Hp} (f:AE G H) (d:∀b,a b=none->H b=none) (s:∀b o,a b=none->H2 b=some o->c b=some o):AE (nw a H2) (ov G H c):=fun b o e=>by
 cases h:a b with
 |none=>rw[BB h]at e;rw[dA f (d b h)];exact s b o h e
 |some z=>rw[FY h]at e;cases e
end
section
variable{K:AGW} [BY K]
theorem Bt.over {a c H2:Hp} {D:Addr} (s:AE a c) (d:a D=none) (bt:Bt (some D) c H2):AE a H2:=fun b o e=>bt.keep b o (fun z=>by rw[<-AGU z,d]at e;cases e) (s _ _ e)
theorem ints_of:∀{vs:List V},(∀(i:Nat) v,vs[i]?=some v->∃z:Int,v=.int z)->∃a:List Int,vs=a.map V.int
 |[],_=>⟨[],rfl⟩
 |v::r,h=>by
  obtain⟨z,rfl⟩:=h 0 v rfl
  obtain⟨a,rfl⟩:=ints_of (vs:=r) fun i v b=>h (i+1) v (by simpa using b)
  exact⟨z::a,rfl⟩
structure zc (H5 Hi:Hp) (p5:Addr) (ws:List V) (us:List Pt):Prop where
 s:AE H5 Hi
 n5:H5 p5=none
 f:Hi p5=some (.lst ws)
 v:Aj (JJ p5 Hi) ws us
end
end L2
namespace PySem
open PyProof.Rows PySem.F PySem.Spec
theorem LK:typeLookup (.type "zip") "keys"=pure none:=by rw[typeLookup_type,builtinLookup_eq_fast];kernel_rfl
theorem IC:typeLookup (.type "zip") "__getattr__"=pure none:=by rw[typeLookup_type,builtinLookup_eq_fast];kernel_rfl
theorem Ez:entryFor table "zip.__getattribute__"=some Builtin.«object.__getattribute__»:=
 entryFor_alias (id':="object.__getattribute__") (by kernel_rfl) (by decide+kernel) (by decide+kernel) (by kernel_rfl)
theorem Wb (a:Addr) (fs:Array Value) (name:Str) (u:Tok) (e:typeLookup (.type "zip") name=pure none) (b:(["__module__","__name__","__qualname__","__doc__","__annotations__"]:List Str).contains name=false) (hsz:name.length+100<=sizeLine:=by size_fits):
  Meets (Builtin.«object.__getattribute__» ⟨[.ref a,.str name u],[]⟩) (fun A R s=>s.heap.get? a=some {cls:=.type "zip",dict:=none,data:=.fields fs,slots:= #[]}/\raisesAttr (.ref a) name A R s):=
 Meets.of_wp fun prog w A R s c=>by
  obtain⟨f,g,d,h,os⟩:=s
  obtain⟨i,c⟩:=c
  have j:(⟨f,g,d,h,os⟩:Shared).TypeIs (.ref a) "zip":=⟨_,i,rfl⟩
  unfold Builtin.«object.__getattribute__»
  repeat (any_goals (first|assumption|wp_step))
  simp only[b,Bool.false_eq_true,if_false]
  repeat (any_goals (first|assumption|wp_step))
  exact wpAny_raiseAttrError c.1 c.2 (attrMsg_fits (by decide+kernel) hsz)
theorem LL {prog:Program} {w:World} {A:Around} {E:Value->Shared->Prop} {s:Shared} {a:Addr} {fs:Array Value} {Q:Option Value->Shared->Prop}
  (i:s.heap.get? a=some {cls:=.type "zip",dict:=none,data:=.fields fs,slots:= #[]}) (hA:A.handled=none)
  (h:∀f j e,Heap.NewExcOf s.heap f e "AttributeError"->Q none {s with heap:=f,toks:=j}):
  wpAny (model prog w) A (getAttr? (.ref a) "keys") Q E s:=by
 obtain⟨l,g,d,j,os⟩:=s
 have k:∀b,(⟨l,g,d,b,os⟩:Shared).TypeIs (.ref a) "zip":=fun _=>⟨_,i,rfl⟩
 have m:=sub_AttributeError
 have n:=F.slot_zip_getattribute.lookup
 have o:=F.slot_zip_getattribute.bind (.ref a)
 have p:=IC
 unfold getAttr? getAttrBy? getAttrBy
 repeat (any_goals (first|assumption|exact k _|((with_reducible show wpAny _ _ (call (Value.builtin "zip.__getattribute__") _ _) _ _ _);refine call_meets F.slot_zip_getattribute (k _) Ez (F.args_zip_getattribute_2 _ _) (Wb a fs "keys" _ LK (by decide+kernel)) ⟨i,hA,fun f b e c=>?_⟩)|wp_step))
 obtain⟨q,r,t⟩:=c.there
 show wpAny _ _ (getattributeRaised _ _ _ _ _ _ _) _ _ _
 unfold getattributeRaised
 repeat (any_goals (first|assumption|wp_step))
 exact h _ _ _ c.of
end PySem
namespace L2
open PySem PySem.Spec PyProof.Rows
section
variable{prog:Program} {w:World} {K:Type} [DecidableEq K] {knd:KeyKind prog w K} {A:Around} {R:Result->Shared->Prop}
theorem UP {d z TI TO t u l1 l2:Addr} {xs ys:Array Value} {more:List (K×Value)} (Q:A.handled=none) (D:ZipApart z TI TO t u l1 l2) (c:z≠d/\TI≠d/\TO≠d/\t≠d/\u≠d/\l1≠d/\l2≠d) (hl:xs.size=more.length) (hsz:more.length<=100000)
  (S:∀(j:Nat) l f,more[j]?=some (l,f)->∃a,xs[j]?=some a/\ys[j]?=some f/\knd.is l a=true):
  ∀(k i:Nat) (s:Shared),more.length-i=k->i<=more.length->cx s.heap z TI TO t u l1 l2 d i xs ys->s.heap.DictOf knd d (merged [] (more.take i))->
   (∀h' tk,h'.DictOf knd d (merged [] more)->(∀b o,b≠d->b≠z->b≠TO->b≠t->b≠u->s.heap.get? b=some o->h'.get? b=some o)->R (.ok (.ret .none)) {s with heap:=h',toks:=tk})->
   codeAny (model prog w) A (.builtin "dict.update.loop" ⟨[.ref d,.ref z,rawInt (i:Int),.none],[]⟩) R s:=by
 intro k
 induction k with
 |zero=>
  intro i s T U st v y
  have B:i=more.length:=by lia
  subst B
  refine codeAny_builtin Bs ?_
  rw[Around.under_plainId Aw _]
  show wpAny _ A.in1 (pyNext (.ref z)>>=_) _ _ s
  refine wpAny_bind (WV (A:=A.in1) Q D st (by simp[<-hl]) fun h' kept=>?_)
  rw[List.take_length]at v
  obtain⟨o,C,E,x,r⟩:=v
  show wpAny _ A.in1 (Builtin.Dict.addKeywords d []>>=_) _ _ _
  exact wpAny_bind (wpAny_pure (wpAny_pure (y h' s.toks ⟨o,C,E,kept _ _ c.1.symm c.2.2.1.symm c.2.2.2.1.symm c.2.2.2.2.1.symm x,r⟩ fun b o _ c1 c2 c3 c4 e=>kept b o c1 c2 c3 c4 e)))
 |succ k V=>
  intro i s T U st v y
  have m:i<more.length:=by lia
  obtain⟨⟨l,f⟩,N⟩:∃p,more[i]?=some p:=⟨_,AGS m⟩
  obtain⟨a,W,X,g⟩:=S i l f N
  obtain⟨o,C,E,x,r⟩:=id v
  have F:d<s.heap.objs.size:=Heap.lt_size x
  refine codeAny_builtin Bs ?_
  rw[Around.under_plainId Aw _]
  show wpAny _ A.in1 (pyNext (.ref z)>>=_) _ _ s
  refine wpAny_bind (WU (A:=A.in1) D st F W X fun h' G h O kept=>?_)
  have Y:({s with heap:=h'}:Shared).TypeIs (.ref s.heap.objs.size) "tuple":=⟨_,h,rfl⟩
  have H:h'.DictOf knd d (merged [] (more.take i)):=⟨o,C,E,kept _ _ c.1.symm c.2.2.1.symm c.2.2.2.1.symm c.2.2.2.2.1.symm x,r⟩
  have I:(merged [] (more.take i)).length<=sizeLine:=by
   have:=merged_length_le ([]:List (K×Value)) (more.take i)
   rw[List.length_take,List.length_nil]at this
   have e:sizeLine=16777216:=sizeLine_eq
   lia
  show wpAny _ A.in1 (holding [Value.ref s.heap.objs.size] _>>=_) _ _ _
  refine wpAny_bind (wpAny_holding (wpAny_bind (wpAny_tryCatch ?_)))
  unfold Builtin.Dict.pairItems
  refine wpAny_bind (wpAny_typeOf Y ?_)
  rw[if_pos (by decide)]
  unfold seqItems?
  refine wpAny_bind ?_
  refine wpAny_bind (wpAny_load h ?_)
  refine wpAny_pure (wpAny_pure ?_)
  show wpAny _ A.in1 (holding [a,f] (dictSet d a f)) _ _ _
  refine wpAny_holding ?_
  unfold dictSet
  try with_reducible refine wpAny_holding ?_
  refine wpAny_bind (knd.pyHash g ?_)
  refine wpAny_dictSetHashed_pairs (hsz:=I) g H fun h2 n q=>?_
  have Z:stored (merged [] (more.take i)) l f=merged [] (more.take (i+1)):=(merged_take_succ [] more i (l,f) N).symm
  rw[Z]at n
  have ic:((i:Int)+1)=((i+1:Nat):Int):=by simp
  refine wpAny_pure ⟨plainId_quiet Aw _,?_⟩
  rw[ic]
  refine V (i+1) _ (by lia) m (G.keep (fun b o hb e=>by rw[q.2 b hb];exact e) c) n fun h3 J L M=>y h3 J L fun b o P c1 c2 c3 c4 e=>M b o P c1 c2 c3 c4 (by rw[q.2 b P];exact kept b o c1 c2 c3 c4 e)
end
section
variable{X:Cx} {pins:List (Addr×Obj)} {σ:St} {H:Hp} {s:Shared}
def gJ (ks:List Str) (ys:List V):List (Key×V):=(ks.zip ys).map fun p=>(Sum.inr p.1,p.2)
inductive mR (K:AGW) (x y:V) (H:Hp) (Q:VK):Prop
 |mk (a b:Addr) (ks:List Str) (ys:List V) (c:x=.ref a) (d:y=.ref b) (e:An K H a (ks.map V.str)) (f:An K H b ys) (hl:ks.length=ys.length) (g:ks.length<=1000) (q:∀p,H p=none->Q (.ref p) (upd H p (.dK (CN [] (gJ ks ys))))):mR K x y H Q
def tDZ (K:AGW) (a b:TE):TE:=fun σ H Q=>a σ H fun x c=>b σ c fun y d=>mR K x y d Q
def dzQ (K:AGW) (Q:VK):List V->Hp->Prop
 |[x,y],H=>mR K x y H Q
 |_,_=>False
theorem Ol:∀{ks:List Str} {ys:List V} {its a:List Value},ks.length=ys.length->Vals (ks.map V.str) its->Vals ys a->∃more:List (Key×Value),KV (gJ ks ys) more/\more.length=ks.length/\∀(j:Nat) d f,more[j]?=some (d,f)->∃c,its[j]?=some c/\a[j]?=some f/\(Ay X.prog X.w).is d c=true
 |[],[],_,_,_,_,_=>⟨[],.nil,rfl,fun j d f e=>by simp at e⟩
 |[],_::_,_,_,h,_,_=>by simp at h
 |_::_,[],_,_,h,_,_=>by simp at h
 |k::ks,y::ys,_,_,h,.cons (b:=u) (l₂:=its) i r,.cons (b:=g) (l₂:=a) l m=>by
  obtain⟨more,n,o,p⟩:=Ol (by simpa using h) r m
  refine⟨(Sum.inr k,g)::more,.cons ⟨rfl,l⟩ n,by simp[o],fun j d f e=>?_⟩
  cases j with
  |zero=>
   have e:(Sum.inr k,g)=(d,f):=by simpa using e
   cases e
   exact⟨u,rfl,rfl,Gj (k:=Sum.inr k) i⟩
  |succ j=>
   obtain⟨c,c1,c2,c3⟩:=p j d f (by simpa using e)
   exact⟨c,by simpa using c1,by simpa using c2,c3⟩
theorem Om {m k:Expr} {p T pos d:Pos} {t1 t2:TE} (hc:X.calm=true) (hg:Gl X "dict") (hm:X.mg "dict"=none) (Y:Gl X "zip") (Z:X.mg "zip"=none) (U:PE X m t1) (h2:PE X k t2)
  (hv:bootBuiltins "dict"=some (.type "dict"):=by decide+kernel) (pq:bootBuiltins "zip"=some (.type "zip"):=by decide+kernel)
  (he:starEach [.Call (.Name "zip" T) [m,k] [] d] X.env=(false,eval (.Call (.Name "zip" T) [m,k] [] d) X.env)::starEach [] X.env:=by rfl) (dB:(backTo pos (starEach [] X.env)).any (·.1)=false:=by rfl)
  (J:starEach [m,k] X.env=(false,eval m X.env)::starEach [k] X.env:=by rfl) (L:(backTo d (starEach [k] X.env)).any (·.1)=false:=by rfl) (he3:starEach [k] X.env=(false,eval k X.env)::starEach [] X.env:=by rfl):
  PE X (.Call (.Name "dict" p) [.Call (.Name "zip" T) [m,k] [] d] [] pos) (tDZ X.K t1 t2):=by
 intro pins s σ H Q I h
 refine wpAny_Call_Name_kw (El I hg hm hv ?_ (by decide) (by decide))
 refine PyProof.Rows.callWith_type1 ?_ he dB
 rw[he]
 show wpAny _ _ (spliced ((false,eval (.Call (.Name "zip" T) [m,k] [] d) X.env)::backTo pos (starEach [] X.env))) _ _ s
 refine Calls.spliced_cons ?_
 refine wpAny_Call_Name_kw (El I Y Z pq ?_ (by decide) (by decide))
 refine PyProof.Rows.callWith_type1 (BS ((AA U (AA h2 AB he3) J) d pins s σ H (dzQ X.K Q) I h) fun us f zq=>zq.elim fun vs H1 M r1 V=>?_) J L
 obtain⟨x,y,rfl⟩:∃x y,vs=[x,y]:=by
  rcases vs with _|⟨x,_|⟨y,_|⟨z,r⟩⟩⟩
  ·exact V.elim
  ·exact V.elim
  ·exact⟨x,y,rfl⟩
  ·exact V.elim
 obtain⟨a,b,W,ys,rfl,rfl,ha,hb,hl,hz,q⟩:=(show mR X.K x y H1 Q from V)
 obtain⟨u,v,rfl,ru,rv⟩:=vals2 r1
 cases ru
 cases rv
 obtain⟨its,r,pl,_⟩:=M.list ha
 obtain⟨N,r',B,_⟩:=M.list hb
 have C:a<f.heap.objs.size:=(let⟨_,e,_⟩:=pl.isList;Heap.lt_size e)
 have E:b<f.heap.objs.size:=(let⟨_,e,_⟩:=B.isList;Heap.lt_size e)
 have O:X.A.in1.handled=none:=I.ok.hd hc
 refine call_zip_2 pl.isList B.isList fun c z1 z2 z3 z4 z5 z6 k5=>?_
 refine Calls.spliced_nil ?_
 obtain⟨more,m1,m2,m3⟩:=Ol (X:=X) hl r r'
 have D:=zipApart_new (n:=f.heap.objs.size) C E
 refine callType_codes (Q₁:=fun P t=>P=.ref c.objs.size/\t={f with heap:=c.push {cls:=.type "dict",data:=.dict #[]}}) F.kt_called_dict (F.kt_typeCall_dict_1 _) F.entry_dict_init (kt_code_dict_new _ ⟨rfl,rfl⟩) ?_
 rintro P t ⟨rfl,rfl⟩
 have i:(c.push {cls:=.type "dict",data:=.dict #[]}).DictOf (Ay X.prog X.w) c.objs.size []:=Heap.DictOf.new c
 refine⟨i.typeIs,F.args_dict_init_2 _ _,?_⟩
 unfold Builtin.«dict.__init__»
 refine wpAny_bind ?_
 unfold Builtin.Dict.selfAndRest
 refine wpAny_bind (wpAny_notOrdered_dict i.typeIs ?_)
 show wpAny _ _ (pure (c.objs.size,[Value.ref (f.heap.objs.size+4)])) _ _ _
 refine wpAny_pure ?_
 show wpAny _ _ (Builtin.Dict.updateFrom "dict.__init__" c.objs.size (.ref (f.heap.objs.size+4)) [] .none) _ _ _
 unfold Builtin.Dict.updateFrom
 have up:∀b o,c.get? b=some o->(c.push {cls:=.type "dict",data:=.dict #[]}).get? b=some o:=fun b o e=>Heap.get?_push_of_some _ e
 have hTl:({f with heap:=c.push {cls:=.type "dict",data:=.dict #[]}}:Shared).TypeIs (.ref (f.heap.objs.size+4)) "zip":=⟨_,up _ _ z1,rfl⟩
 refine wpAny_bind (wpAny_typeOf hTl ?_)
 rw[if_pos (by decide)]
 refine wpAny_bind (LL (up _ _ z1) O fun U zV m ne1=>?_)
 rw[if_pos (show(Option.isNone (none:Option Value))=true from rfl)]
 have R:∀b o,(c.push {cls:=.type "dict",data:=.dict #[]}).get? b=some o->U.get? b=some o:=ne1.keeps
 have g:∀b o,c.get? b=some o->U.get? b=some o:=fun b o e=>R b o (up b o e)
 refine wpAny_bind (wpAny_rule ?_)
 refine wpAny_bind (wpAny_pyIter_zip (g _ _ z1) ?_)
 refine wpAny_pure ⟨plainId_quiet Aw _,?_⟩
 obtain⟨od,es,ep,hod,rd⟩:=id i
 have lt5:∀{b o},c.get? b=some o->b≠c.objs.size:=fun e=>Nat.ne_of_lt (Heap.lt_size e)
 have lt1:∀{b o},f.heap.get? b=some o->b<f.heap.objs.size:=fun e=>Heap.lt_size e
 have nS:f.heap.objs.size+4≠c.objs.size/\f.heap.objs.size+2≠c.objs.size/\f.heap.objs.size+3≠c.objs.size/\f.heap.objs.size≠c.objs.size/\f.heap.objs.size+1≠c.objs.size/\a≠c.objs.size/\b≠c.objs.size:=by
  have G:c.objs.size=f.heap.objs.size+5:=z6
  rw[G]
  generalize f.heap.objs.size=n at C E
  exact⟨by lia,by lia,by lia,by lia,by lia,Nat.ne_of_lt (Nat.lt_of_lt_of_le C (Nat.le_add_right _ _)),Nat.ne_of_lt (Nat.lt_of_lt_of_le E (Nat.le_add_right _ _))⟩
 show codeAny _ _ (.builtin "dict.update.loop" ⟨[.ref c.objs.size,.ref (f.heap.objs.size+4),rawInt ((0:Nat):Int),.none],[]⟩) _ _
 refine UP (knd:=Ay X.prog X.w) (xs:=its.toArray) (ys:=N.toArray) (more:=more) O D nS (by rw[List.size_toArray,m2,<-r.length,List.length_map]) (by lia) (fun j k' v' e=>?_) more.length 0 _ (by simp) (Nat.zero_le _)
  ⟨.inl ⟨rfl,g _ _ z1,_,_,g _ _ z3⟩,g _ _ z2,z4.at fun o e=>g _ o e,z5.at fun o e=>g _ o e,(pl.isList.at fun o e=>g _ o (k5 _ o e)),(B.isList.at fun o e=>g _ o (k5 _ o e))⟩ ⟨od,es,ep,R _ _ hod,rd⟩ (fun h2 pN hd2 ig=>⟨rfl,?_⟩)
 ·obtain⟨key,c1,c2,c3⟩:=m3 j k' v' e
  exact⟨key,by simpa using c1,by simpa using c2,c3⟩
 ·have Yd:(CN [] (gJ W ys)).length<=sizeLine:=by
   have:=DM (gJ W ys) []
   have e:(gJ W ys).length=W.length:=by unfold gJ;rw[List.length_map,List.length_zip];lia
   exact Ah (by simp at this;lia)
  have G:c.objs.size=f.heap.objs.size+5:=z6
  have big:=M.big
  have l:f.heap.objs.size<=c.objs.size:=by rw[G];exact Nat.le_add_right _ _
  refine⟨.ref c.objs.size,_,M.laid (t':=pN) (fun b o e=>?_) l (Hq Yd (beq_eq_false_iff_ne.mpr (Ne.symm (Nat.ne_of_lt (Nat.lt_of_lt_of_le big l)))) (KV.merge m1 .nil) hd2),rfl,q _ (M.Be.fresh l)⟩
  have S:=lt1 e
  exact ig b o (Nat.ne_of_lt (Nat.lt_of_lt_of_le S l)) (Nat.ne_of_lt (Nat.lt_of_lt_of_le S (Nat.le_add_right _ _))) (Nat.ne_of_lt (Nat.lt_of_lt_of_le S (Nat.le_add_right _ _))) (Nat.ne_of_lt S) (Nat.ne_of_lt (Nat.lt_of_lt_of_le S (Nat.le_add_right _ _))) (g _ _ (k5 _ _ e))
end
def gK (n:Nat):It:=⟨fun i _=>i<n,fun i H x a=>a=H/\x=.int (((n:Nat):Int)-1-((i:Nat):Int)),fun i _=>n<=i⟩
theorem UQ {P:Program} {w:World} {K:AGW} {tg:Expr} (it:Addr) (n:Nat):Turn P w K tg (gK n) [it] it (fun i h=>IsRangeIter h it ((((n:Nat):Int)-1)+(i:Nat)*(-1)) ((n:Int)-(i:Nat)) (-1))where
 mem:=by simp
 obj:=fun i h st b hb=>by
  have e:b=it:=by simpa using hb
  subst e
  exact⟨_,st,fun v z=>by
   have z':Data.fields _=Data.cell v:=z
   cases z'⟩
 keep:=fun i h h' st k=>k it (by simp) _ st
 item:=by
  intro X hP hw hK hc i pins s σ H E I hf st hg
  subst hP hw hK
  obtain⟨f0,f1,f2,f3,f4,f5⟩:=hf it (by simp)
  have W:=Walks.range (prog:=X.prog) (w:=X.w) (I.ok.hd hc) it (((n:Nat):Int)-1) (-1) n
  refine W.item i s _ _ hg st fun v h' tk hv NY kk=>?_
  obtain⟨t,rfl⟩:=hv
  have I1:Inv X pins σ H {s with heap:=h',toks:=tk}:=I.turned (fun b o hb e=>kk b o (by simpa using hb) e) f0 f1 f3 f4 f5
  refine⟨_,rfl,LQ (s:={s with heap:=h',toks:=tk}) (n:="range_iterator") NY rfl rfl (by decide) ⟨.int (((n:Nat):Int)-1-((i:Nat):Int)),H,I1,⟨t,?_⟩,⟨rfl,rfl⟩,NY,fun b hb=>(hf b hb).1⟩⟩
  congr 1
  lia
 done:=by
  intro X hP hw hK hc i pins s σ H E I hf st hg
  subst hP hw hK
  obtain⟨f0,f1,f2,f3,f4,f5⟩:=hf it (by simp)
  exact wpAny_pyNext_range_end (I.ok.hd hc) st (by have:n<=i:=hg;lia) fun h' eb=>⟨rfl,I.turned (t':=s.toks) (fun b o hb e=>eb b o hb e) f0 f1 f3 f4 f5⟩
 self:=fun _ _ _ _ _ st h=>wpAny_pyIter_rangeiter st h
section
variable{X:Cx} {tg:Expr}
theorem Yu {pins:List (Addr×Obj)} {a:St} {H:Hp} {s:Shared} {R:It->Hp->Prop} {E:Value->Shared->Prop} {n:Nat} {t u v:Tok} {tk:Nat} (I:Inv X pins a H s) (g:n<=1000)
  (q:R (gK n) H):wpAny (model X.prog X.w) X.A (pyIter (.ref s.heap.objs.size)) (mL X pins a tg R) E {s with heap:=s.heap.push {cls:=.type "range",data:=.fields #[.int (((n:Nat):Int)-1) t,.int (-1) u,.int (-1) v]},toks:=tk}:=by
 have sz:Builtin.Range.rangeSize (((n:Nat):Int)-1) (-1) (-1)=(n:Int):=by
  unfold Builtin.Range.rangeSize
  rw[if_neg (by decide)]
  split
  ·have:(((n:Nat):Int)-1-(-1)-1)/(-(-1))+1=n:=by
    rw[show(-(-1:Int))=1 from rfl,Int.ediv_one];lia
   exact this
  ·lia
 have d:Builtin.Range.small (((n:Nat):Int)-1) (-1) (-1)=true:=by
  unfold Builtin.Range.small
  rw[sz]
  simp only[Builtin.Range.rangeFitsLong,Bool.and_eq_true,Bool.or_eq_true,decide_eq_true_eq,beq_iff_eq,show¬((-1:Int)>0)by decide,if_false]
  lia
 refine wpAny_pyIter_range (IsRange.new ..) d ?_
 rw[sz]
 have c:Inv X pins a H {s with heap:=s.heap.push {cls:=.type "range",data:=.fields #[.int (((n:Nat):Int)-1) t,.int (-1) u,.int (-1) v]},toks:=tk}:=I.kept fun b o e=>Heap.get?_push_of_some _ e
 refine⟨_,[(s.heap.push {cls:=.type "range",data:=.fields #[.int (((n:Nat):Int)-1) t,.int (-1) u,.int (-1) v]}).objs.size],_,_,H,rfl,
  c.kept (t':=tk) fun b o e=>Heap.get?_push_of_some _ e,UQ _ n,?_,fun b f=>?_,q⟩
 ·show IsRangeIter _ _ ((((n:Nat):Int)-1)+((0:Nat):Int)*(-1)) ((n:Int)-((0:Nat):Int)) (-1)
  rw[show(((n:Nat):Int)-1)+((0:Nat):Int)*(-1)=((n:Nat):Int)-1 by simp,show(n:Int)-((0:Nat):Int)=n by simp]
  exact Heap.get?_push_size _ rfl
 ·have e:b=(s.heap.push {cls:=.type "range",data:=.fields #[.int (((n:Nat):Int)-1) t,.int (-1) u,.int (-1) v]}).objs.size:=by simpa using f
  subst e
  exact c.Nk (Nat.le_refl _) (c.Be.fresh (Nat.le_refl _))
def jA (a:TA):TI:=fun b H R=>a b H fun c d=>∃n:Nat,c=[.int (((n:Nat):Int)-1),.int (-1),.int (-1)]/\n<=1000/\R (gK n) d
theorem UR {a b c:Expr} {i:TA} {p pos:Pos} (j:Gl X "range") (k:X.mg "range"=none) (l:PA X [a,b,c] i) (m:starEach [a,b,c] X.env=[(false,eval a X.env),(false,eval b X.env),(false,eval c X.env)]:=by rfl) (d:starEach [b,c] X.env=[(false,eval b X.env),(false,eval c X.env)]:=by rfl):
  PI X tg (.Call (.Name "range" p) [a,b,c] [] pos) (jA i):=by
 intro pins s o H R I h
 refine Call_ (El I j k boot_range (PyProof.Rows.callWith_type1 (BS (l pos pins s o H _ I h) fun B C u=>u.elim fun D E v w x=>?_) (by rw[m,d]) (by rw[d];rfl)))
 obtain⟨n,e,y,q⟩:=x
 subst e
 cases w with
 |cons r f=>
  cases f with
  |cons z f=>
   cases f with
   |cons g f=>
    cases f
    obtain⟨t,rfl⟩:=r
    obtain⟨F,rfl⟩:=z
    obtain⟨A,rfl⟩:=g
    exact call_range_3 (by decide) (Yu v y q) (.inl (PyProof.noPylong_small (by lia)))
end
theorem Wc {n:Nat} {g:TG} {h:TS} {D:Ends} {a:St} {H:Hp} (Pv:Nat->St->Hp->Prop) (k:Pv n a H)
  (l:∀i a H,i<n->Pv (i+1) a H->g (.int (i:Int)) a H fun b H2=>h {D with nx:=Pv i,ct:=Pv i,bk:=D.nx} b H2) (o:∀a H,Pv 0 a H->D.nx a H):
  ∃W:Nat->Nat->St->Hp->Prop,(∃m,W 0 m a H)/\∀i m a H,W i m a H->
   ((gK n).stop i H/\D.nx a H)∨((gK n).go i H/\∃N:St->Hp->Prop,(∀c d,N c d->∃j,j<m/\W (i+1) j c d)/\∀x d,(gK n).NX i H x d->g x a d fun b H2=>h {D with nx:=N,ct:=N,bk:=D.nx} b H2):=by
 refine⟨fun i m a H=>m=n-i/\i<=n/\Pv m a H,⟨n,by simp,Nat.zero_le _,k⟩,?_⟩
 rintro i m a H ⟨rfl,r,p⟩
 by_cases f:i<n
 ·refine .inr ⟨f,Pv (n-(i+1)),fun c d q=>⟨n-(i+1),by lia,rfl,f,q⟩,fun x d y=>?_⟩
  obtain⟨e,y⟩:=y
  subst e y
  have e:((n:Nat):Int)-1-((i:Nat):Int)=(((n-(i+1):Nat)):Int):=by lia
  rw[e]
  refine l (n-(i+1)) a _ (by lia) ?_
  rw[show n-(i+1)+1=n-i by lia]
  exact p
 ·have e:i=n:=by lia
  subst e
  rw[Nat.sub_self]at p
  exact .inl ⟨Nat.le_refl _,o a H p⟩
section
variable{K:AGW} [BY K]
namespace Dc
mutual
def tr:Dc->Pt
 |leaf (.int i)=>.int i
 |leaf (.str x)=>.str x
 |leaf _=>.int 0
 |row _ xs=>.lst (US xs)
 |tab _ ks xs=>.BX ks (US xs)
def US:List Dc->List Pt
 |[]=>[]
 |x::r=>tr x::US r
end
theorem Gy:∀xs:List Dc,US xs=xs.map tr
 |[]=>rfl
 |x::r=>by simp only[US,List.map_cons,Gy r]
mutual
theorem SK:∀d e:Dc,Dx d e->e.tr=d.tr
 |leaf v,leaf w,h=>by simp only[Dx]at h;subst h;rfl
 |row _ xs,row _ ys,h=>by simp only[Dx]at h;simp only[tr,KC xs ys h]
 |tab _ ks xs,tab _ ls ys,h=>by simp only[Dx]at h;simp only[tr,KC xs ys h.2,h.1]
 |leaf _,row _ _,h=>by simp[Dx]at h
 |leaf _,tab _ _ _,h=>by simp[Dx]at h
 |row _ _,leaf _,h=>by simp[Dx]at h
 |row _ _,tab _ _ _,h=>by simp[Dx]at h
 |tab _ _ _,leaf _,h=>by simp[Dx]at h
 |tab _ _ _,row _ _,h=>by simp[Dx]at h
theorem KC:∀xs ys:List Dc,Cy xs ys->US ys=US xs
 |[],[],_=>rfl
 |x::r,y::t,h=>by simp only[Cy]at h;simp only[US,SK x y h.1,KC r t h.2]
 |[],_::_,h=>by simp[Cy]at h
 |_::_,[],h=>by simp[Cy]at h
end
mutual
theorem We {H:Hp}:∀d:Dc,d.At H->Val H d.val d.tr
 |leaf v,h=>by
  simp only[At]at h
  rcases h with⟨i,rfl⟩|⟨x,rfl,_⟩
  ·exact .int i
  ·exact .str x
 |row a xs,h=>by
  simp only[At]at h
  exact .lst h.1 (Qn xs h.2)
 |tab a ks xs,h=>by
  simp only[At]at h
  refine .BX h.1 (Jj h.2.1) ?_
  have e:(kvs ks xs).map (·.2)=xs.map val:=by
   rw[OY]
   exact Eh (by rw[List.length_map];exact h.2.1)
  rw[e]
  exact Qn xs h.2.2.2
theorem Qn {H:Hp}:∀xs:List Dc,HU H xs->Aj H (xs.map val) (US xs)
 |[],_=>.nil
 |x::r,h=>by
  simp only[HU]at h
  exact .cons (We x h.1) (Qn r h.2)
end
end Dc
theorem Jq.val {H H':Hp} {d:Dc} (F:Jq H H' d):Val (nw H H') d.val d.tr:=by
 refine d.We (Dc.Ji d (fun c a o e=>?_) F.at_)
 rw[BB (F.new c a)]
 exact e
theorem Wg:∀{kvs:List (Key×V)} {ks:List Str} {a:List Dc},kvs.map (·.1)=ks.map Sum.inr->a.map Dc.val=kvs.map (·.2)->kvs=Dc.kvs ks a
 |[],[],a,_,h=>by
  cases a with
  |nil=>rfl
  |cons _ _=>simp at h
 |[],_::_,_,h,_=>by simp at h
 |_::_,[],_,h,_=>by simp at h
 |(k,v)::kvs,y::ks,a,h,h'=>by
  simp only[List.map_cons,List.cons.injEq]at h
  cases a with
  |nil=>simp at h'
  |cons d a=>
   simp only[List.map_cons,List.cons.injEq]at h'
   obtain⟨b,c⟩:=h
   obtain⟨e,f⟩:=h'
   have g:=Wg c f
   subst b e
   rw[g]
   rfl
mutual
theorem Val.dc {H:Hp}:∀(t:Pt) {v:V},Val H v t->t.doc->∃d:Dc,d.val=v/\d.At H/\d.tr=t/\d.slim/\d.size=t.size
 | .int i,_,.int _,_=>⟨.leaf (.int i),rfl,.inl ⟨i,rfl⟩,rfl,trivial,rfl⟩
 | .str x,_,.str _,d=>⟨.leaf (.str x),rfl,.inr ⟨x,rfl,d⟩,rfl,trivial,rfl⟩
 | .bl _,_,_,d=>by simp[Pt.doc]at d
 | .Av,_,_,d=>by simp[Pt.doc]at d
 | .tup _,_,_,d=>by simp[Pt.doc]at d
 | .lst ts,_,.lst (a:=a) h r,d=>by
  simp only[Pt.doc]at d
  obtain⟨b,e,f,c,g,j⟩:=Aj.pw ts r d
  refine⟨.row a b,rfl,?_,by simp only[Dc.tr,c],by simp only[Dc.slim];exact g,by simp only[Dc.size,Pt.size,j]⟩
  simp only[Dc.At]
  exact⟨by rw[e];exact h,f⟩
 | .BX k ts,_,.BX (a:=a) (kvs:=kvs) h m r,d=>by
  simp only[Pt.doc]at d
  obtain⟨b,e,f,c,g,j⟩:=Aj.pw ts r d.2.2.2.2
  have l:k.length=b.length:=by
   have:=congrArg List.length c
   rw[Dc.Gy,List.length_map]at this
   rw[this];exact d.1
  refine⟨.tab a k b,rfl,?_,by simp only[Dc.tr,c],by simp only[Dc.slim];exact⟨by rw[<-l];exact d.2.2.2.1,g⟩,by simp only[Dc.size,Pt.size,j]⟩
  simp only[Dc.At]
  exact⟨by rw[<-Wg m e];exact h,l,d.2.1,f⟩
theorem Aj.pw {H:Hp}:∀(ts:List Pt) {vs:List V},Aj H vs ts->Pt.ER ts->∃a:List Dc,a.map Dc.val=vs/\Dc.HU H a/\Dc.US a=ts/\Dc.Jm a/\Dc.AL a=Pt.AL ts
 |[],_,.nil,_=>⟨[],rfl,trivial,rfl,trivial,rfl⟩
 |t::ts,_,.cons h r,d=>by
  simp only[Pt.ER]at d
  obtain⟨x,a1,a2,a3,a4,a5⟩:=Val.dc t h d.1
  obtain⟨a,b,c,e,f,g⟩:=Aj.pw ts r d.2
  exact⟨x::a,by rw[List.map_cons,a1,b],by simp only[Dc.HU];exact⟨a2,c⟩,by simp only[Dc.US,a3,e],by simp only[Dc.Jm];exact⟨a4,f⟩,by simp only[Dc.AL,Pt.AL,a5,g]⟩
end
theorem Oo {vs:List V} {H:Hp} {Q:VK} {E:XK} {v:V} {t:Pt} (e:vs=[v]) (a:Val H v t) (d:t.doc) (z:t.size<=900) (q:∀(w:V) (H':Hp),AE H H'->Val (nw H H') w t->Q w H'):Js vs H Q E:=by
 obtain⟨dc,rfl,a2,a3,a4,a5⟩:=Val.dc t a d
 exact⟨dc,e,a2,a4,by lia,fun b H' F lk=>q _ _ F.same (by rw[<-a3,<-Dc.SK _ _ lk];exact F.val)⟩
theorem Oq {vs:List V} {H:Hp} {Q:VK} {E:XK} (h:Mj vs H Q E):Gw vs H Q E:=by
 obtain⟨d,rfl,b,e,f,q⟩:=h
 refine⟨d.val,d.tr,rfl,d.We b,?_,fun p l g s n j st=>q p l g s n j ?_⟩
 ·cases d with
  |leaf v=>
   simp only[Dc.At]at b
   rcases b with⟨i,rfl⟩|⟨x,rfl,_⟩<;>trivial
  |row a c=>
   simp only[Dc.size]at f
   have:=Dc.Dj c
   show(Dc.US c).length<=900
   rw[Dc.Gy,List.length_map];lia
  |tab a k c=>
   simp only[Dc.At]at b
   simp only[Dc.slim]at e
   exact⟨by rw[Dc.Gy,List.length_map];exact b.2.1,by rw[b.2.1];exact e.1⟩
 ·cases d with
  |leaf v=>
   simp only[Dc.At]at b
   rcases b with⟨i,rfl⟩|⟨x,rfl,_⟩<;>exact st
  |row a c=>
   have:l=(List.range (Dc.US c).length).map fun(i:Nat)=>V.int (i:Int):=st
   rw[Dc.Gy,List.length_map]at this
   exact this
  |tab a k c=>exact st
end
namespace Ak
mutual
def CF:Ak->Prop
 |any=>True
 |As d=>d.doc
 |row xs _=>GR xs
 |tab ks xs ls _=>ks.length=xs.length/\ks.Nodup/\(∀k∈ks,Cb k=true)/\ks.length<60/\ls.length<=100/\(∀l∈ls,l∉ks)/\GR xs
def GR:List Ak->Prop
 |[]=>True
 |x::r=>CF x/\GR r
end
mutual
def wt:Ak->Nat
 |any=>1
 |As d=>d.size
 |row xs _=>1+E_ xs
 |tab _ xs _ _=>1+E_ xs
def E_:List Ak->Nat
 |[]=>0
 |x::r=>wt x+E_ r
end
mutual
def dp:Ak->Nat
 |any=>1
 |As d=>d.deep
 |row xs _=>1+LM xs
 |tab _ xs _ _=>1+LM xs
def LM:List Ak->Nat
 |[]=>0
 |x::r=>max (dp x) (LM r)
end
theorem CS:∀{xs:List Ak},GR xs->∀x∈xs,CF x
 |y::r,h,x,a=>by
  simp only[GR]at h
  rcases List.mem_cons.mp a with rfl|a
  ·exact h.1
  ·exact CS h.2 x a
theorem dC (a:Ak):1<=a.wt:=by cases a<;>simp only[wt]<;>first|lia|exact Pt.size_pos _
mutual
theorem Mz:∀a:Ak,a.size<=a.wt
 |any=>by simp[size,wt]
 |As d=>by simp only[size,wt];exact Pt.size_pos d
 |row xs _=>by have:=Cz xs;simp only[size,wt];lia
 |tab _ xs _ _=>by have:=Cz xs;simp only[size,wt];lia
theorem Cz:∀xs:List Ak,AL xs<=E_ xs
 |[]=>Nat.le_refl _
 |x::r=>by have:=Mz x;have:=Cz r;simp only[AL,E_];lia
end
theorem Gz:∀{xs:List Ak} {x:Ak},x∈xs->x.wt<=E_ xs
 |y::r,x,h=>by
  simp only[E_]
  rcases List.mem_cons.mp h with rfl|h
  ·lia
  ·have:=Gz h;lia
theorem M_:∀{xs:List Ak} {x:Ak},x∈xs->x.dp<=LM xs
 |y::r,x,h=>by
  simp only[LM]
  rcases List.mem_cons.mp h with rfl|h
  ·lia
  ·have:=M_ h;lia
theorem KD {a b:List Ak} (p:a.Perm b):E_ a=E_ b:=by
 induction p with
 |nil=>rfl
 |cons x _ c=>simp only[E_,c]
 |swap x y l=>simp only[E_];lia
 |trans _ _ d e=>exact d.trans e
theorem Wh {a b:List Ak} (p:a.Perm b):LM a=LM b:=by
 induction p with
 |nil=>rfl
 |cons x _ c=>simp only[LM,c]
 |swap x y l=>simp only[LM];lia
 |trans _ _ d e=>exact d.trans e
mutual
theorem jB:∀a:Ak,a.ok->a.CF
 |any,_=>trivial
 |As d,h=>by simp only[ok]at h;exact h.2.1
 |row xs _,h=>by simp only[ok]at h;simp only[CF];exact Wi xs h
 |tab ks xs ls _,h=>by
  simp only[ok]at h
  obtain⟨b,c,e,h4,f,g,i⟩:=h
  simp only[CF]
  exact⟨b,c,e,h4,Nat.le_trans f.1 (by decide),g,Wi xs i⟩
theorem Wi:∀xs:List Ak,DD xs->GR xs
 |[],_=>trivial
 |x::r,h=>by simp only[DD]at h;exact⟨jB x h.1,Wi r h.2⟩
end
mutual
theorem av:∀a:Ak,a.ok->a.wt<=10*a.size
 |any,_=>by simp[wt,size]
 |As d,h=>by simp only[ok]at h;simp only[wt,size];lia
 |row xs _,h=>by simp only[ok]at h;have:=Qo xs h;simp only[wt,size];lia
 |tab b xs c _,h=>by simp only[ok]at h;have:=Qo xs h.2.2.2.2.2.2;simp only[wt,size];lia
theorem Qo:∀xs:List Ak,DD xs->E_ xs<=10*AL xs
 |[],_=>Nat.le_refl _
 |x::r,h=>by simp only[DD]at h;have:=av x h.1;have:=Qo r h.2;simp only[E_,AL];lia
end
end Ak
theorem Sm.jC {d:Pt} (h:Sm d):d.deep<=3:=by
 have one:∀a:List Pt,(∀x∈a,ai x)->Pt.AW a<=1:=by
  intro a
  induction a with
  |nil=>intro _;simp[Pt.AW]
  |cons x r b=>
   intro h
   have c:=h x List.mem_cons_self
   have f:=b fun y e=>h y (List.mem_cons_of_mem _ e)
   have:x.deep<=1:=by cases c<;>simp[Pt.deep,Pt.AW]
   simp only[Pt.AW];lia
 cases h with
 |one h=>cases h<;>simp[Pt.deep,Pt.AW]
 |row h=>have:=one _ h;simp only[Pt.deep];lia
 |tab h=>have:=one _ h;simp only[Pt.deep];lia
namespace Ak
mutual
theorem ax:∀a:Ak,a.ok->a.dp<=a.deep+2
 |any,_=>by simp[dp,deep]
 |As d,h=>by simp only[ok]at h;have:=h.1.jC;simp only[dp,deep];lia
 |row b _,h=>by simp only[ok]at h;have:=Qp b h;simp only[dp,deep];lia
 |tab c b e _,h=>by simp only[ok]at h;have:=Qp b h.2.2.2.2.2.2;simp only[dp,deep];lia
theorem Qp:∀xs:List Ak,DD xs->LM xs<=AW xs+2
 |[],_=>by simp[LM]
 |x::r,h=>by simp only[DD]at h;have:=ax x h.1;have:=Qp r h.2;simp only[LM,AW];lia
end
theorem Lr:∀ls:List Str,Pt.AW (ls.map Pt.str)<=1
 |[]=>by simp[Pt.AW]
 |x::r=>by have:=Lr r;simp only[List.map_cons,Pt.AW,Pt.deep];lia
mutual
theorem a_:∀a:Ak,a.pt.deep<=2*a.dp+2
 |any=>by simp[pt,Pt.deep,Pt.AW,dp]
 |As d=>by simp only[pt,Pt.deep,Pt.AW,dp];lia
 |row xs m=>by have:=Qq xs;simp only[pt,Pt.deep,Pt.AW,dp];lia
 |tab c xs b m=>by have:=Qq xs;have:=Lr b;simp only[pt,Pt.deep,Pt.AW,dp];lia
theorem Qq:∀xs:List Ak,Pt.AW (CY xs)<=2*LM xs+2
 |[]=>by simp[CY,Pt.AW]
 |x::r=>by have:=a_ x;have:=Qq r;simp only[CY,Pt.AW,LM];lia
end
mutual
theorem Ot:∀a:Ak,a.CF->a.wt<=900->a.pt.nice
 | .any,_,_=>by simp[Ak.pt,Pt.nice,Pt.CG]
 | .As d,o,z=>by
  simp only[CF]at o
  simp only[wt]at z
  simp only[Ak.pt,Pt.nice,Pt.CG]
  exact⟨by simp,trivial,Pt.J' d o z,trivial⟩
 | .row xs m,o,z=>by
  simp only[CF]at o
  simp only[wt]at z
  have:=Ak.Dj xs
  have:=Cz xs
  simp only[Ak.pt,Pt.nice,Pt.CG]
  exact⟨by simp,trivial,⟨by rw[Ak.AZ,List.length_map];lia,ID xs o (by lia)⟩,trivial,trivial⟩
 | .tab c xs e m,o,z=>by
  simp only[CF]at o
  simp only[wt]at z
  simp only[Ak.pt,Pt.nice,Pt.CG]
  refine⟨by simp,trivial,⟨by rw[Ak.AZ,List.length_map];exact o.1,o.2.1,by lia,ID xs o.2.2.2.2.2.2 (by lia)⟩,⟨by rw[List.length_map];lia,Pt.J_ fun x b=>?_⟩,trivial,trivial⟩
  obtain⟨y,_,rfl⟩:=List.mem_map.mp b
  trivial
theorem ID:∀xs:List Ak,GR xs->E_ xs<=900->Pt.CG (Ak.CY xs)
 |[],_,_=>trivial
 |x::r,o,z=>by
  simp only[GR]at o
  simp only[E_]at z
  simp only[Ak.CY,Pt.CG]
  exact⟨Ot x o.1 (by lia),ID r o.2 (by lia)⟩
end
def Kd:Ak->List Ak->Prop
 |row xs _,as=>as=xs
 |tab ks xs _ _,as=>∃ss:List Str,ss.Perm ks/\sortedS ss=true/\ss.map (lk ks xs)=as.map some
 |_,as=>as=[]
end Ak
theorem some_inj {c:Type}:∀{a b:List c},a.map some=b.map some->a=b
 |[],[],_=>rfl
 |[],_::_,h=>by simp at h
 |_::_,[],h=>by simp at h
 |x::r,y::q,h=>by
  simp only[List.map_cons,List.cons.injEq]at h
  rw[AGU h.1,some_inj h.2]
namespace Ak
theorem Kd.one {a:Ak} {as bs:List Ak} (h:Kd a as) (h':Kd a bs):as=bs:=by
 cases a with
 |row b m=>exact(show as=b from h).trans (show bs=b from h').symm
 |tab k b l m=>
  obtain⟨n,c,e,f⟩:=h
  obtain⟨o,g,i,j⟩:=h'
  have:=EG e i (c.trans g.symm)
  subst this
  exact some_inj (f.symm.trans j)
 |any=>exact(show as=[]from h).trans (show bs=[]from h').symm
 |As d=>exact(show as=[]from h).trans (show bs=[]from h').symm
theorem Kd.ok {a:Ak} {as:List Ak} (h:Kd a as) (o:a.CF):∀x∈as,x.CF:=by
 cases a with
 |row c m=>simp only[CF]at o;rw[show as=c from h];exact CS o
 |tab g c i m=>
  simp only[CF]at o
  obtain⟨j,e,k,f⟩:=h
  intro x b
  have:=(DO o.1 o.2.1 e f).mem_iff.mp b
  exact CS o.2.2.2.2.2.2 x this
 |any=>rw[show as=[]from h];exact fun x b=>nomatch b
 |As d=>rw[show as=[]from h];exact fun x b=>nomatch b
theorem Kd.size {a:Ak} {as:List Ak} (h:Kd a as) (o:a.CF):a.size=1+AL as:=by
 cases a with
 |row b m=>rw[show as=b from h];rfl
 |tab f b g m=>
  simp only[CF]at o
  obtain⟨i,c,j,e⟩:=h
  have:=GP (DO o.1 o.2.1 c e)
  simp only[Ak.size];lia
 |any=>rw[show as=[]from h];rfl
 |As d=>rw[show as=[]from h];rfl
theorem Kd.wt {a:Ak} {as:List Ak} (h:Kd a as) (o:a.CF):∀x∈as,x.wt<=a.wt:=by
 cases a with
 |row c m=>rw[show as=c from h];intro x b;have:=Gz b;simp only[Ak.wt];lia
 |tab g c i m=>
  simp only[CF]at o
  obtain⟨j,e,k,f⟩:=h
  intro x b
  have:=Gz ((DO o.1 o.2.1 e f).mem_iff.mp b)
  simp only[Ak.wt];lia
 |any=>rw[show as=[]from h];exact fun x b=>nomatch b
 |As d=>rw[show as=[]from h];exact fun x b=>nomatch b
def EC:List Ak->Option (List Pt)
 |[]=>some []
 |As d::r=>(EC r).map (d::·)
 |_::_=>none
def B_ (a:List Ak) (m:Bool):Ak:=if m then row a true else match EC a with
 |some b=>As (.lst b)
 |none=>row a false
def B' (ss:List Str) (a:List Ak) (ls:List Str) (m:Bool):Ak:=if m then tab ss a ls true else match EC a with
 |some b=>As (.BX ss b)
 |none=>tab ss a [] false
mutual
inductive Good:Ak->Ak->Prop
 |any:Good .any .any
 |As (d:Pt):Good (.As d) (.As d)
 |row {xs a:List Ak} {m:Bool} (h:D_ xs a):Good (.row xs m) (B_ a m)
 |tab {ks ss:List Str} {xs as a:List Ak} {ls:List Str} {m:Bool} (b:ss.Perm ks) (c:sortedS ss=true) (e:ss.map (lk ks xs)=as.map some) (h:D_ as a):Good (.tab ks xs ls m) (B' ss a ls m)
inductive D_:List Ak->List Ak->Prop
 |nil:D_ [] []
 |cons {x y:Ak} {xs ys:List Ak} (h:Good x y) (r:D_ xs ys):D_ (x::xs) (y::ys)
end
theorem D_.length:∀{xs ys:List Ak},D_ xs ys->xs.length=ys.length
 |_,_,.nil=>rfl
 |_,_,.cons _ r=>by rw[List.length_cons,List.length_cons,r.length]
theorem Cn:∀{b:List Ak} {a:List Pt},EC b=some a->b=a.map As
 |[],a,h=>by simp only[EC]at h;cases h;rfl
 |As d::r,a,h=>by
  simp only[EC]at h
  cases e:EC r with
  |none=>rw[e]at h;cases h
  |some c=>
   rw[e]at h
   cases h
   rw[Cn e]
   rfl
 |any::_,_,h=>by simp[EC]at h
 |row _ _::_,_,h=>by simp[EC]at h
 |tab _ _ _ _::_,_,h=>by simp[EC]at h
theorem KG:∀a:List Pt,E_ (a.map As)=Pt.AL a
 |[]=>rfl
 |d::r=>by simp only[List.map_cons,E_,wt,Pt.AL,KG r]
theorem KH:∀a:List Pt,LM (a.map As)=Pt.AW a
 |[]=>rfl
 |d::r=>by simp only[List.map_cons,LM,dp,Pt.AW,KH r]
theorem KI:∀a:List Pt,GR (a.map As)->Pt.ER a
 |[],_=>trivial
 |d::r,h=>by simp only[List.map_cons,GR,CF]at h;exact⟨h.1,KI r h.2⟩
theorem Qr (a:List Ak) (m:Bool):(B_ a m).wt=1+E_ a:=by
 unfold B_
 split
 ·rfl
 ·split
  ·rename_i b e
   rw[Cn e,KG]
   rfl
  ·rfl
theorem Qs (ss:List Str) (a:List Ak) (ls:List Str) (m:Bool):(B' ss a ls m).wt=1+E_ a:=by
 unfold B'
 split
 ·rfl
 ·split
  ·rename_i b e
   rw[Cn e,KG]
   rfl
  ·rfl
theorem Qt (a:List Ak) (m:Bool):(B_ a m).dp=1+LM a:=by
 unfold B_
 split
 ·rfl
 ·split
  ·rename_i b e
   rw[Cn e,KH]
   rfl
  ·rfl
theorem Qu (ss:List Str) (a:List Ak) (ls:List Str) (m:Bool):(B' ss a ls m).dp=1+LM a:=by
 unfold B'
 split
 ·rfl
 ·split
  ·rename_i b e
   rw[Cn e,KH]
   rfl
  ·rfl
theorem Qv {a:List Ak} (m:Bool) (h:GR a):(B_ a m).CF:=by
 unfold B_
 split
 ·exact h
 ·split
  ·rename_i b e
   rw[Cn e]at h
   exact KI b h
  ·exact h
theorem Qw {ss:List Str} {a:List Ak} {ls:List Str} (m:Bool) (l:ss.length=a.length) (nd:ss.Nodup) (b:∀k∈ss,Cb k=true) (sz:ss.length<60) (c:ls.length<=100) (d:∀l∈ls,l∉ss) (h:GR a):(B' ss a ls m).CF:=by
 unfold B'
 split
 ·exact⟨l,nd,b,sz,c,d,h⟩
 ·split
  ·rename_i f e
   rw[Cn e]at h l
   rw[List.length_map]at l
   simp only[CF,Pt.doc]
   exact⟨l,nd,b,by lia,KI f h⟩
  ·exact⟨l,nd,b,sz,by simp,(fun l g=>by simp at g),h⟩
mutual
theorem Good.keeps:∀{a b:Ak},Good a b->a.CF->b.CF/\b.wt=a.wt/\b.dp=a.dp
 |_,_,.any,_=>⟨trivial,rfl,rfl⟩
 |_,_,.As d,h=>⟨h,rfl,rfl⟩
 |_,_,.row (xs:=xs) (m:=m) h,o=>by
  simp only[CF]at o
  obtain⟨f,g,i⟩:=h.keeps (CS o)
  refine⟨Qv _ f,?_,?_⟩
  ·rw[Qr,g];rfl
  ·rw[Qt,i];rfl
 |_,_,.tab (ks:=ks) (ss:=ss) (xs:=xs) (as:=as) (ls:=ls) c B e h,o=>by
  simp only[CF]at o
  obtain⟨p,n,q,r,s,t,u⟩:=o
  have j:=DO p n c e
  obtain⟨f,g,i⟩:=h.keeps fun x v=>CS u x (j.mem_iff.mp v)
  have w:as.length=ss.length:=by have:=congrArg List.length e;simpa using this.symm
  refine⟨Qw _ (by rw[<-h.length,w]) (c.nodup_iff.mpr n) (fun k y=>q k (c.mem_iff.mp y)) (by rw[c.length_eq];exact r) s (fun l A z=>t l A (c.mem_iff.mp z)) f,?_,?_⟩
  ·rw[Qs,g,KD j];rfl
  ·rw[Qu,i,Wh j];rfl
theorem D_.keeps:∀{as bs:List Ak},D_ as bs->(∀a∈as,a.CF)->GR bs/\E_ bs=E_ as/\LM bs=LM as
 |_,_,.nil,_=>⟨trivial,rfl,rfl⟩
 |_,_,.cons h r,o=>by
  obtain⟨b,c,d⟩:=h.keeps (o _ List.mem_cons_self)
  obtain⟨e,f,g⟩:=r.keeps fun x i=>o x (List.mem_cons_of_mem _ i)
  exact⟨⟨b,e⟩,by simp only[E_,c,f],by simp only[LM,d,g]⟩
end
end Ak
structure Yv (root:Ak) (n:Nat) (l:List Ak) (gL:List (List Ak)):Prop where
 len:gL.length=n
 eq:l=root::gL.flatten
 kids:∀(j:Nat) a ks,l[j]?=some a->gL[j]?=some ks->Ak.Kd a ks
 ok:∀a∈l,a.CF/\a.wt<=root.wt
 sum:n+Ak.AL (l.drop n)=root.size
 pos:∀j,j<n->j<=(gL.take j).flatten.length
theorem Yv.start {a:Ak} (o:a.CF):Yv a 0 [a] []:=⟨rfl,rfl,fun j a c _ h=>by simp at h,fun x b=>by rw[List.mem_singleton.mp b];exact⟨o,Nat.le_refl _⟩,by simp[Ak.AL],fun j h=>by lia⟩
theorem Yv.next {root:Ak} {n:Nat} {l:List Ak} {c:List (List Ak)} (b:Yv root n l c) {a:Ak} (d:l[n]?=some a) {ks:List Ak} (g:Ak.Kd a ks):Yv root (n+1) (l++ks) (c++[ks]):=by
 obtain⟨p,q,t,r,s,u⟩:=b
 have i:=(AGT d).1
 have o:=r a (AGV d)
 refine⟨by simp[p],by rw[q];simp,fun j x k m f=>?_,fun x v=>?_,?_,fun j w=>?_⟩
 ·by_cases w:j<n
  ·rw[List.getElem?_append_left (by lia)]at m f
   exact t j x k m f
  ·have:=(AGT f).1
   rw[List.length_append,List.length_singleton]at this
   have e:j=n:=by lia
   subst e
   rw[List.getElem?_append_left i,d]at m
   rw[List.getElem?_append_right (by lia),p,Nat.sub_self]at f
   cases m
   have:ks=k:=by simpa using f
   subst this
   exact g
 ·rcases List.mem_append.mp v with h|h
  ·exact r x h
  ·have:=g.wt o.1 x h
   exact⟨g.ok o.1 x h,by lia⟩
 ·have y:l.drop n=a::l.drop (n+1):=by
   rw[List.drop_eq_getElem_cons i]
   rw[AGS i]at d
   rw[AGU d]
  have sz:=g.size o.1
  rw[y]at s
  simp only[Ak.AL]at s
  rw[List.drop_append_of_le_length (by lia),Ak.Am]
  lia
 ·by_cases h:j<n
  ·rw[List.take_append_of_le_length (by lia)]
   exact u j h
  ·have e:j=n:=by lia
   subst e
   rw[List.take_append_of_le_length (by lia),List.take_of_length_le (by lia)]
   rw[q,List.length_cons]at i
   lia
theorem Yv.at_ {root:Ak} {l:List Ak} {a:List (List Ak)} (b:Yv root l.length l a) {j:Nat} {ks:List Ak} (c:a[j]?=some ks):j<1+(a.take j).flatten.length/\(l.drop (1+(a.take j).flatten.length)).take ks.length=ks/\1+(a.take (j+1)).flatten.length=1+(a.take j).flatten.length+ks.length/\1+(a.take j).flatten.length+ks.length<=l.length:=by
 have d:=(AGT c).1
 have f:a=a.take j++ks::a.drop (j+1):=by
  have:a.drop j=ks::a.drop (j+1):=by
   rw[List.drop_eq_getElem_cons d]
   rw[AGS d]at c
   rw[AGU c]
  rw[<-this,List.take_append_drop]
 have e:l=root::((a.take j).flatten++(ks++(a.drop (j+1)).flatten)):=by
  have:=b.eq
  rw[f]at this
  rw[this]
  simp
 have g:a.take (j+1)=a.take j++[ks]:=by rw[List.take_add_one,c];rfl
 refine⟨?_,?_,?_,?_⟩
 ·have:=b.pos j (by rw[<-b.len];exact d)
  lia
 ·have:l.drop (1+(a.take j).flatten.length)=ks++(a.drop (j+1)).flatten:=by
   rw[show 1+(a.take j).flatten.length=(a.take j).flatten.length+1 by lia]
   conv=>lhs;rw[e]
   rw[List.drop_succ_cons,List.drop_left]
  rw[this,List.take_left']
  rfl
 ·rw[g]
  simp
  lia
 ·rw[e]
  simp
  lia
theorem CT {n:Nat} (h:n<=20000):n<=sizeLine:=Nat.le_trans h (show 20000<=2 ^ 24 by decide)
def Pt.hold:Pt->Pt
 | .tup (.str w::h::_)=>if w="row"∨w="table"then h else .lst []
 |_=>.lst []
mutual
inductive Ou:Nat->Pt->Prop
 |leaf {w:Str} {r:List Pt} (a:w≠"row") (b:w≠"table"):Ou 1 (.tup (.str w::r))
 |row {n:Nat} {xs r:List Pt} (z:xs.length<=900) (h:ET n xs):Ou (n+1) (.tup (.str "row"::.lst xs::r))
 |tab {n:Nat} {ks:List Str} {xs r:List Pt} (l:ks.length=xs.length) (nd:ks.Nodup) (z:ks.length<64) (h:ET n xs):Ou (n+1) (.tup (.str "table"::.BX ks xs::r))
inductive ET:Nat->List Pt->Prop
 |nil:ET 0 []
 |cons {n m:Nat} {x:Pt} {r:List Pt} (h:Ou n x) (t:ET m r):ET (n+m) (x::r)
end
theorem Ou.pos {n:Nat} {t:Pt} (h:Ou n t):1<=n:=by cases h<;>lia
theorem ET.len:∀{n:Nat} {xs:List Pt},ET n xs->xs.length<=n
 |_,_,.nil=>Nat.le_refl _
 |_,_,.cons h t=>by have:=h.pos;have:=t.len;rw[List.length_cons];lia
theorem ET.append:∀{n m:Nat} {xs ys:List Pt},ET n xs->ET m ys->ET (n+m) (xs++ys)
 |_,_,_,_,.nil,s=>by rw[Nat.zero_add];exact s
 |_,_,_,_,.cons h t,s=>by rw[Nat.add_assoc];exact .cons h (t.append s)
theorem ET.perm {n:Nat} {xs ys:List Pt} (p:xs.Perm ys) (h:ET n xs):ET n ys:=by
 induction p generalizing n with
 |nil=>exact h
 |cons x _ d=>cases h with|cons h t=>exact .cons h (d t)
 |swap x y l=>
  cases h with
  |cons h t=>
   cases t with
   |@cons a b _ _ e t=>
    rename_i c
    rw[show c+(a+b)=a+(c+b)by lia]
    exact .cons e (.cons h t)
 |trans _ _ f g=>exact g (f h)
theorem Ou.SM {n:Nat} {t:Pt} (h:Ou n t):Dz t.hold:=by
 cases h with
 |@leaf w r a b=>
  have e:Pt.hold (.tup (.str w::r))=.lst []:=by
   cases r with
   |nil=>rfl
   |cons h r=>simp[Pt.hold,a,b]
  rw[e]
  exact Nat.zero_le _
 |@row n c r z h=>exact z
 |@tab n f c r l nd d h=>exact⟨l,d⟩
theorem Ou.kids {n:Nat} {t:Pt} {us:List Pt} (h:Ou n t) (k:H_ t.hold us):∃m,ET m us/\n=m+1:=by
 cases h with
 |@leaf w r d f=>
  have e:Pt.hold (.tup (.str w::r))=.lst []:=by
   cases r with
   |nil=>rfl
   |cons h r=>simp[Pt.hold,d,f]
  rw[e]at k
  rw[show us=[]from k]
  exact⟨0,.nil,rfl⟩
 |@row n b r z h=>
  have:us=b:=k
  subst this
  exact⟨n,h,rfl⟩
 |@tab n c b r l nd z h=>
  obtain⟨a,g,i,e⟩:=(show∃a:List Str,a.Perm c/\sortedS a=true/\a.map (lk c b)=us.map some from k)
  exact⟨n,h.perm (DO l nd g e).symm,rfl⟩
inductive Qx (root:Pt):Nat->List Pt->List (List Pt)->Prop
 |start:Qx root 0 [root] []
 |next{n:Nat} {l:List Pt} {a:List (List Pt)} {t:Pt} {us:List Pt} (b:Qx root n l a) (c:l[n]?=some t) (k:H_ t.hold us):Qx root (n+1) (l++us) (a++[us])
theorem Yw {N n m:Nat} {l us:List Pt} {t:Pt} (h:ET m (l.drop n)) (e:n+m=N) (a:l[n]?=some t) (k:H_ t.hold us) (z:N<=20000):Dz t.hold/\us.length<=20000/\∃b,b<m/\ET b ((l++us).drop (n+1))/\n+1+b=N:=by
 have c:=(AGT a).1
 have f:l.drop n=t::l.drop (n+1):=by
  rw[List.drop_eq_getElem_cons c]
  rw[AGS c]at a
  rw[AGU a]
 rw[f]at h
 cases h with
 |@cons j g _ _ h r=>
  obtain⟨i,d,o⟩:=h.kids k
  have:=d.len
  refine⟨h.SM,by lia,g+i,by lia,?_,by lia⟩
  rw[List.drop_append_of_le_length (by lia)]
  exact r.append d
theorem jD {N n m:Nat} {l:List Pt} {t:Pt} (h:ET m (l.drop n)) (e:n+m=N) (a:l[n]?=some t) (z:N<=20000):∃b,b<=20000/\Ou b t:=by
 have c:=(AGT a).1
 have d:l.drop n=t::l.drop (n+1):=by
  rw[List.drop_eq_getElem_cons c]
  rw[AGS c]at a
  rw[AGU a]
 rw[d]at h
 cases h with
 |@cons f g _ _ h r=>exact⟨f,by lia,h⟩
namespace Ak
mutual
theorem nd:∀a:Ak,a.CF->a.size<=900->Ou a.size a.pt
 |any,_,_=>.leaf (by decide) (by decide)
 |As d,_,_=>.leaf (by decide) (by decide)
 |row xs m,o,z=>by
  simp only[size]at z
  have b:=Dj xs
  simp only[CF]at o
  simp only[size,pt]
  rw[Nat.add_comm]
  exact .row (by rw[AZ,List.length_map];lia) (dD xs o (by lia))
 |tab c xs e m,o,z=>by
  simp only[size]at z
  simp only[CF]at o
  simp only[size,pt]
  rw[Nat.add_comm]
  exact .tab (by rw[AZ,List.length_map];exact o.1) o.2.1 (by lia) (dD xs o.2.2.2.2.2.2 (by lia))
theorem dD:∀xs:List Ak,GR xs->AL xs<=900->ET (AL xs) (CY xs)
 |[],_,_=>.nil
 |x::r,o,z=>by
  simp only[AL]at z
  simp only[GR]at o
  exact .cons (nd x o.1 (by lia)) (dD r o.2 (by lia))
end
theorem SN {a:Ak} {us:List Pt} (o:a.CF) (k:H_ a.pt.hold us):∃as,Kd a as/\us=as.map pt:=by
 cases a with
 |any=>exact⟨[],rfl,show us=[]from k⟩
 |As d=>
  have:us=[]:=by
   have h:H_ (.lst []) us:=by
    have e:(Ak.As d).pt.hold=.lst []:=by simp only[pt,Pt.hold];exact if_neg (by decide)
    rw[e]at k
    exact k
   exact h
  exact⟨[],rfl,this⟩
 |row xs m=>exact⟨xs,rfl,by rw[<-AZ];exact k⟩
 |tab c xs l m=>
  simp only[CF]at o
  obtain⟨b,f,i,e⟩:=(show∃b:List Str,b.Perm c/\sortedS b=true/\b.map (lk c (CY xs))=us.map some from k)
  obtain⟨as,g⟩:=Jz (xs:=xs) o.1 fun k j=>f.mem_iff.mp j
  refine⟨as,⟨b,f,i,g⟩,?_⟩
  refine some_inj (e.symm.trans ?_)
  rw[AZ,List.map_map]
  have:b.map (lk c (xs.map pt))=(b.map (lk c xs)).map (Option.map pt):=by
   rw[List.map_map]
   exact List.map_congr_left fun k _=>GQ pt
  rw[this,g,List.map_map]
  rfl
theorem Wj {a:Ak} (o:a.CF):∀{n:Nat} {l:List Pt} {f:List (List Pt)},Qx a.pt n l f->∃as c,Yv a n as c/\l=as.map pt
 |_,_,_,.start=>⟨[a],[],Yv.start o,rfl⟩
 |_,_,_,.next (n:=n) (us:=us) b d k=>by
  obtain⟨as,c,B,rfl⟩:=Wj o b
  rw[List.getElem?_map]at d
  cases e:as[n]? with
  |none=>rw[e]at d;cases d
  |some x=>
   rw[e]at d
   cases d
   obtain⟨g,k1,rfl⟩:=SN (B.ok x (AGV e)).1 k
   exact⟨as++g,c++[g],B.next e k1,by rw[List.map_append]⟩
end Ak
section
variable{K:AGW} [BY K]
theorem Val.node {H:Hp} {v:V} {n:Nat} {t:Pt} (h:Val H v t) (d:Ou n t):∃(a:Addr) (w:Str) (rest:List V),v=.ref a/\Bf K H a (.str w::rest)/\((w≠"row"/\w≠"table"/\t.hold=.lst [])∨((w="row"∨w="table")/\∃u r,rest=u::r/\Val H u t.hold)):=by
 cases d with
 |@leaf w r e f=>
  cases h with
  |tup h q=>
   cases q with
   |cons b q=>
    cases b
    refine⟨_,w,_,rfl,h,.inl ⟨e,f,?_⟩⟩
    cases r with
    |nil=>rfl
    |cons h r=>simp[Pt.hold,e,f]
 |@row n g r i d=>
  cases h with
  |tup h q=>
   cases q with
   |cons b q=>
    cases b
    cases q with
    |cons c q=>exact⟨_,"row",_,rfl,h,.inr ⟨.inl rfl,_,_,rfl,c⟩⟩
 |@tab n j g r l nd z d=>
  cases h with
  |tup h q=>
   cases q with
   |cons b q=>
    cases b
    cases q with
    |cons c q=>exact⟨_,"table",_,rfl,h,.inr ⟨.inr rfl,_,_,rfl,c⟩⟩
theorem Ov {H:Hp}:∀zs:List Str,Aj H (zs.map V.str) (zs.map Pt.str)
 |[]=>.nil
 |z::r=>.cons (.str z) (Ov r)
theorem E' {H:Hp}:∀{ls:List Str} {vs:List V},Aj H vs (ls.map Pt.str)->vs=ls.map V.str
 |[],_,h=>by cases h;rfl
 |x::r,_,h=>by
  cases h with
  |cons a b=>cases a;rw[List.map_cons,E' b]
structure Fd (H0 Hi:Hp) (as:List Ak) (ts:List V) (at_:Nat):Prop where
 len:ts.length=as.length
 val:∀(j:Nat) x,at_<=j->as[j]?=some x->∃w b,ts[j]?=some w/\Ak.Good x b/\Val (nw H0 Hi) w b.pt
theorem Fd.up {a c d:Hp} {as:List Ak} {ts:List V} {n:Nat} (f:Fd a c as ts n) (s:∀b o,a b=none->c b=some o->d b=some o):Fd a d as ts n:=⟨f.len,fun j x e g=>let⟨w,b,i,k,l⟩:=f.val j x e g;⟨w,b,i,k,l.up (CD (fun _ h=>h) s)⟩⟩
theorem Fd.slice {c d:Hp} {as:List Ak} {ts:List V} {n:Nat} (f:Fd c d as ts n):∀(k s:Nat),n<=s->s+k<=as.length->∃a,Ak.D_ ((as.drop s).take k) a/\Aj (nw c d) ((ts.drop s).take k) (a.map Ak.pt)
 |0,s,_,_=>⟨[],by rw[List.take_zero];exact .nil,by rw[List.take_zero];exact .nil⟩
 |k+1,s,g,m=>by
  obtain⟨a,h,i⟩:=f.slice k (s+1) (by lia) (by lia)
  have l1:s<as.length:=by lia
  have l2:s<ts.length:=by rw[f.len];exact l1
  obtain⟨w,b,e,j,l⟩:=f.val s as[s] g (AGS l1)
  rw[AGS l2]at e
  refine⟨b::a,?_,?_⟩
  ·rw[List.drop_eq_getElem_cons l1,List.take_succ_cons]
   exact .cons j h
  ·rw[List.drop_eq_getElem_cons l2,List.take_succ_cons,List.map_cons,AGU e]
   exact .cons l i
theorem Fd.set {a h c:Hp} {as:List Ak} {ts:List V} {n:Nat} (f:Fd a h as ts (n+1)) (s:∀b o,a b=none->h b=some o->c b=some o) {x:Ak} (i:as[n]?=some x) {w:V} {b:Ak} (g:Ak.Good x b) (hw:Val (nw a c) w b.pt):Fd a c as (ts.set n w) n:=by
 refine⟨by rw[List.length_set,f.len],fun j y t d=>?_⟩
 have k:=(AGT i).1
 by_cases e:j=n
 ·subst e
  rw[i]at d
  cases d
  exact⟨w,b,by rw[List.getElem?_set_self (by rw[f.len];exact k)],g,hw⟩
 ·obtain⟨l,m,p,q,r⟩:=(f.up s).val j y (by lia) d
  exact⟨l,m,by rw[List.getElem?_set_ne (Ne.symm e)];exact p,q,r⟩
theorem Wk (l:List V) (i j:Nat) (h:i<=j) (a:j<=l.length):HZ l (some (i:Int)) (some (j:Int))=(l.drop i).take (j-i):=by
 unfold HZ
 rw[HT.JA,HT.JA,Nat.min_eq_left a,Nat.min_eq_left (Nat.le_trans h a)]
inductive Ow {K:AGW} [BY K] (vs:List V) (H:Hp) (Q:VK) (a:XK):Prop
 |mk (G:Hp) (v:V) (t:Pt) (n:Nat) (b:vs=[v]) (c:AE G H) (d:Val G v t) (e:Ou n t) (f:∀(w:V) (H':Hp),AE H H'->(Val G w t.hold∨(t.hold=.lst []/\∃p,w=.ref p/\H' p=some (.lst [])))->Q w H'):Ow vs H Q a
def SO:Sp:=fun a H Q E=>Ow a H Q E
inductive Ls {K:AGW} [BY K] (vs:List V) (H:Hp) (Q:VK) (a:XK):Prop
 |mk (G:Hp) (v:V) (t:Pt) (n:Nat) (c:vs=[v]) (d:AE G H) (e:Val G v t) (f:Ou n t) (g:∀(p:Addr) (b:List V) (us:List Pt) (H':Hp),AE H H'->H p=none->H' p=some (.lst b)->Aj G b us->H_ t.hold us->Q (.ref p) H'):Ls vs H Q a
def KJ:Sp:=fun a H Q E=>Ls a H Q E
inductive Ox {K:AGW} [BY K] (c:Addr) (vs:List V) (H:Hp) (Q:VK) (a:XK):Prop
 |mk (G:Hp) (v:V) (t:Pt) (n:Nat) (e:vs=[v,.ref c]) (f:AE G H) (g:Val G v t) (h:Ou n t) (i:n<=20000) (j:∀(p:Addr) (d:List V) (l:List Pt) (b:List (List Pt)) (H':Hp),AE H H'->H p=none->H' p=some (.lst d)->Aj G d l->Qx t l.length l b->l.length<=n->Q (.ref p) H'):Ox c vs H Q a
def M' (a:Addr):Sp:=fun b H Q E=>Ox a b H Q E
inductive IE {K:AGW} [BY K] (vs:List V) (H:Hp) (Q:VK) (a:XK):Prop
 |row (v:V) (ts:List Pt) (L:Addr) (ws:List V) (b:vs=[v,.ref L]) (c:Val H v (.lst ts)) (d:H L=some (.lst ws)) (e:ws.length<=900) (f:∀(p:Addr) (H':Hp),AE H H'->H p=none->H' p=some (.lst ws)->Q (.ref p) H'):IE vs H Q a
 |tab (v:V) (ks:List Str) (ts:List Pt) (L:Addr) (ws:List V) (b:vs=[v,.ref L]) (c:Val H v (.BX ks ts)) (d:H L=some (.lst ws)) (e:Dz (.BX ks ts)) (f:ws.length=ks.length) (g:ks.Nodup) (h:∀(p:Addr) (ss:List Str) (H':Hp),AE H H'->H p=none->ss.Perm ks->sortedS ss=true->H' p=some (.dK (CO ss ws))->Q (.ref p) H'):IE vs H Q a
def KL:Sp:=fun a H Q E=>IE a H Q E
def Ak.gM:Ak->Bool
 | .As _=>false
 |_=>true
theorem Yx:∀{a:List Ak} {vs:List V},vs.length=a.length->(∀(i:Nat) v,vs[i]?=some v->∃c,a[i]?=some c/\v=.bl c.gM)->∃bs:List Bool,vs=bs.map V.bl/\bs.any id=(Ak.EC a).isNone:=by
 intro a
 induction a with
 |nil=>intro vs l _;have:vs=[]:=List.eq_nil_of_length_eq_zero l;subst this;exact⟨[],rfl,rfl⟩
 |cons c r g=>
  intro vs l h
  cases vs with
  |nil=>simp at l
  |cons v vs=>
   obtain⟨bs,rfl,j⟩:=g (vs:=vs) (by simpa using l) fun i v k=>by
    obtain⟨b,e,f⟩:=h (i+1) v (by simpa using k)
    exact⟨b,by simpa using e,f⟩
   obtain⟨b,e,f⟩:=h 0 v rfl
   have:c=b:=by simpa using e
   subst this
   refine⟨c.gM::bs,by rw[f];rfl,?_⟩
   rw[List.any_cons,j]
   cases c with
   |As d=>simp[Ak.EC,Ak.gM]
   |_=>simp[Ak.EC,Ak.gM]
inductive G_:Pt->List Ak->(List Pt->Pt)->Prop
 |row (a:List Ak) (z:a.length<=900):G_ (.lst (a.map Ak.pt)) a .lst
 |tab (ss:List Str) (a:List Ak) (l:ss.length=a.length) (nd:ss.Nodup) (z:ss.length<64) (b:sortedS ss=true):G_ (.BX ss (a.map Ak.pt)) a (.BX ss)
theorem G_.SM {t:Pt} {a:List Ak} {mk:List Pt->Pt} (h:G_ t a mk):Dz t:=by
 cases h with
 |row a z=>show(a.map Ak.pt).length<=900;rw[List.length_map];exact z
 |tab b a l nd z c=>exact⟨by rw[List.length_map];exact l,z⟩
theorem G_.len {t:Pt} {a:List Ak} {mk:List Pt->Pt} (h:G_ t a mk):a.length<=900:=by
 cases h with
 |row a z=>exact z
 |tab b a l nd z c=>lia
theorem G_.kids {t:Pt} {a:List Ak} {mk:List Pt->Pt} (h:G_ t a mk) {us:List Pt} (k:H_ t us):us=a.map Ak.pt:=by
 refine k.one ?_
 cases h with
 |row a z=>rfl
 |tab b a l nd z c=>exact⟨b,.refl _,c,SE (by rw[List.length_map];exact l) nd⟩
inductive Lu {K:AGW} [BY K] (vs:List V) (H:Hp) (Q:VK) (a:XK):Prop
 |mk (c:Hp) (v:V) (t:Pt) (d:List Ak) (mk:List Pt->Pt) (f:vs=[v]) (g:Val (nw c H) v t) (h:G_ t d mk) (i:∀b,H b=none->c b=none) (j:∀(w:V) (H':Hp),AE H H'->(Ak.EC d=none/\w=.Av∨∃e,Ak.EC d=some e/\Val (nw c H') w (Ak.As (mk e)).pt)->Q w H'):Lu vs H Q a
def KN:Sp:=fun a H Q E=>Lu a H Q E
inductive KO {K:AGW} [BY K] (vs:List V) (H:Hp) (Q:VK) (c:XK):Prop
 |mk (a:Hp) (L:Addr) (ws:List V) (d:List Ak) (m:Bool) (e:vs=[.ref L,.bl m]) (f:H L=some (.lst ws)) (g:Aj (nw a H) ws (d.map Ak.pt)) (h:ws.length<=900) (i:∀b,H b=none->a b=none) (j:a L=none) (k:∀(w:V) (H':Hp),AE H H'->Val (nw a H') w (Ak.B_ d m).pt->Q w H'):KO vs H Q c
def Lv:Sp:=fun a H Q E=>KO a H Q E
inductive KP {K:AGW} [BY K] (vs:List V) (H:Hp) (Q:VK) (c:XK):Prop
 |mk (G a:Hp) (L:Addr) (ss:List Str) (ws:List V) (d:List Ak) (z:V) (ls:List Str) (m:Bool) (g:vs=[.ref L,z,.bl m]) (h:H L=some (.dK (CO ss ws))) (i:Aj (nw a H) ws (d.map Ak.pt)) (j:ss.length=ws.length) (k:ss.Nodup) (l:ss.length<64) (n:sortedS ss=true) (o:∀b,H b=none->a b=none) (p:a L=none) (q:Val H z (.lst (ls.map Pt.str))) (e:ls.length<=100) (f:∀(w:V) (H':Hp),AE H H'->Val (nw a H') w (Ak.B' ss d ls m).pt->Q w H'):KP vs H Q c
def Lw:Sp:=fun a H Q E=>KP a H Q E
inductive IZ {K:AGW} [BY K] (vs:List V) (H:Hp) (Q:VK) (d:XK):Prop
 |mk (G c:Hp) (v:V) (a:Ak) (L:Addr) (ws:List V) (as e:List Ak) (h:vs=[v,.ref L]) (i:AE G H) (j:Val G v a.pt) (k:a.CF) (l:a.wt<=900) (m:H L=some (.lst ws)) (n:c L=none) (o:∀b,H b=none->c b=none) (p:Ak.Kd a as) (q:Ak.D_ as e) (f:Aj (nw c H) ws (e.map Ak.pt)) (g:∀(w:V) (b:Ak) (H':Hp),AE H H'->Val (nw c H') w b.pt->Ak.Good a b->Q w H'):IZ vs H Q d
def KQ:Sp:=fun a H Q E=>IZ a H Q E
inductive Oy {K:AGW} [BY K] (d e:Addr) (vs:List V) (H:Hp) (Q:VK) (c:XK):Prop
 |mk (G:Hp) (v:V) (a:Ak) (f:vs=[v,.ref d,.ref e]) (g:AE G H) (h:Val G v a.pt) (i:a.CF) (j:a.wt<=900) (k:∀(w:V) (b:Ak) (H':Hp),AE H H'->Val (nw H H') w b.pt->Ak.Good a b->Q w H'):Oy d e vs H Q c
def SQ (a b:Addr):Sp:=fun c H Q E=>Oy a b c H Q E
inductive Oz {K:AGW} [BY K] (vs:List V) (H:Hp) (Q:VK) (c:XK):Prop
 |mk (G:Hp) (v:V) (a:Ak) (d:vs=[v]) (e:AE G H) (f:Val G v a.pt) (g:a.CF) (h:a.wt<=900) (i:∀(w:V) (b:Ak) (H':Hp),AE H H'->Val (nw H H') w b.pt->Ak.Good a b->Q w H'):Oz vs H Q c
def SR:Sp:=fun a H Q E=>Oz a H Q E
end
def gN (w:World):Bool:=w.params.followText "set-order"
structure SSo (prog:Program) (w:World) (h:Heap) (a:Addr) (ss:List Str) (o:Obj) (es:Array (Int×Value)) (ep:Nat) (t:SetTable) (us:List Str):Prop where
 at_:h.get? a=some o
 ex:o.ExactSet
 da:o.data=.set es ep t
 el:ElemsOf (PySem.strKind prog w) es.toList
 st:StrsAre (es.toList.map (·.2)) us
 pm:us.Perm ss
 fi:t.fits es.size=true
 le:t.led= !gN w
 pl:ss≠[]->t.plain=false
def SS (prog:Program) (w:World) (h:Heap) (a:Addr) (ss:List Str):Prop:=∃o b c t d,SSo prog w h a ss o b c t d
section
variable{prog:Program} {w:World} {A:Around} {E:Value->Shared->Prop} {s:Shared}
end
section
variable{prog:Program} {w:World} {A:Around} {R:Result->Shared->Prop}
end
section
variable{prog:Program} {w:World} {A:Around} {E:Value->Shared->Prop} {s:Shared}
end
abbrev ACD (w:World):Obj:={cls:=.type "set",dict:=none,data:=.set #[] 0 (.fresh 0 0 (!gN w))}
section
variable{prog:Program} {w:World} {A:Around} {E:Value->Shared->Prop} {s:Shared}
end
abbrev p_ (h:Heap) (b a:Addr) (f:Value) (i n ep:Nat):Prop:=h.get? b=some {cls:=.type "set_iterator",dict:=none,data:=.fields #[f,rawInt (i:Int),.ref a,rawInt (n:Int),rawInt (ep:Int)],slots:= #[]}
section
variable{prog:Program} {w:World} {A:Around} {E:Value->Shared->Prop} {s:Shared}
end
inductive Yy (w:World) (h:Heap) (a:Addr) (d:Array (Int×Value)) (ep:Nat) (t:SetTable) (c:List Addr) (i:Nat):Value->List Value->Prop
 |text (b:gN w=true):Yy w h a d ep t c i (rawInt 0) ((pickOrder (w.params.setOrder a ep) d).toList.map (·.2))
 |drawn {tp:Addr} {e:List Nat} (b:gN w=false) (f:tp∈c) (g:h.get? tp=some {cls:=.type "tuple",data:=.seq (e.map fun(i:Nat)=>rawInt (i:Int)).toArray}) (k:e.Perm (List.range d.size)):Yy w h a d ep t c i (.ref tp) (e.map fun j=>(d.getD j (0,.none)).2)
 |Fz (b:gN w=false) (z:d.size<=1):Yy w h a d ep t c i (rawInt (if i=0 then 0 else((t.place.getD 0 0+1:Nat):Int))) (d.toList.map (·.2))
section
variable{prog:Program} {w:World} {A:Around} {E:Value->Shared->Prop} {s:Shared}
structure SAt (prog:Program) (w:World) (h:Heap) (it a:Addr) (o:Obj) (es:Array (Int×Value)) (ep:Nat) (t:SetTable) (tps:List Addr) (os:List Value) (i:Nat):Prop where
 at_:h.get? a=some o
 da:o.data=.set es ep t
 fi:t.fits es.size=true
 le:t.led= !gN w
 f:∃f,p_ h it a f i es.size ep/\Yy w h a es ep t tps i f os
end
section
variable{prog:Program} {w:World} {A:Around} {E:Value->Shared->Prop} {s:Shared}
end
section
variable{prog:Program} {w:World} {A:Around} {E:Value->Shared->Prop} {s:Shared}
end
section
variable{prog:Program} {w:World} {A:Around} {E:Value->Shared->Prop} {s:Shared}
end
section
variable{X:Cx}
def jE (P:Program) (w:World) (p:Addr) (ss:List Str):HO:=.ext fun h=>SS P w h p ss
inductive jF (K:AGW) (P:Program) (w:World) (xs:List V) (H:Hp) (Q:VK):Prop
 |mk (l:Addr) (ss:List Str) (a:xs=[.ref l]) (b:An K H l (ss.map V.str)) (c:ss.Nodup) (d:ss.length<1000) (e:∀p,H p=none->Q (.ref p) (upd H p (jE P w p ss))):jF K P w xs H Q
inductive dE (P:Program) (w:World) (xs:List V) (H:Hp) (Q:VK):Prop
 |mk (d:Addr) (ss:List Str) (b:xs=[.ref d]) (c:H d=some (jE P w d ss)) (e:ss.length<64) (f:∀(p:Addr) (a:List Str) (H':Hp),H p=none->AE H H'->H' p=some (.lst (a.map V.str))->a.Perm ss->sortedS a=true->Q (.ref p) H'):dE P w xs H Q
end
open PySem.AutoSeq1 (wpAny_loadPart')
open PySem.MeetsSeq3
section
variable{prog:Program} {w:World} {A:Around} {s:Shared}
def X_ (prog:Program) (w:World) (A:Around) (s:Shared) (u v:Value) (b:Bool):Prop:=∀(E:Value->Shared->Prop) (Q:Bool->Shared->Prop),Q b s->wpAny (model prog w) A (eqBool u v) Q E s
def gO (prog:Program) (w:World) (A:Around) (s:Shared) (u v:Value) (b:Bool):Prop:=∀(E:Value->Shared->Prop) (Q:Value->Shared->Prop),Q (.bool b) s->wpAny (model prog w) A (richCompare .Eq u v) Q E s
theorem X_.of {u v:Value} {b:Bool} (h:SeqAt.EqAt A s u v b):X_ prog w A s u v b:=fun E Q a=>h prog w E Q a
theorem gO.of {u v:Value} {b:Bool} (h:SeqAt.RcAt A s u v b):gO prog w A s u v b:=fun E Q a=>h prog w E Q a
theorem X_.by {u v:Value} {b:Bool} (g:u=v->b=true) (nf:(∃i t,u=.int i t)∨(∃x t,u=.str x t)∨(∃c,u=.bool c)∨∃a,u=.ref a) (h:gO prog w A s u v b):X_ prog w A s u v b:=fun E Q f=>by
 by_cases e:u=v
 ·have:=g e
  subst e this
  exact SeqAt.EqAt.same _ prog w E Q f
 ·unfold eqBool
  refine wpAny_holding (wpAny_ite_split (fun d=>absurd (eq_of_beq d) e) (fun _=>?_))
  rcases nf with⟨i,t,rfl⟩|⟨x,t,rfl⟩|⟨c,rfl⟩|⟨a,rfl⟩<;>exact wpAny_bind (h E _ (wpAny_truthy_bool f))
theorem Wl {l b:Addr} {items a:Array Value} {n D:Nat} {E t:Option Addr} {F u:Array (Option Value)} (hsz:items.size=a.size) (hl:s.heap.get? l=some {cls:=.type "list",dict:=E,data:=.seq items n,slots:=F})
  (q:s.heap.get? b=some {cls:=.type "list",dict:=t,data:=.seq a D,slots:=u}) {e:Nat->Bool} (G:∀j (N:j<items.size) (O:j<a.size),X_ prog w A.in1 s items[j] a[j] (e j)) {R:Result->Shared->Prop} {r:Bool} (B:r=true↔∀j,j<items.size->e j=true) (C:R (.ok (.ret (.bool r))) s):
  ∀k i:Nat,items.size-i=k->i<=items.size->(∀j,j<i->e j=true)->codeAny (model prog w) A (.builtin "list.__eq__.loop" ⟨[.ref l,.ref b,rawInt i,rawInt 2],[]⟩) R s:=by
 obtain⟨P,g,d,Q,os⟩:=s
 intro k
 induction k with
 |zero=>
  intro i H I c
  have J:i=items.size:=by lia
  have v:r=true:=B.mpr fun j K=>c j (by lia)
  subst v
  refine codeAny_builtin entry_eq_loop ?_
  rw[Around.under_plainId plain_eq_loop _]
  wp_walk using wpAny_loadPart' hl,wpAny_loadPart' q
  have f:items[((i:Nat):Int).toNat]?=none:=by simp;lia
  have h:a[((i:Nat):Int).toNat]?=none:=by simp;lia
  rw[f,h]
  wp_walk using wpAny_loadPart' hl,wpAny_loadPart' q
  show R (.ok (.ret (.bool (items.size==a.size)))) _
  rw[hsz]
  simpa using C
 |succ k L=>
  intro i H I c
  refine codeAny_builtin entry_eq_loop ?_
  rw[Around.under_plainId plain_eq_loop _]
  wp_walk using wpAny_loadPart' hl,wpAny_loadPart' q
  have m:i<items.size:=by lia
  have o:i<a.size:=by lia
  have f:items[((i:Nat):Int).toNat]?=some items[i]:=by simp[m]
  have h:a[((i:Nat):Int).toNat]?=some a[i]:=by simp[o]
  have M:((i:Int)+1)=((i+1:Nat):Int):=by push_cast;rfl
  rw[f,h]
  refine wpAny_bind (G i m o _ _ ?_)
  cases p:e i with
  |true=>
   wp_walk
   rw[M]
   refine⟨plainId_quiet plain_eq_loop _,L (i+1) (by lia) m fun j K=>?_⟩
   rcases Nat.lt_or_ge j i with z|z
   ·exact c j z
   ·rw[show j=i by lia];exact p
  |false=>
   have x:r=false:=by
    cases y:r with
    |false=>rfl
    |true=>have:=B.mp y i m;rw[p]at this;cases this
   subst x
   wp_walk using wpAny_loadPart' hl,wpAny_loadPart' q
   rw[f,h]
   wp_walk
   exact C
theorem Wm {l b:Addr} {items a:Array Value} (hl:s.heap.IsList l items) (q:s.heap.IsList b a) (hsz:items.size=a.size) (t:A.units<cLine) {e:Nat->Bool}
  (u:∀j (G:j<items.size) (H:j<a.size),X_ prog w A.in1 s items[j] a[j] (e j)) {r:Bool} (v:r=true↔∀j,j<items.size->e j=true):gO prog w A s (.ref l) (.ref b) r:=fun E Q h=>by
 obtain⟨⟨y,I,data,J⟩,k,m,n,o⟩:=id hl
 obtain⟨⟨p,z,data2,B⟩,c,f,K,i⟩:=id q
 simp only at m o f i
 subst m o f i
 refine wpAny_richCompare_same_room (op:=.Eq) ⟨_,k,rfl⟩ ⟨_,c,rfl⟩ F.slot_list_eq (call_one F.slot_list_eq ⟨_,k,rfl⟩ F.entry_list_eq (F.args_list_eq_2 _ _) ?_) t
 obtain⟨L,g,d,M,os⟩:=s
 have N:=AutoSeq1.sub_list_list
 have C:¬(items.size !=a.size)=true:=by simp[hsz]
 wp_walk using wpAny_loadPart' k,wpAny_loadPart' c
 exact⟨plainId_quiet plain_eq_loop _,Wl hsz k c u v (show(Value.bool r≠Value.notImplemented)/\Q (.bool r) _ from⟨(fun x=>nomatch x),h⟩) _ 0 rfl (Nat.zero_le _) fun j D=>absurd D (Nat.not_lt_zero _)⟩
theorem Wq {Y:Type} [DecidableEq Y] {knd:PySem.KeyKind prog w Y} {a b:Addr} {t y:List (Y×Value)} (ha:(a==sysModules)=false) (hb:(b==sysModules)=false) (W:s.heap.DictOf knd a t) (Z:s.heap.DictOf knd b y) (hu:A.units<cLine) {e:Nat->Bool}
  (he:t.length=y.length->∀(j:Nat) k u,t[j]?=some (k,u)->(valueAt y k=none/\e j=false)∨∃v,valueAt y k=some v/\X_ prog w A.in1 s u v (e j)) {r:Bool} (hr:r=true↔(t.length=y.length/\∀j,j<t.length->e j=true)):gO prog w A s (.ref a) (.ref b) r:=fun E Q h=>by
 refine wpAny_richCompare_same_room (op:=.Eq) W.typeIs Z.typeIs PySem.F.slot_dict_eq (wpAny_call_entry PySem.F.slot_dict_eq W.typeIs PySem.F.entry_dict_eq ?_ (PySem.F.args_dict_eq_2 _ _)) hu
 show wpAny _ _ (Builtin.Dict.dictSlotArgs "__eq__" ⟨[.ref a,.ref b],[]⟩>>=_) _ _ s
 refine wpAny_bind ?_
 unfold Builtin.Dict.dictSlotArgs
 refine wpAny_bind (wpAny_notOrdered_dict W.typeIs ?_)
 show wpAny _ _ (pure (Value.ref a,Value.ref b)) _ _ s
 refine wpAny_pure ?_
 refine wpAny_bind (wpAny_isInstance (T:="dict") Z.typeIs PySem.F.sub_dict_dict ?_)
 simp only[Bool.not_true,Bool.false_eq_true,if_false]
 refine wpAny_bind (wpAny_pure (wpAny_bind (wpAny_pure ?_)))
 obtain⟨oa,g,ep,B,_,C,dF,P,hna⟩:=W
 obtain⟨ob,m,ep',D,_,G,R,J,hnb⟩:=Z
 have K:t.length=g.size:=by rw[<-P.length];exact Array.length_toList
 have L:y.length=m.size:=by rw[<-J.length];exact Array.length_toList
 refine wpAny_bind ?_
 unfold Builtin.Dict.samePairs Builtin.Dict.showsAll
 rw[if_neg (show¬(a==sysModules)=true by rw[ha];exact Bool.false_ne_true),if_neg (show¬(b==sysModules)=true by rw[hb];exact Bool.false_ne_true)]
 refine wpAny_bind (wpAny_pure (wpAny_bind (wpAny_pure ?_)))
 refine wpAny_bind (wpAny_dictEntries B C ?_)
 dsimp only
 refine wpAny_bind (wpAny_dictEntries D G ?_)
 have fin:∀c:Bool,c=r->∃v,Fin.done (Flow.ret (Value.bool (c==true)))=.done (.ret v)/\v≠.notImplemented/\Q v s:=fun c hc=>by
  subst hc
  refine⟨_,rfl,(fun x=>nomatch x),?_⟩
  cases c<;>exact h
 by_cases S:t.length=y.length
 ·rw[if_neg (by rw[<-K,<-L,S];simp)]
  refine wpAny_bind (wpAny_dictEpoch B C ?_)
  refine wpAny_bind ?_
  rw[Std.Legacy.Range.forIn_eq_forIn_range']
  simp only[Std.Legacy.Range.size,Nat.sub_zero,Nat.add_sub_cancel,Nat.div_one]
  refine wpAny_forIn_list _ (fun rest q s'=>s'=s/\q=(none,())/\∃i,rest=List.range' i (g.size-i)/\i<=g.size/\∀j,j<i->e j=true) _ ?_ ?_ _ _ ⟨rfl,rfl,0,by simp,Nat.zero_le _,fun j M=>absurd M (Nat.not_lt_zero _)⟩
  ·rintro x rest q s' ⟨rfl,rfl,i,f,hi,n⟩
   have o:i<g.size:=by
    rcases Nat.lt_or_ge i g.size with h|h
    ·exact h
    ·rw[Nat.sub_eq_zero_of_le h]at f;simp at f
   obtain⟨rfl,N⟩:x=i/\rest=List.range' (i+1) (g.size-(i+1)):=by
    have e:g.size-i=(g.size-(i+1))+1:=by lia
    rw[e,List.range'_succ]at f
    injection f with h1 h2
    exact⟨h1,h2⟩
   have H:x<t.length:=by rw[K];exact o
   obtain⟨k,u,hku⟩:∃k u,t[x]=(k,u):=⟨_,_,rfl⟩
   have gk:t[x]?=some (k,u):=by rw[AGS H,hku]
   have hh:=he S x k u gk
   refine wpAny_bind (wpAny_dictEntries B C ?_)
   rw[Array.getElem?_eq_getElem o]
   obtain⟨I,U⟩:=P.get? (i:=x) (e:=g[x]) (k:=k) (v:=u) (by rw[Array.getElem?_toList];exact Array.getElem?_eq_getElem o) gk
   obtain⟨k2,qA,V⟩:=dF g[x] (Array.getElem_mem o)
   have qB:k2=k:=knd.inj _ _ _ qA I
   rw[qB]at V
   show wpAny _ _ (holding [g[x].key,g[x].val] _>>=_) _ _ _
   rw[V]
   refine wpAny_bind (wpAny_holding (wpAny_bind (wpAny_dictFind_of I D G R ?_)))
   have d:findBy knd.is m k=valueAt y k:=by
    rw[<-J.find k]
    clear L J R G D
    obtain⟨l⟩:=m
    simp[findBy]
   have rf:e x=false->false=r:=fun O=>by
    cases f:r with
    |false=>rfl
    |true=>have:=(hr.mp f).2 x H;rw[O]at this;cases this
   cases M:m.findIdx? fun e=>knd.is k e.key with
   |none=>
    rw[findBy_of_findIdx?,M]at d
    have hn:valueAt y k=none:=d.symm
    rcases hh with⟨_,O⟩|⟨v,X,_⟩
    ·refine wpAny_pure ?_
     show wpAny _ _ (if(!false)=true then _ else _) _ _ _
     rw[if_pos (by decide)]
     exact wpAny_pure (wpAny_pure (wpAny_pure (fin false (rf O))))
    ·rw[hn]at X;cases X
   |some j=>
    obtain⟨p,_,_⟩:=Array.findIdx?_eq_some_iff_getElem.mp M
    rw[findBy_of_findIdx?,M]at d
    rcases hh with⟨hn,_⟩|⟨v,X,hq⟩
    ·rw[hn]at d
     simp[Array.getElem?_eq_getElem p]at d
    have qC:m[j].val=v:=by
     rw[X]at d
     simpa[Array.getElem?_eq_getElem p]using d
    refine wpAny_bind (wpAny_dictEntries D G ?_)
    rw[Array.getElem?_eq_getElem p]
    refine wpAny_holding ?_
    rw[qC,U]
    refine hq _ _ ?_
    cases O:e x with
    |true=>
     show wpAny _ _ (if(!true)=true then _ else _) _ _ _
     rw[if_neg (by decide)]
     refine wpAny_bind (wpAny_dictEpoch B C ?_)
     rw[if_neg (by simp)]
     refine wpAny_pure ⟨rfl,rfl,x+1,N,o,fun j M=>?_⟩
     rcases Nat.lt_or_ge j x with z|z
     ·exact n j z
     ·rw[show j=x by lia];exact O
    |false=>
     show wpAny _ _ (if(!false)=true then _ else _) _ _ _
     rw[if_pos (by decide)]
     exact wpAny_pure (wpAny_pure (wpAny_pure (fin false (rf O))))
  ·rintro q s' ⟨rfl,rfl,i,f,hi,n⟩
   have hie:i=g.size:=by
    rcases Nat.lt_or_ge i g.size with h|h
    ·have e:g.size-i=(g.size-(i+1))+1:=by lia
     rw[e,List.range'_succ]at f;cases f
    ·lia
   exact wpAny_pure (wpAny_pure (fin true (hr.mpr ⟨S,fun j M=>n j (by lia)⟩).symm))
 ·rw[if_pos (by rw[<-K,<-L];simpa using S)]
  have hrf:false=r:=by
   cases f:r with
   |false=>rfl
   |true=>exact absurd (hr.mp f).1 S
  exact wpAny_bind (wpAny_rule (wpAny_pure (wpAny_pure (fin false hrf))))
end
namespace Pt
theorem UT {y k:Str} {r:List Str} {z:Pt} {zs:List Pt}:look (y::r) (z::zs) k=if k=y then some z else look r zs k:=CJ
theorem G' {ls:List Str} {ys:List Pt}:∀{ks:List Str} {xs:List Pt},UL ks xs ls ys=true↔∀(j:Nat) k x,ks[j]?=some k->xs[j]?=some x->∃y,look ls ys k=some y/\CZ x y=true
 |[],xs=>by simp[UL]
 |_::_,[]=>by simp[UL]
 |k::ks,x::xs=>by
  simp only[UL,Bool.and_eq_true,G' (ks:=ks) (xs:=xs)]
  constructor
  ·intro⟨a,d⟩ j e f b c
   cases j with
   |zero=>
    simp at b c
    subst b c
    cases g:look ls ys k with
    |none=>rw[g]at a;cases a
    |some y=>rw[g]at a;exact⟨y,rfl,a⟩
   |succ j=>exact d j e f (by simpa using b) (by simpa using c)
  ·intro h
   refine⟨?_,fun j e f b c=>h (j+1) e f (by simpa using b) (by simpa using c)⟩
   obtain⟨y,a,d⟩:=h 0 k x rfl rfl
   rw[a]
   exact d
theorem SU:∀{ks:List Str} {xs:List Pt} {j:Nat} {k:Str} {x:Pt},ks.Nodup->ks[j]?=some k->xs[j]?=some x->look ks xs k=some x
 |[],_,_,_,_,_,h,_=>by simp at h
 |_::_,[],_,_,_,_,_,h=>by simp at h
 |y::ks,z::zs,j,k,x,nd,b,c=>by
  obtain⟨d,f⟩:=List.nodup_cons.mp nd
  rw[UT]
  cases j with
  |zero=>simp at b c;rw[if_pos b.symm,c]
  |succ j=>
   have a:ks[j]?=some k:=by simpa using b
   rw[if_neg (fun e=>d (by rw[<-e];exact AGV a))]
   exact SU f a (by simpa using c)
mutual
def bA:Pt->Prop
 |int _|str _|bl _|Av=>True
 |lst xs|tup xs=>Qy xs
 |BX ks xs=>ks.Nodup/\Qy xs
def Qy:List Pt->Prop
 |[]=>True
 |x::r=>bA x/\Qy r
end
mutual
theorem Wr:∀t:Pt,t.nice->t.bA
 |int _,_=>trivial
 |str _,_=>trivial
 |bl _,_=>trivial
 |Av,_=>trivial
 |lst xs,d=>by simp only[nice]at d;exact JM xs d.2
 |tup xs,d=>by simp only[nice]at d;exact JM xs d.2
 |BX ks xs,d=>by simp only[nice]at d;exact⟨d.2.1,JM xs d.2.2.2⟩
theorem JM:∀xs:List Pt,CG xs->Qy xs
 |[],_=>trivial
 |x::r,d=>by simp only[CG]at d;exact⟨Wr x d.1,JM r d.2⟩
end
mutual
theorem bB:∀t:Pt,t.doc->t.bA
 |int _,_=>trivial
 |str _,_=>trivial
 |bl _,_=>trivial
 |Av,_=>trivial
 |tup _,d=>by simp[doc]at d
 |lst xs,d=>by simp only[doc]at d;exact Qz xs d
 |BX ks xs,d=>by simp only[doc]at d;exact⟨d.2.1,Qz xs d.2.2.2.2⟩
theorem Qz:∀xs:List Pt,ER xs->Qy xs
 |[],_=>trivial
 |x::r,d=>by simp only[ER]at d;exact⟨bB x d.1,Qz r d.2⟩
end
mutual
theorem KR:∀t:Pt,t.bA->CZ t t=true
 |int _,_=>by simp[CZ]
 |str _,_=>by simp[CZ]
 |bl _,_=>by simp[CZ]
 |Av,_=>by simp[CZ]
 |lst xs,d=>by simp only[bA]at d;simp only[CZ];exact Fs xs d
 |tup xs,d=>by simp only[bA]at d;simp only[CZ];exact Fs xs d
 |BX ks xs,d=>by
  simp only[bA]at d
  simp only[CZ,beq_self_eq_true,Bool.true_and]
  refine G'.mpr fun j k x b a=>⟨x,SU d.1 b a,?_⟩
  have:=Fs xs d.2
  exact SV xs this j x a
theorem Fs:∀xs:List Pt,Qy xs->FV xs xs=true
 |[],_=>by simp[FV]
 |x::r,d=>by simp only[Qy]at d;simp only[FV,Bool.and_eq_true];exact⟨KR x d.1,Fs r d.2⟩
theorem SV:∀xs:List Pt,FV xs xs=true->∀(j:Nat) x,xs[j]?=some x->CZ x x=true
 |[],_,j,x,h=>by simp at h
 |y::r,h,0,x,a=>by
  simp only[FV,Bool.and_eq_true]at h
  simp at a
  subst a
  exact h.1
 |y::r,h,j+1,x,a=>by
  simp only[FV,Bool.and_eq_true]at h
  exact SV r h.2 j x (by simpa using a)
end
end Pt
section
variable{K:AGW} [BY K]
theorem Rd.one {H:Hp} {a:Addr} {u v:HO} (h:Rd H a u) (h':Rd H a v) (b:∀o z,u≠.Cg o z) (c:∀o z,v≠.Cg o z):u=v:=by
 rcases h with h|⟨o,h⟩<;>rcases h' with h'|⟨d,h'⟩<;>rw[h]at h'
 ·exact AGU h'
 ·exact absurd (AGU h') (b _ _)
 ·exact absurd (AGU h').symm (c _ _)
 ·have:=AGU h'
  injection this
theorem SW:∀{ks ls:List Str},ks.map (Sum.inr:Str->Key)=ls.map Sum.inr->ks=ls
 |[],[],_=>rfl
 |[],_::_,h=>by simp at h
 |_::_,[],h=>by simp at h
 |k::ks,l::ls,h=>by
  simp only[List.map_cons,List.cons.injEq]at h
  rw[Sum.inr.inj h.1,SW h.2]
mutual
theorem Val.one {H:Hp}:∀(s:Pt) {v:V} {t:Pt},Val H v s->Val H v t->s.doc->t.doc->s=t
 | .int i,_,t,.int _,h,_,d=>by cases h;rfl
 | .str x,_,t,.str _,h,_,d=>by cases h;rfl
 | .bl _,_,_,_,_,d,_=>by simp[Pt.doc]at d
 | .Av,_,_,_,_,d,_=>by simp[Pt.doc]at d
 | .tup _,_,_,_,_,d,_=>by simp[Pt.doc]at d
 | .lst ts,_,t,.lst b c,h,d,d'=>by
  cases h with
  |lst a f=>
   have e:=Rd.one b a (fun o z e=>by cases e) (fun o z e=>by cases e)
   cases e
   simp only[Pt.doc]at d d'
   rw[Aj.one ts c f d d']
  |tup _ _=>simp[Pt.doc]at d'
  |BX a _ _=>
   have e:=Rd.one b a (fun o z e=>by cases e) (fun o z e=>by cases e)
   cases e
 | .BX k ts,_,t,.BX b j c,h,d,d'=>by
  cases h with
  |BX a g f=>
   have e:=Rd.one b a (fun o z e=>by cases e) (fun o z e=>by cases e)
   cases e
   simp only[Pt.doc]at d d'
   rw[Aj.one ts c f d.2.2.2.2 d'.2.2.2.2]
   congr 1
   rw[j]at g
   exact SW g
  |tup _ _=>simp[Pt.doc]at d'
  |lst a _=>
   have e:=Rd.one b a (fun o z e=>by cases e) (fun o z e=>by cases e)
   cases e
theorem Aj.one {H:Hp}:∀(ss:List Pt) {vs:List V} {ts:List Pt},Aj H vs ss->Aj H vs ts->Pt.ER ss->Pt.ER ts->ss=ts
 |[],_,_,.nil,h,_,_=>by cases h;rfl
 |s::ss,_,_,.cons h r,h',d,d'=>by
  cases h' with
  |cons g q=>
   simp only[Pt.ER]at d d'
   rw[Val.one s h g d.1 d'.1,Aj.one ss r q d.2 d'.2]
end
def mS (s t:Pt):Prop:=(s.doc/\t.doc)∨Pt.CZ s t=true
def Lx (ls:List Str) (ts:List Pt) (k:Str) (x:Pt):Bool:=match Pt.look ls ts k with
 |some y=>Pt.CZ x y
 |none=>false
theorem GS {ls:List Str} {ts:List Pt} {k:Str} {x y:Pt} (h:Pt.look ls ts k=some y):Lx ls ts k x=Pt.CZ x y:=by unfold Lx;rw[h]
theorem KS {ls:List Str} {ts:List Pt} {k:Str} {x:Pt} (h:Pt.look ls ts k=none):Lx ls ts k x=false:=by unfold Lx;rw[h]
def dH (ks:List Str) (a:List Pt) (ls:List Str) (ts:List Pt) (j:Nat):Bool:=match ks[j]?,a[j]? with
 |some k,some x=>Lx ls ts k x
 |_,_=>false
theorem NA {ks ls:List Str} {a ts:List Pt} {j:Nat} {k:Str} {x:Pt} (b:ks[j]?=some k) (c:a[j]?=some x):dH ks a ls ts j=Lx ls ts k x:=by unfold dH;rw[b,c]
theorem IF {xs ys:List Pt} (l:xs.length=ys.length):Pt.FV xs ys=true↔∀j,j<xs.length->pairE xs ys j=true:=by
 rw[<-Jw l,List.all_eq_true]
 exact⟨fun h j a=>h j (List.mem_range.mpr a),fun h j a=>h j (List.mem_range.mp a)⟩
end
section
variable{X:Cx} [BY X.K] {pins:List (Addr×Obj)} {σ:St} {H:Hp} {s:Shared}
theorem Yz {x:V} {t:Pt} {u:Value} (h:Val H x t) (d:t≠.Av) (r:RelV x u):(∃i t,u=.int i t)∨(∃x t,u=.str x t)∨(∃c,u=.bool c)∨∃a,u=.ref a:=by
 cases h with
 |int i=>exact .inl ⟨i,r⟩
 |str x=>exact .inr (.inl ⟨x,r⟩)
 |bl b=>exact .inr (.inr (.inl ⟨b,r⟩))
 |Av=>exact absurd rfl d
 |@lst a _ _ _ _=>exact .inr (.inr (.inr ⟨a,r⟩))
 |@tup a _ _ _ _=>exact .inr (.inr (.inr ⟨a,r⟩))
 |@BX a _ _ _ _ _ _=>exact .inr (.inr (.inr ⟨a,r⟩))
theorem ze (I:Inv X pins σ H s) {p t:Pt} (ih:∀p':Pt,p'.deep<p.deep->∀t',mS p' t'->∀{x y:V},Val H x p'->Val H y t'->∀{A:Around} {u v:Value},A.units+p'.deep<cLine->RelV x u->RelV y v->X_ X.prog X.w A s u v (Pt.CZ p' t')) (nb:∀b,p≠.bl b) (c:mS p t) {x y:V} (hx:Val H x p) (hy:Val H y t) {A:Around} {u v:Value} (hu:A.units+p.deep<cLine) (ru:RelV x u) (m:RelV y v):gO X.prog X.w A s u v (Pt.CZ p t):=by
 have f:A.units<cLine:=by lia
 cases hx with
 |int i=>
  obtain⟨q,rfl⟩:∃t,u=Value.int i t:=ru
  cases hy with
  |int j=>obtain⟨o,rfl⟩:∃t,v=Value.int j t:=m;simp only[Pt.CZ];exact .of (SeqAt.RcAt.int_int i q j o)
  |str z=>obtain⟨o,rfl⟩:∃t,v=Value.str z t:=m;simp only[Pt.CZ];exact .of (SeqAt.RcAt.int_str i q z o)
  |bl b=>rcases c with⟨_,d⟩|c;(·simp[Pt.doc]at d);simp[Pt.CZ]at c
  |Av=>rcases c with⟨_,d⟩|c;(·simp[Pt.doc]at d);simp[Pt.CZ]at c
  |tup _ _=>rcases c with⟨_,d⟩|c;(·simp[Pt.doc]at d);simp[Pt.CZ]at c
  |@lst b O r B D=>
   cases(show v=Value.ref b from m)
   obtain⟨E,S,P,_⟩:=I.list (.inl B)
   simp only[Pt.CZ]
   exact .of (SeqAt.RcAt.int_list i q P.isList f)
  |@BX b kvs Q r B T D=>
   cases(show v=Value.ref b from m)
   obtain⟨_,dd,es,n,sl,J,_⟩:=Hz I B
   simp only[Pt.CZ]
   exact .of (Od i q J f)
 |str x0=>
  obtain⟨q,rfl⟩:∃t,u=Value.str x0 t:=ru
  cases hy with
  |int j=>obtain⟨o,rfl⟩:∃t,v=Value.int j t:=m;simp only[Pt.CZ];exact .of (SeqAt.RcAt.str_int x0 q j o)
  |str z=>obtain⟨o,rfl⟩:∃t,v=Value.str z t:=m;simp only[Pt.CZ];exact .of (SeqAt.RcAt.str_str x0 q z o)
  |bl b=>rcases c with⟨_,d⟩|c;(·simp[Pt.doc]at d);simp[Pt.CZ]at c
  |Av=>rcases c with⟨_,d⟩|c;(·simp[Pt.doc]at d);simp[Pt.CZ]at c
  |tup _ _=>rcases c with⟨_,d⟩|c;(·simp[Pt.doc]at d);simp[Pt.CZ]at c
  |@lst b O r B D=>
   cases(show v=Value.ref b from m)
   obtain⟨E,S,P,_⟩:=I.list (.inl B)
   simp only[Pt.CZ]
   exact .of (SeqAt.RcAt.str_list x0 q P.isList f)
  |@BX b kvs Q r B T D=>
   cases(show v=Value.ref b from m)
   obtain⟨_,dd,es,n,sl,J,_⟩:=Hz I B
   simp only[Pt.CZ]
   exact .of (Of x0 q J f)
 |bl b=>exact absurd rfl (nb b)
 |Av=>
  cases(show u=Value.none from ru)
  have c:Pt.CZ .Av t=true:=by
   rcases c with⟨d,_⟩|c
   ·simp[Pt.doc]at d
   ·exact c
  cases hy with
  |Av=>cases(show v=Value.none from m);simp only[Pt.CZ];exact .of SeqAt.RcAt.none_none
  |_=>simp[Pt.CZ]at c
 |@lst a vs0 C U W=>
  cases(show u=Value.ref a from ru)
  obtain⟨qD,r0,p0,_⟩:=I.list (.inl U)
  have e0:qD.toArray.size=C.length:=by rw[List.size_toArray,<-r0.length,W.length]
  simp only[Pt.deep]at hu
  cases hy with
  |int j=>obtain⟨o,rfl⟩:∃t,v=Value.int j t:=m;simp only[Pt.CZ];exact .of (SeqAt.RcAt.list_int j o p0.isList f)
  |str z=>obtain⟨o,rfl⟩:∃t,v=Value.str z t:=m;simp only[Pt.CZ];exact .of (SeqAt.RcAt.list_str z o p0.isList f)
  |bl b=>rcases c with⟨_,d⟩|c;(·simp[Pt.doc]at d);simp[Pt.CZ]at c
  |Av=>rcases c with⟨_,d⟩|c;(·simp[Pt.doc]at d);simp[Pt.CZ]at c
  |tup _ _=>rcases c with⟨_,d⟩|c;(·simp[Pt.doc]at d);simp[Pt.CZ]at c
  |@BX b kvs Q r B T D=>
   cases(show v=Value.ref b from m)
   obtain⟨_,dd,es,n,sl,J,_⟩:=Hz I B
   simp only[Pt.CZ]
   exact .of (Mo p0.isList J f)
  |@lst b O r B D=>
   cases(show v=Value.ref b from m)
   obtain⟨E,S,P,_⟩:=I.list (.inl B)
   have e1:E.toArray.size=r.length:=by rw[List.size_toArray,<-S.length,D.length]
   simp only[Pt.CZ]
   by_cases l:C.length=r.length
   ·refine Wm p0.isList P.isList (by rw[e0,e1,l]) f (e:=pairE C r) (fun j G h2=>?_) (by rw[e0];exact IF l)
    obtain⟨v1,q,g1,L,M,F⟩:=W.at r0 G
    obtain⟨v2,o,g3,g4,N,qE⟩:=D.at S h2
    have e:pairE C r j=Pt.CZ q o:=by simp[pairE,L,g4]
    rw[e]
    have dl:=Pt.BI (AGV L)
    refine ih q (by simp only[Pt.deep];lia) o ?_ M N (by show A.units+1+_<cLine;lia) F qE
    rcases c with⟨d,d'⟩|c
    ·simp only[Pt.doc]at d d'
     exact .inl ⟨Pt.DV d _ (AGV L),Pt.DV d' _ (AGV g4)⟩
    ·simp only[Pt.CZ]at c
     exact .inr (by rw[<-e];exact(IF l).mp c j (by rw[<-e0];exact G))
   ·rw[Gv l]
    exact .of (SeqAt.RcAt.lists_lengths p0.isList P.isList (by rw[e0,e1];simpa using l) f)
 |@tup a vs0 C U W=>
  cases(show u=Value.ref a from ru)
  have Y:Pt.CZ (.tup C) t=true:=by
   rcases c with⟨d,_⟩|c
   ·simp[Pt.doc]at d
   ·exact c
  simp only[Pt.deep]at hu
  cases hy with
  |@tup b O r B D=>
   cases(show v=Value.ref b from m)
   simp only[Pt.CZ]at Y⊢
   have l:C.length=r.length:=by
    rcases Nat.lt_trichotomy C.length r.length with z|z|z
    ·rw[Gv (by lia)]at Y;cases Y
    ·exact z
    ·rw[Gv (by lia)]at Y;cases Y
   obtain⟨E,S,P,_⟩:=I.tuple U
   obtain⟨qF,r2,p2,_⟩:=I.tuple B
   have e1:E.toArray.size=C.length:=by rw[List.size_toArray,<-S.length,W.length]
   have e2:qF.toArray.size=r.length:=by rw[List.size_toArray,<-r2.length,D.length]
   rw[Y]
   refine UK P p2 (by rw[e1,e2,l]) f fun j G h2=>?_
   obtain⟨v1,q,g1,L,M,F⟩:=W.at S G
   obtain⟨v2,o,g3,g4,N,qE⟩:=D.at r2 h2
   have e:pairE C r j=Pt.CZ q o:=by simp[pairE,L,g4]
   have et:Pt.CZ q o=true:=by rw[<-e];exact(IF l).mp Y j (by rw[<-e1];exact G)
   have dl:=Pt.BI (AGV L)
   have:=ih q (by simp only[Pt.deep];lia) o (.inr et) M N (A:=A.in1) (by show A.units+1+_<cLine;lia) F qE
   rw[et]at this
   exact this
  |_=>simp[Pt.CZ]at Y
 |@BX a kvs Q C U dF W=>
  cases(show u=Value.ref a from ru)
  simp only[Pt.deep]at hu
  cases hy with
  |int j=>obtain⟨o,rfl⟩:∃t,v=Value.int j t:=m;obtain⟨_,dd,es,n,sl,J,_⟩:=Hz I U;simp only[Pt.CZ];exact .of (Oe j o J f)
  |str z=>obtain⟨o,rfl⟩:∃t,v=Value.str z t:=m;obtain⟨_,dd,es,n,sl,J,_⟩:=Hz I U;simp only[Pt.CZ];exact .of (Og z o J f)
  |bl b=>rcases c with⟨_,d⟩|c;(·simp[Pt.doc]at d);simp[Pt.CZ]at c
  |Av=>rcases c with⟨_,d⟩|c;(·simp[Pt.doc]at d);simp[Pt.CZ]at c
  |tup _ _=>rcases c with⟨_,d⟩|c;(·simp[Pt.doc]at d);simp[Pt.CZ]at c
  |@lst b O r B D=>
   cases(show v=Value.ref b from m)
   obtain⟨_,dd,es,n,sl,J,_⟩:=Hz I U
   obtain⟨E,S,P,_⟩:=I.list (.inl B)
   simp only[Pt.CZ]
   exact .of (Mp P.isList J f)
  |@BX b kws ls r B zf D=>
   cases(show v=Value.ref b from m)
   obtain⟨z,hm,O,rel,dd⟩:=Ea I.Be U
   obtain⟨z',hm',qG,Z,dd'⟩:=Ea I.Be B
   have k1:O.map (·.1)=Q.map Sum.inr:=by rw[<-dF];exact(KV.keys rel).symm
   have l1:O.length=Q.length:=by have:=congrArg List.length k1;simpa using this
   have l2:qG.length=ls.length:=by
    rw[<-Z.length]
    have:=congrArg List.length zf
    simpa using this
   have lp:Q.length=C.length:=by
    have G:=W.length
    rw[List.length_map]at G
    have h2:=congrArg List.length dF
    simp at h2
    lia
   refine Wq hm hm' dd dd' f (e:=dH Q C ls r) (fun ll j k u g=>?_) ?_
   ·have hj:j<O.length:=(AGT g).1
    have gv:(O.map (·.2))[j]?=some u:=by rw[List.getElem?_map,g];rfl
    have G:j<(O.map (·.2)).toArray.size:=by rw[List.size_toArray];exact(AGT gv).1
    obtain⟨v1,q,g1,L,M,F⟩:=W.at (Yp rel) G
    rw[WS gv G]at F
    obtain⟨nm,Y_⟩:∃nm,Q[j]?=some nm:=⟨_,AGS (by lia)⟩
    have ek:k=Sum.inr nm:=by
     have:=congrArg (fun z=>z[j]?) k1
     simp only[List.getElem?_map,g,Y_]at this
     simpa using this
    subst ek
    rw[NA Y_ L]
    have m:=Z.val (Sum.inr nm)
    rcases Val.Ex zf D nm with⟨w1,o,q1,q2,N⟩|⟨q1,q2⟩
    ·rw[q1]at m
     rw[GS q2]
     cases R:valueAt qG (Sum.inr nm)with
     |none=>rw[R]at m;exact m.elim
     |some u2=>
      rw[R]at m
      have dl:=Pt.BI (AGV L)
      refine .inr ⟨u2,rfl,ih q (by simp only[Pt.deep];lia) o ?_ M N (by show A.units+1+_<cLine;lia) F m⟩
      rcases c with⟨d,d'⟩|c
      ·simp only[Pt.doc]at d d'
       exact .inl ⟨Pt.DV d.2.2.2.2 _ (AGV L),Pt.DV d'.2.2.2.2 _ (Pt.WW q2).2⟩
      ·simp only[Pt.CZ,Bool.and_eq_true]at c
       obtain⟨y,y1,y2⟩:=Pt.G'.mp c.2 j nm q Y_ L
       rw[q2]at y1
       cases y1
       exact .inr y2
    ·rw[q1]at m
     rw[KS q2]
     cases R:valueAt qG (Sum.inr nm)with
     |some u2=>rw[R]at m;exact m.elim
     |none=>exact .inl ⟨rfl,rfl⟩
   ·simp only[Pt.CZ,Bool.and_eq_true,beq_iff_eq,Pt.G']
    rw[l1,l2]
    refine and_congr_right fun ll=>⟨fun h j hj=>?_,fun h j k x T hx=>?_⟩
    ·obtain⟨k,T⟩:∃k,Q[j]?=some k:=⟨_,AGS hj⟩
     obtain⟨x,hx⟩:∃x,C[j]?=some x:=⟨_,AGS (by lia)⟩
     obtain⟨y,G,h2⟩:=h j k x T hx
     rw[NA T hx,GS G]
     exact h2
    ·have:=h j (AGT T).1
     rw[NA T hx]at this
     cases hl:Pt.look ls r k with
     |none=>rw[KS hl]at this;cases this
     |some y=>rw[GS hl]at this;exact⟨y,rfl,this⟩
theorem bC (I:Inv X pins σ H s):∀(n:Nat) (p:Pt),p.deep<=n->∀t,mS p t->∀{x y:V},Val H x p->Val H y t->∀{A:Around} {u v:Value},A.units+p.deep<cLine->RelV x u->RelV y v->X_ X.prog X.w A s u v (Pt.CZ p t)
 |0,p,h=>by have:=Pt.FW p;lia
 |n+1,p,h=>fun t c x y a g A u v m f i=>by
  by_cases k:∃b,p=.bl b
  ·obtain⟨b,rfl⟩:=k
   rcases c with⟨d,_⟩|c
   ·simp[Pt.doc]at d
   ·cases t with
    |bl o=>
     have e:b=o:=by simpa[Pt.CZ]using c
     subst e
     cases a
     cases g
     cases(show u=Value.bool b from f)
     cases(show v=Value.bool b from i)
     rw[c]
     exact .of (SeqAt.EqAt.same _)
    |_=>simp[Pt.CZ]at c
  ·by_cases l:p=.Av
   ·subst l
    rcases c with⟨d,_⟩|c
    ·simp[Pt.doc]at d
    ·cases t with
     |Av=>
      cases a
      cases g
      cases(show u=Value.none from f)
      cases(show v=Value.none from i)
      rw[c]
      exact .of (SeqAt.EqAt.same _)
     |_=>simp[Pt.CZ]at c
   refine X_.by (fun e=>?_) (Yz a l f) (ze I (fun q B=>bC I n q (by lia)) (fun b z=>k ⟨b,z⟩) c a g m f i)
   rcases c with⟨d,r⟩|c
   ·subst e
    have j:x=y:=f.inj i
    subst j
    have:=Val.one p a g d r
    subst this
    exact Pt.KR p (Pt.bB p d)
   ·exact c
end
inductive dI {K:AGW} [BY K] (x y:V) (H:Hp) (Q:VK):Prop
 |mk (p t:Pt) (a:Val H x p) (e:Val H y t) (f:∀b,p≠.bl b) (c:mS p t) (d:p.deep<=60) (q:Q (.bl (Pt.CZ p t)) H):dI x y H Q
section
variable{X:Cx}
theorem dJ (j:X.A.units+64<cLine):EL X (compareOp .Eq) (@dI X.K ⟨trivial⟩):=by
 haveI:BY X.K:=⟨trivial⟩
 intro pins s k H x y v u Q I a b h
 obtain⟨p,t,e,f,g,c,d,q⟩:=h
 exact ze I (fun i _=>bC I _ i (Nat.le_refl _)) g c e f (A:=X.A) (by lia) a b _ _ ⟨.bl _,H,I,rfl,q⟩
end
open PySem.AutoSeq1 (wpAny_loadPart')
open PySem.MeetsSeq3
section
variable{prog:Program} {w:World} {A:Around} {s:Shared}
end
inductive qH {K:AGW} [BY K] (x y:V) (H:Hp) (Q:VK):Prop
 |mk (a ts:List Pt) (b:Val H x (.tup a)) (e:Val H y (.tup ts)) (c:Pt.CZ (.tup a) (.tup ts)=true) (d:(Pt.tup a).deep<=60) (q:Q (.bl false) H):qH x y H Q
section
variable{X:Cx}
inductive dM (K:AGW) (x y:V) (H:Hp) (Q:VK):Prop
 |nil (a b:Addr) (c:Str) (rest:List V) (e:x=.ref a) (f:y=.ref b) (g:Bf K H a (.str c::rest)) (h:Bf K H b []) (q:Q (.bl false) H):dM K x y H Q
 |other (a b:Addr) (c d:Str) (rest:List V) (e:x=.ref a) (f:y=.ref b) (g:Bf K H a (.str c::rest)) (h:Bf K H b [.str d]) (ne:c≠d) (q:Q (.bl false) H):dM K x y H Q
 |same (a b:Addr) (c:Str) (e:x=.ref a) (f:y=.ref b) (g:Bf K H a [.str c]) (h:Bf K H b [.str c]) (q:Q (.bl true) H):dM K x y H Q
end
namespace Ak
end Ak
namespace Ak
mutual
inductive O_:Ak->Ak->Prop
 |any:O_ .any .any
 |As (d:Pt):O_ (.As d) (.As d)
 |ACN {c:List Pt} {a:List Ak} (h:KU (c.map As) a):O_ (.As (.lst c)) (.row a false)
 |ACO {ks b ls:List Str} {c f:List Pt} {a:List Ak} (g:b.Perm ks) (e:b.map (lk ks c)=f.map some) (h:KU (f.map As) a) (k:b.length<60) (i:ls.length<=100) (j:∀l∈ls,l∉b):O_ (.As (.BX ks c)) (.tab b a ls false)
 |row {xs a:List Ak} {m:Bool} (h:KU xs a):O_ (.row xs m) (.row a m)
 |tab {ks b ls zs:List Str} {xs as a:List Ak} {m:Bool} (g:b.Perm ks) (e:b.map (lk ks xs)=as.map some) (h:KU as a) (i:zs.length<=100) (j:∀l∈zs,l∉b) (hl:m=true->zs=ls):O_ (.tab ks xs ls m) (.tab b a zs m)
inductive KU:List Ak->List Ak->Prop
 |nil:KU [] []
 |cons {x y:Ak} {xs ys:List Ak} (h:O_ x y) (r:KU xs ys):KU (x::xs) (y::ys)
end
def Pw (a b:List Ak):Prop:=a.length=b.length/\∀(j:Nat) c g,a[j]?=some c->b[j]?=some g->Pt.CZ c.pt g.pt=true
end Ak
variable{K:AGW} [BY K]
end L2
namespace L2
open PySem PySem.Spec PyProof.Rows
def zg (H H':Hp):Hp:=fun b=>match H b with
 |some _=>H' b
 |none=>match H' b with
  |some (.Cg _ u)=>some u
  |x=>x
def KF (K:AGW) (H:Hp):Prop:=∀b o,K.lookup b=some o->H b=none
section
variable{X:Cx} {pins zh:List (Addr×Obj)} {σ σ':St} {H H':Hp} {s s':Shared}
end
section
variable{K:AGW} [BY K]
end
namespace Pt
mutual
def jG:Pt->Nat
 |int _|str _|bl _|Av=>0
 |lst xs=>1+SX xs
 |tup xs=>SX xs
 |BX _ xs=>SX xs
def SX:List Pt->Nat
 |[]=>0
 |x::r=>jG x+SX r
end
mutual
def dN:Pt->Nat
 |int _|str _|bl _|Av=>0
 |lst xs|tup xs=>1+dO xs
 |BX _ xs=>1+dO xs
def dO:List Pt->Nat
 |[]=>0
 |x::r=>max (dN x) (dO r)
end
end Pt
def zi:Key:=Sum.inr "zzzzzzzz"
structure Wd (kvs dP:List (Key×V)):Prop where
 at_:∀(i:Nat) k v,dP[i]?=some (k,v)->kvs[i]?=some (k,v)∨v=.int 77
 keys:dP.map (·.1)=kvs.map (·.1)∨(zi∉kvs.map (·.1)/\dP.map (·.1)=kvs.map (·.1)++[zi])
inductive Wo (c:Nat):HO->HO->Prop
 |lst (xs:List V) (k:Nat) (b:k<=c):Wo c (.lst xs) (.lst (xs++List.replicate k (.int 77)))
 |tup (xs:List V):Wo c (.tup xs) (.tup xs)
 |BX (kvs a:List (Key×V)) (h:Wd kvs a):Wo c (.dK kvs) (.dK a)
def Plain:HO->Prop
 | .lst _| .tup _| .dK _=>True
 |_=>False
section
variable{K:AGW} [BY K]
def Wn (G:Hp) (d c:Nat) (H:Hp):Prop:=∀b u t,Plain u->Rd G b u->Val G (.ref b) t->t.dN<=d->∃a,H b=some a/\Wo c u a
def FrR (G:Hp) (d:Nat) (H H':Hp):Prop:=∀b o,H b=some o->H' b=some o∨∃u t,Plain u/\Rd G b u/\Val G (.ref b) t/\t.dN<=d
def Wt (ts us:List Pt):Prop:=∀(i:Nat) u,us[i]?=some u->ts[i]?=some u∨u=.int 77
theorem KW:∀{kvs:List (Key×V)} {i:Nat} {k:Key} {v:V},(kvs.map (·.1)).Nodup->kvs[i]?=some (k,v)->BM kvs k=some v
 |[],i,k,v,_,h=>by simp at h
 |p::r,0,k,v,nd,h=>by
  simp at h
  subst h
  exact Bl rfl
 |p::r,i+1,k,v,nd,h=>by
  simp only[List.getElem?_cons_succ]at h
  simp only[List.map_cons,List.nodup_cons]at nd
  have a:k∈r.map (·.1):=List.mem_map.mpr ⟨_,AGV h,rfl⟩
  rw[Bm (fun e=>nd.1 (e▸a))]
  exact KW nd.2 h
inductive Y' {K:AGW} [BY K] (n:Nat) (vs:List V) (H:Hp) (Q:VK) (a:XK):Prop
 |mk (G:Hp) (v:V) (t:Pt) (c:Nat) (b:vs=[v]) (d:KF K G) (e:Val G v t) (f:t.bA) (g:t.dN<n) (h:t.size+c<=100000) (i:Wn G t.dN c H) (j:∀(H':Hp),Wn G t.dN (c+t.jG) H'->FrR G t.dN H H'->Q .Av H'):Y' n vs H Q a
end
def zj (K:AGW) (a:Addr) (n:Nat):It:=
 ⟨fun i H=>∃b x,An K H a b/\b.length=n/\i<n/\b[n-1-i]?=some x,fun i H x c=>c=H/\∀b,An K H a b->b[n-1-i]?=some x,fun i H=>(∃b,An K H a b)/\i=n⟩
theorem Ws {P:Program} {w:World} {K:AGW} {tg:Expr} (a it:Addr) (n:Nat):Turn P w K tg (zj K a n) [it] it (fun i h=>i<=n/\h.IsRevIter it a ((n:Int)-1-(i:Int)))where
 mem:=by simp
 obj:=fun i h st b hb=>by
  have e:b=it:=by simpa using hb
  subst e
  obtain⟨_,o,e,c,d⟩:=st
  exact⟨o,e,fun v z=>by rw[d]at z;cases z⟩
 keep:=fun i h h' st k=>⟨st.1,st.2.at fun o e=>k it (by simp) o e⟩
 item:=by
  intro X hP hw hK hc i pins s σ H E I hf st hg
  subst hP hw hK
  obtain⟨xs,x,hq,hn,hi,hx⟩:=hg
  obtain⟨its,rv,p,hz⟩:=I.list hq
  obtain⟨u,hu,ru⟩:=rv.get hx
  obtain⟨f0,f1,f2,f3,f4,f5⟩:=hf it (by simp)
  have ei:(n:Int)-1-(i:Int)=((n-1-i:Nat):Int):=by lia
  have bD:=st.2
  rw[ei]at bD
  refine wpAny_pyNext_rev_item bD p.isList (x:=u) (by simpa using hu) fun h' NY sb=>?_
  have I1:Inv X pins σ H {s with heap:=h'}:=I.turned (t':=s.toks) (fun b o hb e=>(sb.2 b hb).trans e) f0 f1 f3 f4 f5
  obtain⟨o,e,c,d⟩:=id NY
  have e2:((n-1-i:Nat):Int)-1=(n:Int)-1-((i+1:Nat):Int):=by lia
  rw[e2]at NY
  exact⟨u,rfl,LQ (s:={s with heap:=h'}) e c d (by decide) ⟨x,H,I1,ru,⟨rfl,fun ys hy=>by rw[I.Ni hy hq];exact hx⟩,⟨by lia,NY⟩,fun b hb=>(hf b hb).1⟩⟩
 done:=by
  intro X hP hw hK hc i pins s σ H E I hf st hg
  subst hP hw hK
  obtain⟨_,rfl⟩:=hg
  obtain⟨f0,f1,f2,f3,f4,f5⟩:=hf it (by simp)
  have e2:(i:Int)-1-(i:Int)= -1:=by lia
  have bD:=st.2
  rw[e2]at bD
  exact wpAny_pyNext_rev_end (I.ok.hd hc) bD fun h' eb=>⟨rfl,I.turned (t':=s.toks) (fun b o hb e=>eb b o hb e) f0 f1 f3 f4 f5⟩
 self:=fun _ _ _ _ _ st h=>wpAny_pyIter_revIter st.2 h
section
variable{X:Cx} {tg:Expr}
def qI (K:AGW) (d:TA):TI:=fun e H R=>d e H fun f b=>∃a c,f=[.ref a]/\An K b a c/\R (zj K a c.length) b
theorem dQ {x:Str} {p pos:Pos} {e:Expr} {k:TA} (l:Gl X x) (m:X.mg x=none) (n:bootBuiltins x=some (.type "reversed")) (r:PA X [e] k) (t:x≠"__name__":=by decide) (g:(x==("__debug__":Str))=false:=by decide)
  (v:starEach [e] X.env=(false,eval e X.env)::starEach [] X.env:=by rfl) (i:(backTo pos (starEach [] X.env)).any (·.1)=false:=by rfl):PI X tg (.Call (.Name x p) [e] [] pos) (qI X.K k):=by
 intro pins s w H R I h
 refine wpAny_Call_Name_kw (El I l m n ?_ t g)
 refine PyProof.Rows.callWith_type1 (BS (r pos pins s w H _ I h) fun J c y=>y.elim fun L z f A B=>?_) v i
 obtain⟨a,j,rfl,C,q⟩:=B
 obtain⟨u,rfl,D⟩:=vals1 A
 cases D
 obtain⟨d,E,pl,M⟩:=f.list C
 refine call_reversed_list pl.isList ?_
 have F:(d.toArray.size:Int)=(j.length:Int):=by rw[List.size_toArray,<-E.length]
 have st:(c.heap.push (revObj a ((d.toArray.size:Int)-1))).IsRevIter c.heap.objs.size a ((j.length:Int)-1):=by
  rw[F]
  exact⟨_,Heap.get?_push_size _ rfl,rfl,rfl⟩
 refine wpAny_pyIter_revIter st ?_
 refine⟨c.heap.objs.size,[c.heap.objs.size],_,_,z,rfl,f.kept (t':=c.toks) fun b o e=>Heap.get?_push_of_some _ e,Ws a _ j.length,⟨Nat.zero_le _,by simpa using st⟩,fun b G=>?_,q⟩
 have e:b=c.heap.objs.size:=by simpa using G
 subst e
 exact f.Nk (Nat.le_refl _) (f.Be.fresh (Nat.le_refl _))
end
namespace Ak
mutual
def jw:Ak->Nat
 |any=>0
 |As d=>d.wide
 |row xs _=>qJ xs
 |tab _ xs _ _=>qJ xs
def qJ:List Ak->Nat
 |[]=>0
 |x::r=>max (jw x) (qJ r)
end
end Ak
section
variable{K:AGW} [BY K]
inductive UU {K:AGW} [BY K] (n:Nat) (vs:List V) (H:Hp) (Q:VK) (d:XK):Prop
 |mk (w:V) (a:Ak) (l nm:Addr) (e:List Int) (ys:List Str) (h:vs=[w,.ref l,.ref nm]) (i:Val (JJ l H) w a.pt) (j:a.CF) (k:a.jw<=59) (m:a.dp+22<=n) (f:a.dp<=20) (o:a.wt<=900) (p:H l=some (.lst (e.map V.int))) (q:e.length<=100) (r:nm≠l) (s:Qk H nm ys)
  (g:∀(v:V) (c:Ak) (b:List Int) (H':Hp),Bt (some l) H H'->H' l=some (.lst (b.map V.int))->b.length<=e.length->Val (nw H H') v c.pt->Ak.O_ a c->Q v H'):UU n vs H Q d
end
namespace Ak
mutual
def GU:Ak->Prop
 |any=>True
 |As _=>True
 |row xs _=>Q_ xs
 |tab _ xs ls m=>(m=true->ls.length<=60/\ls.Nodup/\sortedS ls=true)/\Q_ xs
def Q_:List Ak->Prop
 |[]=>True
 |x::r=>GU x/\Q_ r
end
mutual
theorem Wu:∀a:Ak,a.ok->a.GU
 |any,_=>trivial
 |As _,_=>trivial
 |row xs _,o=>by simp only[ok]at o;simp only[GU];exact NB xs o
 |tab _ xs _ _,o=>by simp only[ok]at o;simp only[GU];exact⟨fun _=>o.2.2.2.2.1,NB xs o.2.2.2.2.2.2⟩
theorem NB:∀xs:List Ak,DD xs->Q_ xs
 |[],_=>trivial
 |x::r,o=>by simp only[DD]at o;exact⟨Wu x o.1,NB r o.2⟩
end
theorem Fb:∀{xs:List Ak},Q_ xs->∀x∈xs,GU x
 |y::r,h,x,a=>by
  simp only[Q_]at h
  rcases List.mem_cons.mp a with rfl|a
  ·exact h.1
  ·exact Fb h.2 x a
mutual
def RA:Ak->Prop
 |any=>True
 |As _=>True
 |row xs m=>(m=true∨EC xs=none)/\O' xs
 |tab ks xs ls m=>((m=true/\ls.length<=60/\ls.Nodup/\sortedS ls=true)∨(m=false/\ls=[]/\EC xs=none))/\(∀l∈ls,l∉ks)/\O' xs
def O':List Ak->Prop
 |[]=>True
 |x::r=>RA x/\O' r
end
theorem PB {a:List Ak} (m:Bool) (h:O' a):(B_ a m).RA:=by
 unfold B_
 cases m with
 |true=>rw[if_pos rfl];exact⟨.inl rfl,h⟩
 |false=>
  rw[if_neg (by decide)]
  cases e:EC a with
  |some b=>trivial
  |none=>exact⟨.inr e,h⟩
theorem PD {ss:List Str} {a:List Ak} {ls:List Str} (m:Bool) (s:m=true->ls.length<=60/\ls.Nodup/\sortedS ls=true) (b:∀l∈ls,l∉ss) (h:O' a):(B' ss a ls m).RA:=by
 unfold B'
 cases m with
 |true=>rw[if_pos rfl];exact⟨.inl ⟨rfl,s rfl⟩,b,h⟩
 |false=>
  rw[if_neg (by decide)]
  cases e:EC a with
  |some d=>trivial
  |none=>exact⟨.inr ⟨rfl,rfl,e⟩,fun l c=>(nomatch c),h⟩
mutual
theorem Good.RA:∀{a b:Ak},Good a b->a.CF->a.GU->b.RA
 |_,_,.any,_,_=>trivial
 |_,_,.As _,_,_=>trivial
 |_,_,.row (m:=m) h,o,s=>by
  simp only[Ak.CF]at o
  simp only[Ak.GU]at s
  exact PB m (h.RA (CS o) (Fb s))
 |_,_,.tab (m:=m) d p e h,o,s=>by
  simp only[Ak.CF]at o
  simp only[Ak.GU]at s
  obtain⟨g,i,q,r,t,j,k⟩:=o
  have f:=DO g i d e
  exact PD m s.1 (fun l n w=>j l n (d.mem_iff.mp w)) (h.RA (fun x c=>CS k x (f.mem_iff.mp c)) (fun x c=>Fb s.2 x (f.mem_iff.mp c)))
theorem D_.RA:∀{as c:List Ak},D_ as c->(∀a∈as,a.CF)->(∀a∈as,a.GU)->O' c
 |_,_,.nil,_,_=>trivial
 |_,_,.cons h r,o,s=>⟨h.RA (o _ List.mem_cons_self) (s _ List.mem_cons_self),r.RA (fun x b=>o x (List.mem_cons_of_mem _ b)) (fun x b=>s x (List.mem_cons_of_mem _ b))⟩
end
def word:Ak->Str
 |any=>"any"
 |As _=>"just"
 |row _ _=>"row"
 |tab _ _ _ _=>"table"
end Ak
section
variable{K:AGW} [BY K]
def zk (G H:Hp):Prop:=∀b u,Plain u->Rd G b u->H b=some u
inductive UW {K:AGW} [BY K] (n:Nat) (vs:List V) (H:Hp) (Q:VK) (b:XK):Prop
 |mk (G:Hp) (v:V) (a:Ak) (d:vs=[v]) (c:zk G H) (e:Val G v a.pt) (f:a.CF) (g:a.RA) (h:a.deep<=n) (i:a.size<=900) (j:∀H',AE H H'->Q (.bl true) H'):UW n vs H Q b
end
section
variable{X:Cx}
def bE (v d:Addr):HO:=.ext fun h=>h.IsValuesView v d
inductive UX (x:V) (vs:List V) (H:Hp) (Q:VK):Prop
 |mk (d:Addr) (kvs:List (Key×V)) (a:x=.ref d) (b:vs=[]) (c:Rd H d (.dK kvs)) (e:∀v,H v=none->Q (.ref v) (upd H v (bE v d))):UX x vs H Q
inductive Wv (xs:List V) (H:Hp) (Q:VK):Prop
 |mk (r:Addr) (d:Addr) (kvs:List (Key×V)) (a:xs=[.ref r]) (b:H r=some (bE r d)) (c:Rd H d (.dK kvs)) (e:∀l,H l=none->Q (.ref l) (upd H l (.lst (kvs.map (·.2))))):Wv xs H Q
end
namespace Ak
end Ak
section
variable{K:AGW} [BY K]
structure Told (H H':Hp) (v:V) (g:Ak):Prop where
 s:AE H (L2.zg H H')
 p:zk (L2.nw H H') (L2.zg H H')
 k:KF K (L2.nw H H')
 v:Val (L2.nw H H') v g.pt
end
namespace Dc
end Dc
theorem ZA {J:It} {r:TT} {s:TE} {fs:List Nat} {j:St} {H:Hp} {Q:VK} (n:Nat) (item:Nat->V) (P:Addr->Nat->Hp->Prop) (u:∀D,H D=none->P D 0 (upd H D (.lst [])))
  (k:∀D i H2,i<n->P D i H2->J.go i H2) (w:∀D i H2 v H',i<n->P D i H2->J.NX i H2 v H'->v=item i/\H'=H2) (l:∀D H2,P D n H2->J.stop n H2)
  (x:∀D i H2,H D=none->i<n->P D i H2->r (some (item i)::Bn j fs) H2 fun ok g=>if ok=true then s (some (item i)::Bn j fs) g fun y f=>∃ys,f D=some (.lst ys)/\ys.length<sizeLine/\P D (i+1) (upd f D (.lst (ys++[y])))else P D (i+1) g)
  (z:∀D H2,H D=none->P D n H2->Q (.ref D) H2):EN J r s fs j H Q:=by
 intro D o
 refine⟨fun i m H2=>m=n-i/\i<=n/\P D i H2,⟨n,rfl,Nat.zero_le _,u D o⟩,?_⟩
 rintro i m H2 ⟨rfl,B,p⟩
 by_cases d:i<n
 ·refine .inr ⟨k D i H2 d p,fun v t y=>?_⟩
  obtain⟨rfl,rfl⟩:=w D i H2 v t d p y
  have q:=x D i t o d p
  have e:(fun(y:V) (f:Hp)=>∃ys,f D=some (.lst ys)/\ys.length<sizeLine/\∃h,h<n-i/\h=n-(i+1)/\i+1<=n/\P D (i+1) (upd f D (.lst (ys++[y]))))=fun y f=>∃ys,f D=some (.lst ys)/\ys.length<sizeLine/\P D (i+1) (upd f D (.lst (ys++[y]))):=by
   funext y f
   refine propext ⟨fun⟨ys,a,b,h,_,_,_,c⟩=>⟨ys,a,b,c⟩,fun⟨ys,a,b,c⟩=>⟨ys,a,b,n-(i+1),by omega,rfl,d,c⟩⟩
  have A:∀g:Hp,(∃h,h<n-i/\h=n-(i+1)/\i+1<=n/\P D (i+1) g)=P D (i+1) g:=fun g=>propext ⟨fun⟨_,_,_,_,c⟩=>c,fun c=>⟨n-(i+1),by omega,rfl,d,c⟩⟩
  dsimp only
  simp only[e,A]
  exact q
 ·have e:i=n:=by omega
  subst e
  exact .inl ⟨l D H2 p,z D H2 o p⟩
section
variable{X:Cx}
inductive UY (K:AGW) (x:V) (y:V) (H:Hp) (Q:VK):Prop
 |mk (a:Addr) (b:Addr) (xs:List V) (ys:List V) (c:x=.ref a) (d:y=.ref b) (e:Bf K H a xs) (f:Bf K H b ys) (g:(∀z∈xs,DZ z=true)) (h:(∀z∈ys,DZ z=true)) (i:Q (.bl (!Vn xs ys)) H):UY K x y H Q
end
inductive UZ (n:Nat) (vs:List V) (H:Hp) (Q:VK) (a:XK):Prop
 |mk (d:Dc) (e:Dc) (b:vs=[d.val,e.val]) (c:d.At H) (f:e.At H) (g:Dc.Eqv d e) (h:d.size<=63) (i:d.deep<=n) (j:∀H',AE H H'->Q (.bl true) H'):UZ n vs H Q a
inductive RB (vs:List V) (H:Hp) (Q:VK) (a:XK):Prop
 |mk (d:Dc) (t:Addr) (us:List V) (b:V) (e:Dc) (x:Dc) (c:vs=[d.val,.ref t]) (f:d.At H) (g:d.size<=40) (h:H t=some (.tup (us++[b]))) (i:(∀z∈us++[b],Dc.FH z)) (j:d.sub us=some e) (k:e.sub [b]=some x) (l:∀H',AE H H'->Q (.bl true) H'):RB vs H Q a
inductive NC (vs:List V) (H:Hp) (Q:VK) (a:XK):Prop
 |mk (d:Dc) (v:Dc) (t:Addr) (us:List V) (b:V) (e:Dc) (c:vs=[d.val,.ref t,v.val]) (f:d.At H) (g:d.size<=40) (h:v.At H) (i:v.size<=10) (j:H t=some (.tup (us++[b]))) (k:(∀z∈us++[b],Dc.FH z)) (l:d.sub us=some e) (m:e.room b=true) (n:∀H',AE H H'->Q (.bl true) H'):NC vs H Q a
inductive Ua (vs:List V) (H:Hp) (Q:VK) (a:XK):Prop
 |mk (d:Dc) (t:Addr) (n:Addr) (us:List V) (ys:List Str) (e:Dc) (f:vs=[d.val,.ref t,.ref n]) (g:d.At H) (h:d.size<=40) (i:H t=some (.tup us)) (j:(∀z∈us,Dc.FH z)) (k:us.length<=40) (l:d.sub us=some e) (m:H n=some (.lst (ys.map V.str))) (o:ys.length=6) (r:(∀y∈ys,Cb y=true)) (c:∀(p:Addr) (b:List Addr) (H':Hp),AE H H'->H' p=some (.lst (b.map V.ref))->(∀q∈b,∃z,H' q=some (.tup (us++[z]))/\Dc.FH z/\e.room z=true)->Q (.ref p) H'):Ua vs H Q a
inductive Ww (vs:List V) (H:Hp) (Q:VK) (a:XK):Prop
 |mk (c:Int) (n:Addr) (ys:List Str) (b:vs=[.int c,.ref n]) (d:H n=some (.lst (ys.map V.str))) (e:ys.length=6) (f:ys.Nodup) (g:∀(v:Dc) (H':Hp),AE H H'->v.At H'->v.size<=10->Q v.val H'):Ww vs H Q a
structure DP (X:Cx) (scope:Scope) (x z:Str) (fv:List Str) (fs:List Nat):Prop where
 kind:scope.kind=.function
 Jf:∀p∈scope.names,p.2≠.cell
 names:∀p∈scope.names,p.2=.local->scope.names.lookup p.1=some .local
 tg:scope.names.lookup x=some .local
 tz:scope.names.lookup z=some .local
 free:∀p∈scope.names,p.2=.free->X.env.scope.names.lookup p.1=some .cell
 nd:(x::z::fv).Nodup
 oZ:∀(j:Nat) y,fv[j]?=some y->∃i,fs[j]?=some i/\X.N[i]?=some y/\scope.names.lookup y=some .free
 len:fv.length=fs.length
def PF (a:Scope) (N:List Str) (scope:Scope) (x z:Str) (fv:List Str) (fs:List Nat):Bool:=
 scope.kind==.function&&(scope.names.all fun p=>p.2 !=.cell)&&(scope.names.all fun p=>p.2 !=.local||scope.names.lookup p.1==some .local)&&scope.names.lookup x==some .local&&scope.names.lookup z==some .local&&
 (scope.names.all fun p=>p.2 !=.free||a.names.lookup p.1==some .cell)&&decide (x::z::fv).Nodup&&fs.map (N[·]?)==fv.map some&&(fv.all fun y=>scope.names.lookup y==some .free)
theorem DP.of {X:Cx} {scope:Scope} {x z:Str} {fv:List Str} {fs:List Nat} (h:PF X.env.scope X.N scope x z fv fs=true):DP X scope x z fv fs:=by
 unfold PF at h
 simp only[Bool.and_eq_true,List.all_eq_true,Bool.or_eq_true,bne_iff_ne,beq_iff_eq,decide_eq_true_eq]at h
 obtain⟨⟨⟨⟨⟨⟨⟨⟨g,i⟩,k⟩,m⟩,n⟩,o⟩,q⟩,f⟩,r⟩:=h
 have hlen:fs.length=fv.length:=by
  have:=congrArg List.length f
  simpa using this
 refine⟨g,i,fun p b c=>(k p b).resolve_left fun z=>z c,m,n,fun p b c=>(o p b).resolve_left fun z=>z c,q,fun j y e=>?_,hlen.symm⟩
 have s:j<fv.length:=(AGT e).1
 have d:=congrArg (fun l=>l[j]?) f
 simp only[List.getElem?_map,e]at d
 have a:j<fs.length:=by lia
 rw[AGS a]at d
 refine⟨fs[j],AGS a,?_,r y (AGV e)⟩
 simpa using d
section
variable{X:Cx} {pins:List (Addr×Obj)} {σ:St} {H H':Hp} {s s':Shared} {scope:Scope} {x z:Str} {fv:List Str} {fs:List Nat} {fp:List Addr}
theorem DP.cells (ok:DP X scope x z fv fs) (I:Inv X pins σ H s):∀p∈scope.names,p.2=.free->∃c,X.env.cells.lookup p.1=some c:=fun p a b=>I.ok.has p.1 (.inl (ok.free p a b))
theorem DP.look (ok:DP X scope x z fv fs) (I:Inv X pins σ H s) {y:Str} {c:Addr} (h:(Dd X.env.cells scope.names []).lookup y=some c):X.env.cells.lookup y=some c:=
 Di scope.names [] (ok.cells I) (fun _ _ z=>by cases z) h
theorem PH (ok:DP X scope x z fv fs) (I:Inv X pins σ H s) (t:∀b∈fp,FJ X pins H b) (w:∀b∈fp,∃o,s.heap.get? b=some o) {h:Heap} {m:Str->Option Value} {tk:Nat} (N:h.Ns s.heap.objs.size m)
  (kept:∀b o,s.heap.get? b=some o->h.get? b=some o):Inv (CB X (x::z::fv) scope s.heap.objs.size s H fp) [] (none::none::Bn σ fs) H {s with heap:=h,toks:=tk}:=by
 have g:=fun{y c}=>ok.look I (y:=y) (c:=c)
 have A:X.env.scope.kind=.function:=I.ok.kind
 refine⟨⟨I.ok.mod,ok.kind,I.ok.glob,I.ok.blt,Nat.le_refl _,fun y z c h O=>I.ok.inj y z c (g h) (g O),fun y d=>?_,fun y c B _=>(by cases B),I.ok.hd,I.ok.frames,.inl rfl,fun b f=>⟨?_,fun y c e z=>(t b f).2.2.2.2.1 y c (g e) z⟩,I.bs,
  Nat.le_trans I.ok.Xx I.sz,fun b o e f=>?_,fun b f C=>?_,I.stack,I.ML⟩,rfl,I.bare,Un.kept kept,⟨m,N,fun i y v D a T=>?_⟩,fun y c e=>?_,I.fresh,fun y c e=>I.EV y c (g e),fun p P=>absurd (show p∈([]:List (Addr×Obj))from P) (by simp),I.Be.kept kept,?_⟩
 ·have d:(relabel scope X.env).names.lookup y=some .cell∨(relabel scope X.env).names.lookup y=some .free:=d
  rw[Cu]at d
  have E:scope.names.lookup y=some .free:=by
   cases e:scope.names.lookup y with
   |none=>rw[e]at d;rcases d with z|z<;>cases z
   |some k=>
    rw[e]at d
    have d:Gn X.env y k=.cell∨Gn X.env y k=.free:=d.elim (fun z=>.inl (AGU z)) fun z=>.inr (AGU z)
    by_cases F:k=.free
    ·rw[F]
    ·have a:Gn X.env y k=k:=by
      unfold Gn
      have:(k==NameKind.free)=false:=by simpa using F
      rw[this]
      rfl
     rw[a]at d
     rcases d with z|z
     ·subst z
      exact absurd rfl (ok.Jf _ (PySem.mem_of_lookup e))
     ·exact absurd z F
  exact Option.isSome_iff_exists.mp (Dm scope.names [] (.inr (PySem.mem_of_lookup E)))
 ·obtain⟨o,n⟩:=w b f
  exact Nat.ne_of_lt (Heap.lt_size n)
 ·rcases(t b f).2.2.2.1 with z|z
  ·exact I.ok.Tc b o e z
  ·exact absurd (Nat.lt_of_lt_of_le (Heap.lt_size e) (Nat.le_trans I.ok.Xx z)) (Nat.lt_irrefl _)
 ·rcases List.mem_cons.mp (I.MK b C)with z|z
  ·exact(t b f).2.1 z
  ·exact(t b f).2.2.1 z
 ·cases i with
  |zero=>
   have a:(some none:Option (Option V))=some (some v):=a
   cases a
  |succ j=>
   cases j with
   |zero=>
    have a:(some none:Option (Option V))=some (some v):=a
    cases a
   |succ j=>
   have D:fv[j]?=some y:=D
   have a:(Bn σ fs)[j]?=some (some v):=a
   obtain⟨i,Q,R⟩:=Lg a
   obtain⟨U,M,S,G⟩:=ok.oZ j y D
   rw[Q]at M
   cases M
   have J:X.env.scope.names.lookup y=some .cell:=ok.free (y,.free) (PySem.mem_of_lookup G) rfl
   obtain⟨W,_,K⟩:=I.loc
   obtain⟨u,r,l⟩:=K i y v S R (.inr (.inl J))
   refine⟨u,r,?_⟩
   rcases l with⟨k,_⟩|⟨_,c,e,o,n,hd⟩
   ·have k:X.env.scope.names.lookup y=some .local:=k
    rw[J]at k
    cases k
   ·obtain⟨Y,q⟩:=Option.isSome_iff_exists.mp (Dm (cells:=X.env.cells) scope.names [] (.inr (PySem.mem_of_lookup G)))
    have:=g q
    rw[e]at this
    cases this
    refine .inr ⟨.inl ?_,c,q,o,kept _ _ n,hd⟩
    show(relabel scope X.env).names.lookup y=some .cell
    rw[Cu,G]
    show some (Gn X.env y .free)=_
    have L:X.env.kindOf y=some .cell:=J
    unfold Gn
    rw[A,L]
    rfl
 ·obtain⟨v,o,n,hd⟩:=I.cell y c (g e)
  exact⟨v,o,kept _ _ n,hd⟩
 ·show(none::none::Bn σ fs).length=(x::z::fv).length
  simp[Bn,ok.len]
end
def JN (K:AGW) (J:It) (k:TT) (l:TE) (fs:List Nat) (g:St) (H:Hp) (Q:VK):Prop:=∀D,H D=none->∃W:Nat->Nat->Hp->Prop,(∃m,W 0 m (upd H D (.lst [])))/\∀i m c,W i m c->
 (J.stop i c/\Q (.ref D) c)∨(J.go i c/\∀v e,J.NX i c v e->∃(t:Addr) (a b:V),v=.ref t/\Bf K e t [a,b]/\k (some a::some b::Bn g fs) e fun ok h=>
  if ok=true then l (some a::some b::Bn g fs) h fun y j=>∃f,j D=some (.lst f)/\f.length<sizeLine/\∃d,d<m/\W (i+1) d (upd j D (.lst (f++[y])))else∃d,d<m/\W (i+1) d h)
def Wx (K:AGW) (b:TI) (c:TT) (d:TE) (fs:List Nat):TE:=fun a H Q=>b a H fun J e=>JN K J c d fs a e Q
section
variable{X:Cx} {elt iter:Expr} {x z:Str} {px pz pt pos:Pos} {kt:Nat} {ifs:List Expr} {scope:Scope} {fv:List Str} {fs:List Nat} {wi:TI} {te:TE} {tc:TT}
theorem Ly (hc:X.calm=true) (ok:DP X scope x z fv fs) (oe:∀C s0 H0 d,aV (CB X (x::z::fv) scope C s0 H0 d) ifs tc) (he:∀C s0 H0 d,PE (CB X (x::z::fv) scope C s0 H0 d) elt te)
  {pins:List (Addr×Obj)} {t:St} {H:Hp} {s:Shared} {E:Value->Shared->Prop} {it:Addr} {d:List Addr} {L:Nat->Heap->Prop} {J:It} {Q:VK} (I:Inv X pins t H s) (T:Turn X.prog X.w X.K (.Tuple [.Name x px,.Name z pz] kt pt) J d it L) (st:L 0 s.heap)
  (hf:∀b∈d,FJ X pins H b)
  (rd:JN X.K J tc te fs t H Q)
  {RR:Value->Addr->Result->Shared->Prop}
  (og:∀D C B H',Inv X pins t H' B->FJ X pins H' C->(∃m,B.heap.Ns C m)->Q (.ref D) H'->RR (.ref D) C (.ok .next) B):
  wpAny (model X.prog X.w) X.A (newList []) (fun M a=>wpAny (model X.prog X.w) X.A (newFunctionEnv scope X.env.globals (Dd X.env.cells scope.names []) [] X.env.qual none .none (some X.env)) (fun g s4=>
   codeAny (model X.prog X.w) X.A (.compStart (.ListComp elt [⟨.Tuple [.Name x px,.Name z pz] kt pt,iter,ifs,0⟩] scope pos) 0 (.ref it) M {g with scope:=relabel scope X.env}) (RR M g.locals) s4) E a) E s:=by
 obtain⟨W,⟨m0,w0⟩,turn⟩:=rd s.heap.objs.size I.fresh
 have Z:Inv X pins t (upd H s.heap.objs.size (.lst [])) {s with heap:=s.heap.push {cls:=.type "list",dict:=none,data:=.seq ([]:List Value).toArray}}:=I.VW (its:=[]) (ys:=[]) (t':=s.toks) .nil (Nat.zero_le _)
 refine wpAny_newObj_type ?_
 show wpAny _ _ _ _ _ ({s with heap:=s.heap.push {cls:=.type "list",dict:=none,data:=.seq ([]:List Value).toArray}}:Shared)
 generalize oh:({s with heap:=s.heap.push {cls:=.type "list",dict:=none,data:=.seq ([]:List Value).toArray}}:Shared)=a at Z⊢
 refine wpAny_newFunctionEnv ok.Jf (fun y hy=>absurd hy (by simp)) (fun h1 oj om=>?_) ok.kind
 have eh:a.heap=s.heap.push {cls:=.type "list",dict:=none,data:=.seq ([]:List Value).toArray}:=by rw[<-oh]
 have N:∀b o,s.heap.get? b=some o->a.heap.get? b=some o:=fun b o e=>by rw[eh];exact Heap.get?_push_of_some _ e
 have oo:∀b∈d,∃o,a.heap.get? b=some o:=fun b c=>let⟨o,ho,_⟩:=T.obj 0 _ st b c;⟨o,N b o ho⟩
 have oq:∀b∈d,b≠s.heap.objs.size:=fun b c=>let⟨o,ho,_⟩:=T.obj 0 _ st b c;Nat.ne_of_lt (Heap.lt_size ho)
 have h:∀b∈d,FJ X pins (upd H s.heap.objs.size (.lst [])) b:=fun b c=>⟨by rw[AJ (oq b c)];exact(hf b c).1,(hf b c).2⟩
 have kept:∀b o,a.heap.get? b=some o->h1.get? b=some o:=fun b o e=>om.extBut b o (Nat.ne_of_lt (Heap.lt_size e)) (Heap.get?_push_of_some _ e)
 have I4:=PH (tk:=a.toks+([]:List (Str×Value)).length) ok Z h oo oj kept
 have O:L 0 h1:=T.keep 0 _ _ st fun b c o e=>kept b o (N b o e)
 have f:∀{H':Hp},(∀b∈d,H' b=none)->∀b∈d,FJ (CB X (x::z::fv) scope a.heap.objs.size a (upd H s.heap.objs.size (.lst [])) d) [] H' b:=fun hn b c=>
  ⟨hn b c,(I4.ok.gD b c).1,I4.ok.Td b c,.inl c,(I4.ok.gD b c).2,fun p hp=>absurd hp (by simp)⟩
 have hg:PG (CB X (x::z::fv) scope a.heap.objs.size a (upd H s.heap.objs.size (.lst [])) d) (.Tuple [.Name x px,.Name z pz] kt pt) (hG X.K 2 (VE (BP 0) (VE (BP 1) hF))):=QG hc (EW (Gd (i:=0) ok.nd rfl (.inl (lookup_relabel_local ok.tg)) (.inr (lookup_relabel_local ok.tg))) (EW (Gd (i:=1) ok.nd rfl (.inl (lookup_relabel_local ok.tz)) (.inr (lookup_relabel_local ok.tz))) MO))
 have loop:codeAny (model X.prog X.w) X.A (.compLoop (.ListComp elt [⟨.Tuple [.Name x px,.Name z pz] kt pt,iter,ifs,0⟩] scope pos) 0 (.ref it) (.ref s.heap.objs.size) (compEnvC scope (Dd X.env.cells scope.names []) a.heap.objs.size X.env)) (RR (.ref s.heap.objs.size) a.heap.objs.size)
   {a with heap:=h1,toks:=a.toks+([]:List (Str×Value)).length}:=by
  refine Je (fun n B=>∃i o o2 H',Inv (CB X (x::z::fv) scope a.heap.objs.size a (upd H s.heap.objs.size (.lst [])) d) [] (o::o2::Bn t fs) H' B/\L i B.heap/\(∀b∈d,H' b=none)/\W i n H') ?_ m0
   ⟨0,none,none,_,I4,O,fun b c=>(h b c).1,w0⟩
  rintro n s5 ⟨i,o,o2,H5,I5,P,R,w5⟩
  rcases turn i n H5 w5 with⟨stop,q⟩|⟨go,step⟩
  ·refine BS (T.done (CB X (x::z::fv) scope a.heap.objs.size a (upd H s.heap.objs.size (.lst [])) d) rfl rfl rfl hc i [] s5 _ H5 _ I5 (f R) P stop) fun r s6 ⟨hr,I6⟩=>?_
   subst hr
   obtain⟨m,hm,_⟩:=I6.loc
   exact og _ _ s6 H5 (Jg Z h I6) (Z.Nk (Nat.le_refl _) I6.free) ⟨m,hm⟩ q
  ·refine BS (T.item (CB X (x::z::fv) scope a.heap.objs.size a (upd H s.heap.objs.size (.lst [])) d) rfl rfl rfl hc i [] s5 _ H5 _ I5 (f R) P go) fun r s6 ⟨u,hr,h6⟩=>?_
   subst hr
   refine BS h6 fun _ s7 ⟨v,H7,I7,r7,y7,j,ow⟩=>?_
   have oz:=I7.pinned (f ow) (T.obj _ _ j)
   have back:∀{S:St} {F:Hp} {U:Shared},Inv (CB X (x::z::fv) scope a.heap.objs.size a (upd H s.heap.objs.size (.lst [])) d) ([]++HW d s7.heap) S F U->L (i+1) U.heap/\∀b∈d,F b=none:=fun{S F U} G=>
    ⟨T.keep _ _ _ j fun b c o e=>(G.pin (b,o) (DC c e)).1,fun b c=>by
     obtain⟨o,e,_⟩:=T.obj _ _ j b c
     exact(G.pin (b,o) (DC c e)).2.1⟩
   obtain⟨ta,va,vb,rfl,hta,k⟩:=step v H7 y7
   refine BS (hg _ s7 _ H7 (.ref ta) u (fun σ2 H2=>σ2=some va::some vb::Bn t fs/\H2=H7) oz r7 ⟨ta,_,rfl,hta,rfl,_,_,rfl,_,_,rfl,rfl,rfl,rfl⟩) fun _ s8 ⟨σ8,H8,I8,e8,o_⟩=>?_
   subst e8 o_
   refine BS (oe _ _ _ _ _ s8 _ H8 _ I8 k) fun ok U ⟨F,G,q9⟩=>?_
   cases ok with
   |false=>
    obtain⟨m',l,w9⟩:=q9
    obtain⟨b1,b2⟩:=back G
    exact⟨m',l,i+1,some va,some vb,F,G.Du,b1,b2,w9⟩
   |true=>
    refine BS (he _ _ _ _ _ U _ F _ G q9) fun y s10 ⟨yv,V,pA,r10,ys,hD,hz,m',l,w10⟩=>?_
    refine BS (Fh _ s10 _ V (.ref s.heap.objs.size) [yv] (.ref s.heap.objs.size) [y] (fun _ H'=>H'=upd V s.heap.objs.size (.lst (ys++[yv]))) pA rfl (.cons r10 .nil) ⟨_,ys,yv,rfl,rfl,hD,hz,rfl⟩) fun _ s11 ⟨_,H11,Y,_,e11⟩=>?_
    subst e11
    obtain⟨b1,b2⟩:=back Y
    exact⟨m',l,i+1,some va,some vb,_,Y.Du,b1,b2,w10⟩
 exact codeAny_compStart_list loop (T.self _ 0 _ _ _ O loop)
theorem PJ (g:X.calm=true) (ok:DP X scope x z fv fs) (i:PI X (.Tuple [.Name x px,.Name z pz] kt pt) iter wi) (b:∀C c d a,aV (CB X (x::z::fv) scope C c d a) ifs tc) (j:∀C c d a,PE (CB X (x::z::fv) scope C c d a) elt te)
  (k:∀x,foldedSetIterable iter X.env x=pure x:=by intro _;rfl):PE X (.ListComp elt [⟨.Tuple [.Name x px,.Name z pz] kt pt,iter,ifs,0⟩] scope pos) (Wx X.K wi tc te fs):=by
 intro pins s l H Q I h
 rw[eval_ListComp]
 refine wpAny_comprehension_free (use:=none) rfl k (CV (ok.cells I)) ok.kind ok.names (BS (i pins s l H _ I h) fun B E n=>BS n fun o F p=>?_)
 obtain⟨G,a,L,J,M,rfl,r,T,e,t,u⟩:=p
 exact Ly g ok b j r T e t u fun D C N v w y ⟨m,A⟩ q=>⟨m,A,fun O f=>⟨.ref D,v,w.off y f,rfl,q⟩⟩
theorem Ia {i:Nat} {y:Str} {c b:Pos} (L:X.calm=true) (ok:DP X scope x z fv fs) (M:X.N.Nodup) (k:X.N[i]?=some y) (O:Loc X.env.scope y) (P:PI X (.Tuple [.Name x px,.Name z pz] kt pt) iter wi) (l:∀C n o g,aV (CB X (x::z::fv) scope C n o g) ifs tc)
  (R:∀C n o g,PE (CB X (x::z::fv) scope C n o g) elt te) (p:swapsWith (.ListComp elt [⟨.Tuple [.Name x px,.Name z pz] kt pt,iter,ifs,0⟩] scope pos) (some (.Name y c)) b.line X.env=pure true:=by rfl)
  (r:X.fn y=true∨X.env.scope.names.lookup y=some .local:=by first|exact .inl rfl|exact .inr rfl|assumption)
  (S:∀x,foldedSetIterable iter X.env x=pure x:=by intro _;rfl):PS X (.Assign [.Name y c] (.ListComp elt [⟨.Tuple [.Name x px,.Name z pz] kt pt,iter,ifs,0⟩] scope pos) b) (fun D d H=>Wx X.K wi tc te fs d H fun v f=>D.nx (d.set i (some v)) f):=by
 intro pins s d H D I h
 rw[exec_Assign_Name_used _ _ _ _ p]
 refine wpAny_bind (wpAny_standAt (wpAny_bind ?_))
 show wpAny _ X.A (comprehension (.ListComp elt [⟨.Tuple [.Name x px,.Name z pz] kt pt,iter,ifs,0⟩] scope pos) scope X.env _ (newList []) false (eval iter X.env) (some (assign (.Name y c) X.env))>>=fun _=>pure ()) _ _ s
 refine wpAny_bind (BS (wpAny_comprehension_free (use:=some (assign (.Name y c) X.env)) (Q:=fun _ j=>SP X pins D .next j) rfl S (CV (ok.cells I)) ok.kind ok.names
  (BS (P pins s d H _ I h) fun xv s1 U=>BS U fun V s2 W=>?_)) fun _ j Y=>wpAny_pure (wpAny_pure Y))
 obtain⟨it,g,tn,J,H2,rfl,Z,T,t,f2,rd⟩:=W
 refine Ly (Q:=fun v f=>D.nx (d.set i (some v)) f) L ok l R Z T t f2 rd fun G C j f I' u ⟨m,hm⟩ q=>?_
 show wpAny _ X.A (assign (.Name y c) X.env (.ref G)) _ _ j
 refine wpAny_assign_Name (HV I' M k O (v:=.ref G) rfl (fun iE w ⟨a,B,ha⟩=>?_) r)
 have E:C≠a:=by
  rcases ha with z|z
  ·rw[z];exact u.2.1
  ·exact fun e=>u.2.2.2.2.1 y a z e.symm
 exact⟨m,hm.sameBut B E,fun h' F=>⟨_,f,w.off u F,q⟩⟩
end
theorem KX {K:AGW} {J:It} {o:TT} {h:TE} {fs:List Nat} {j:St} {H:Hp} {Q:VK} {n:Nat} (t:Nat->Addr) (a b g:Nat->V) (p:Nat->Bool) (C:n<=sizeLine)
  (k:∀i D ys,i<n->H D=none->J.go i (upd H D (.lst ys)))
  (s:∀i D ys v H',i<n->H D=none->J.NX i (upd H D (.lst ys)) v H'->v=.ref (t i)/\H'=upd H D (.lst ys))
  (u:∀i D ys,i<n->H D=none->Bf K (upd H D (.lst ys)) (t i) [a i,b i])
  (l:∀D ys,H D=none->J.stop n (upd H D (.lst ys)))
  (w:∀i D ys (R:Bool->Hp->Prop),i<n->H D=none->R (p i) (upd H D (.lst ys))->o (some (a i)::some (b i)::Bn j fs) (upd H D (.lst ys)) R)
  (x:∀i D ys (R:VK),i<n->H D=none->p i=true->R (g i) (upd H D (.lst ys))->h (some (a i)::some (b i)::Bn j fs) (upd H D (.lst ys)) R)
  (y:∀D,H D=none->Q (.ref D) (upd H D (.lst (((List.range n).filter p).map g)))):
  JN K J o h fs j H Q:=by
 intro D d
 refine⟨fun i m q=>m=n-i/\i<=n/\q=upd H D (.lst (((List.range i).filter p).map g)),⟨n,by simp⟩,?_⟩
 rintro i m q ⟨rfl,E,rfl⟩
 by_cases c:i<n
 ·refine .inr ⟨k i D _ c d,fun v z A=>?_⟩
  obtain⟨rfl,rfl⟩:=s i D _ v z c d A
  refine⟨t i,a i,b i,rfl,u i D _ c d,w i D _ _ c d ?_⟩
  have r:∀b,p i=b->((List.range (i+1)).filter p).map g=((List.range i).filter p).map g++(if b=true then[g i]else[]):=fun b f=>by
   rw[List.range_succ,List.filter_append,List.map_append]
   cases b with
   |true=>simp[f]
   |false=>simp[f]
  cases f:p i with
  |false=>
   show∃B,B<n-i/\_
   refine⟨n-(i+1),by lia,rfl,c,?_⟩
   rw[r false f]
   simp
  |true=>
   show h _ _ _
   refine x i D _ _ c d f ⟨_,AF,?_,n-(i+1),by lia,rfl,c,?_⟩
   ·rw[List.length_map]
    have:=List.length_filter_le p (List.range i)
    rw[List.length_range]at this
    lia
   ·rw[RX,r true f]
    simp
 ·have e:i=n:=by lia
  subst e
  exact .inl ⟨l D _ d,y D d⟩
section
variable{prog:Program} {w:World} {A:Around} {s:Shared}
def qK (prog:Program) (w:World) (A:Around) (s:Shared) (u v:Value):Prop:=∀(E:Value->Shared->Prop) (Q:Value->Shared->Prop),Q (.bool false) s->wpAny (model prog w) A (richCompare .NotEq u v) Q E s
theorem Ub {P:Type} [DecidableEq P] {knd:PySem.KeyKind prog w P} {a b:Addr} {y m:List (P×Value)} (ha:(a==sysModules)=false) (hb:(b==sysModules)=false) (O:s.heap.DictOf knd a y) (R:s.heap.DictOf knd b m)
  (hk:y.map (·.1)=m.map (·.1)) (hu:A.units<cLine) (he:∀(j:Nat) k u v,y[j]?=some (k,u)->m[j]?=some (k,v)->zX prog w A.in1 s u v):qK prog w A s (.ref a) (.ref b):=fun E Q h=>by
 have ll:y.length=m.length:=by have:=congrArg List.length hk;simpa using this
 refine wpAny_richCompare_same_room (op:=.NotEq) O.typeIs R.typeIs PySem.F.slot_dict_ne (wpAny_call_entry PySem.F.slot_dict_ne O.typeIs PySem.F.entry_dict_ne ?_ (PySem.F.args_dict_ne_2 _ _)) hu
 show wpAny _ _ (Builtin.Dict.dictSlotArgs "__ne__" ⟨[.ref a,.ref b],[]⟩>>=_) _ _ s
 refine wpAny_bind ?_
 unfold Builtin.Dict.dictSlotArgs
 refine wpAny_bind (wpAny_notOrdered_dict O.typeIs ?_)
 show wpAny _ _ (pure (Value.ref a,Value.ref b)) _ _ s
 refine wpAny_pure ?_
 refine wpAny_bind (wpAny_isInstance (T:="dict") R.typeIs PySem.F.sub_dict_dict ?_)
 simp only[Bool.not_true,Bool.false_eq_true,if_false]
 refine wpAny_bind (wpAny_pure (wpAny_bind (wpAny_pure ?_)))
 obtain⟨oa,d,ep,n,_,o,S,G,hna⟩:=O
 obtain⟨ob,f,ep',p,_,r,H,C,U⟩:=R
 have I:y.length=d.size:=by rw[<-G.length];exact Array.length_toList
 have J:m.length=f.size:=by rw[<-C.length];exact Array.length_toList
 refine wpAny_bind ?_
 unfold Builtin.Dict.samePairs Builtin.Dict.showsAll
 rw[if_neg (show¬(a==sysModules)=true by rw[ha];exact Bool.false_ne_true),if_neg (show¬(b==sysModules)=true by rw[hb];exact Bool.false_ne_true)]
 refine wpAny_bind (wpAny_pure (wpAny_bind (wpAny_pure ?_)))
 refine wpAny_bind (wpAny_dictEntries n o ?_)
 dsimp only
 refine wpAny_bind (wpAny_dictEntries p r ?_)
 rw[if_neg (by rw[<-I,<-J,ll];simp)]
 refine wpAny_bind (wpAny_dictEpoch n o ?_)
 refine wpAny_bind ?_
 rw[Std.Legacy.Range.forIn_eq_forIn_range']
 simp only[Std.Legacy.Range.size,Nat.sub_zero,Nat.add_sub_cancel,Nat.div_one]
 have fin:∃v,Fin.done (Flow.ret (Value.bool (true==false)))=.done (.ret v)/\v≠.notImplemented/\Q v s:=⟨_,rfl,(fun x=>nomatch x),h⟩
 refine wpAny_forIn_list _ (fun rest q V=>V=s/\q=(none,())/\∃i,rest=List.range' i (d.size-i)/\i<=d.size) _ ?_ ?_ _ _ ⟨rfl,rfl,0,by simp,Nat.zero_le _⟩
 ·rintro x rest q V ⟨rfl,rfl,i,K,hi⟩
  have g:i<d.size:=by
   rcases Nat.lt_or_ge i d.size with h|h
   ·exact h
   ·rw[Nat.sub_eq_zero_of_le h]at K;simp at K
  obtain⟨rfl,D⟩:x=i/\rest=List.range' (i+1) (d.size-(i+1)):=by
   have e:d.size-i=(d.size-(i+1))+1:=by lia
   rw[e,List.range'_succ]at K
   injection K with h1 h2
   exact⟨h1,h2⟩
  have L:x<y.length:=by rw[I];exact g
  have M:x<m.length:=by lia
  obtain⟨k,u,W⟩:∃k u,y[x]=(k,u):=⟨_,_,rfl⟩
  obtain⟨t,v,X⟩:∃k v,m[x]=(k,v):=⟨_,_,rfl⟩
  have Y:y[x]?=some (k,u):=by rw[AGS L,W]
  have Z:m[x]?=some (t,v):=by rw[AGS M,X]
  have ek:t=k:=by
   have:=congrArg (fun l=>l[x]?) hk
   simp only[List.getElem?_map,Y,Z]at this
   simpa using this.symm
  subst ek
  have hv:=IY U Z
  refine wpAny_bind (wpAny_dictEntries n o ?_)
  rw[Array.getElem?_eq_getElem g]
  obtain⟨z,N⟩:=G.get? (i:=x) (e:=d[x]) (k:=t) (v:=u) (by rw[Array.getElem?_toList];exact Array.getElem?_eq_getElem g) Y
  obtain⟨k2,qA,hh⟩:=S d[x] (Array.getElem_mem g)
  have qB:k2=t:=knd.inj _ _ _ qA z
  rw[qB]at hh
  show wpAny _ _ (holding [d[x].key,d[x].val] _>>=_) _ _ _
  rw[hh]
  refine wpAny_bind (wpAny_holding (wpAny_bind (wpAny_dictFind_of z p r H ?_)))
  have c:findBy knd.is f t=valueAt m t:=by
   rw[<-C.find t]
   clear J C H r p
   obtain⟨l⟩:=f
   simp[findBy]
  cases hj:f.findIdx? fun e=>knd.is t e.key with
  |none=>
   rw[findBy_of_findIdx?,hj,hv]at c
   exact nomatch c
  |some j=>
   obtain⟨B,_,_⟩:=Array.findIdx?_eq_some_iff_getElem.mp hj
   have qC:f[j].val=v:=by
    rw[findBy_of_findIdx?,hj,hv]at c
    simpa[Array.getElem?_eq_getElem B]using c
   refine wpAny_bind (wpAny_dictEntries p r ?_)
   rw[Array.getElem?_eq_getElem B]
   refine wpAny_holding ?_
   rw[qC,N]
   refine he x t u v Y Z _ _ ?_
   show wpAny _ _ (if(!true)=true then _ else _) _ _ _
   rw[if_neg (by decide)]
   refine wpAny_bind (wpAny_dictEpoch n o ?_)
   rw[if_neg (by simp)]
   exact wpAny_pure ⟨rfl,rfl,x+1,D,g⟩
 ·rintro q V ⟨rfl,rfl,i,K,hi⟩
  exact wpAny_pure (wpAny_pure fin)
end
section
variable{X:Cx} [BY X.K] {pins:List (Addr×Obj)} {σ:St} {H:Hp} {s:Shared}
end
inductive qL {K:AGW} [BY K] (x y:V) (H:Hp) (Q:VK):Prop
 |mk (a b:Addr) (ks:List Str) (ts:List Pt) (c:x=.ref a) (e:y=.ref b) (f:Val H (.ref a) (.BX ks ts)) (g:Val H (.ref b) (.BX ks ts)) (d:(Pt.BX ks ts).deep<=60) (q:Q (.bl false) H):qL x y H Q
section
variable{prog:Program} {w:World} {A:Around} {s:Shared}
theorem Uc {c:Type} [DecidableEq c] {knd:PySem.KeyKind prog w c} {a b:Addr} {d:List (c×Value)} (q:(a==sysModules)=false) (r:(b==sysModules)=false) (e:s.heap.DictOf knd a d) (f:s.heap.DictOf knd b ([]:List (c×Value))) (t:A.units<cLine) (ne:d≠[]):∀(E:Value->Shared->Prop) (Q:Value->Shared->Prop),Q (.bool true) s->wpAny (model prog w) A (richCompare .NotEq (.ref a) (.ref b)) Q E s:=fun E Q h=>by
 refine wpAny_richCompare_same_room (op:=.NotEq) e.typeIs f.typeIs PySem.F.slot_dict_ne (wpAny_call_entry PySem.F.slot_dict_ne e.typeIs PySem.F.entry_dict_ne ?_ (PySem.F.args_dict_ne_2 _ _)) t
 show wpAny _ _ (Builtin.Dict.dictSlotArgs "__ne__" ⟨[.ref a,.ref b],[]⟩>>=_) _ _ s
 refine wpAny_bind ?_
 unfold Builtin.Dict.dictSlotArgs
 refine wpAny_bind (wpAny_notOrdered_dict e.typeIs ?_)
 show wpAny _ _ (pure (Value.ref a,Value.ref b)) _ _ s
 refine wpAny_pure ?_
 refine wpAny_bind (wpAny_isInstance (T:="dict") f.typeIs PySem.F.sub_dict_dict ?_)
 simp only[Bool.not_true,Bool.false_eq_true,if_false]
 refine wpAny_bind (wpAny_pure (wpAny_bind (wpAny_pure ?_)))
 obtain⟨D,u,G,g,_,i,v,j,y⟩:=e
 obtain⟨H,k,z,l,_,m,B,n,C⟩:=f
 have o:d.length=u.size:=by rw[<-j.length];exact Array.length_toList
 have p:([]:List (c×Value)).length=k.size:=by rw[<-n.length];exact Array.length_toList
 refine wpAny_bind ?_
 unfold Builtin.Dict.samePairs Builtin.Dict.showsAll
 rw[if_neg (show¬(a==sysModules)=true by rw[q];exact Bool.false_ne_true),if_neg (show¬(b==sysModules)=true by rw[r];exact Bool.false_ne_true)]
 refine wpAny_bind (wpAny_pure (wpAny_bind (wpAny_pure ?_)))
 refine wpAny_bind (wpAny_dictEntries g i ?_)
 dsimp only
 refine wpAny_bind (wpAny_dictEntries l m ?_)
 have I:0<d.length:=List.length_pos_iff.mpr ne
 rw[if_pos (by rw[<-o,<-p,List.length_nil];simp;lia)]
 refine wpAny_bind (wpAny_rule ?_)
 refine wpAny_pure ?_
 refine wpAny_pure ?_
 exact⟨_,rfl,(fun x=>nomatch x),h⟩
end
inductive Wy (x y:V) (H:Hp) (Q:VK):Prop
 |mk (a b:Addr) (kvs:List (Key×V)) (c:x=.ref a) (d:y=.ref b) (e:Rd H a (.dK kvs)) (f:H b=some (.dK [])) (q:Q (.bl (!kvs.isEmpty)) H):Wy x y H Q
theorem ZC {X:Cx} (C:X.A.units+64<cLine):EL X (compareOp .NotEq) Wy:=by
 intro pins s D H x y v u Q I n o h
 obtain⟨a,b,kvs,rfl,rfl,t,w,q⟩:=h
 cases n
 cases o
 obtain⟨z,l,E,c,m⟩:=Ea I.Be t
 obtain⟨F,d,B,f,i⟩:=Rm I.Be w
 cases f
 cases kvs with
 |nil=>
  cases c
  exact Ub l d m i rfl (by lia) (fun j k u v g _=>by simp at g) _ _ ⟨.bl false,H,I,rfl,q⟩
 |cons p r=>
  refine Uc l d m i (by lia) ?_ _ _ ⟨.bl true,H,I,rfl,q⟩
  intro e
  rw[e]at c
  cases c
namespace Pt
def Iz:Pt->Key->Option Pt
 | .lst xs,.inl i=>if 0<=i then xs[i.toNat]? else none
 | .BX ks xs,.inr k=>lk ks xs k
 |_,_=>none
def sub:Pt->List Key->Option Pt
 |t,[]=>some t
 |t,k::p=>(t.Iz k).bind fun u=>sub u p
theorem ZD {t u:Pt} {k:Key} (h:t.Iz k=some u):(∃xs,t=.lst xs/\u∈xs)∨∃ks xs,t=.BX ks xs/\u∈xs:=by
 cases t with
 |lst xs=>
  cases k with
  |inl i=>
   simp only[Iz]at h
   by_cases z:0<=i
   ·rw[if_pos z]at h;exact .inl ⟨xs,rfl,AGV h⟩
   ·rw[if_neg z]at h;cases h
  |inr x=>cases h
 |BX ks xs=>
  cases k with
  |inl i=>cases h
  |inr x=>exact .inr ⟨ks,xs,rfl,(Jx h).2⟩
 |int _=>cases k<;>cases h
 |str _=>cases k<;>cases h
 |bl _=>cases k<;>cases h
 |Av=>cases k<;>cases h
 |tup _=>cases k<;>cases h
theorem dR {t u:Pt} {k:Key} (d:t.doc) (h:t.Iz k=some u):u.doc/\u.size<t.size/\u.deep<t.deep:=by
 rcases ZD h with⟨a,rfl,m⟩|⟨b,a,rfl,m⟩
 ·simp only[doc]at d
  have:=Cm m
  have:=BI m
  simp only[size,deep]
  exact⟨DV d u m,by lia,by lia⟩
 ·simp only[doc]at d
  have:=Cm m
  have:=BI m
  simp only[size,deep]
  exact⟨DV d.2.2.2.2 u m,by lia,by lia⟩
end Pt
namespace Ak
def De:Ak->Key->Option Ak
 |As d,k=>(d.Iz k).map As
 |row xs _,.inl i=>if 0<=i then xs[i.toNat]? else none
 |tab ks xs _ _,.inr k=>lk ks xs k
 |_,_=>none
def sub:Ak->List Key->Option Ak
 |a,[]=>some a
 |a,k::p=>(a.De k).bind fun b=>sub b p
theorem DF {r:List Key}:∀{p:List Key} {a:Ak},a.sub (p++r)=(a.sub p).bind fun b=>b.sub r
 |[],a=>rfl
 |k::p,a=>by
  simp only[List.cons_append,sub]
  cases a.De k with
  |none=>rfl
  |some b=>exact DF (p:=p) (a:=b)
theorem Wz {a b:Ak} {k:Key} (o:a.CF) (s:a.GU) (h:a.De k=some b):b.CF/\b.GU/\b.wt<a.wt/\b.dp<a.dp:=by
 cases a with
 |any=>cases k<;>cases h
 |As d=>
  simp only[De,Option.map_eq_some_iff]at h
  obtain⟨u,f,rfl⟩:=h
  simp only[CF]at o
  obtain⟨g,j,l⟩:=Pt.dR o f
  exact⟨g,trivial,j,l⟩
 |row e m=>
  cases k with
  |inr x=>cases h
  |inl i=>
   simp only[De]at h
   by_cases z:0<=i
   ·rw[if_pos z]at h
    have c:=AGV h
    simp only[CF]at o
    simp only[GU]at s
    have:=Gz c
    have:=M_ c
    simp only[wt,dp]
    exact⟨CS o b c,Fb s b c,by lia,by lia⟩
   ·rw[if_neg z]at h;cases h
 |tab n e p m=>
  cases k with
  |inl i=>cases h
  |inr x=>
   have c:=(Jx (show lk n e x=some b from h)).2
   simp only[CF]at o
   simp only[GU]at s
   have:=Gz c
   have:=M_ c
   simp only[wt,dp]
   exact⟨CS o.2.2.2.2.2.2 b c,Fb s.2 b c,by lia,by lia⟩
theorem KY:∀{p:List Key} {a b:Ak},a.CF->a.GU->a.sub p=some b->b.CF/\b.GU/\b.wt<=a.wt/\p.length+b.dp<=a.dp
 |[],a,b,o,s,h=>by cases h;exact⟨o,s,Nat.le_refl _,by simp⟩
 |k::p,a,b,o,s,h=>by
  simp only[sub]at h
  cases d:a.De k with
  |none=>rw[d]at h;cases h
  |some c=>
   rw[d]at h
   obtain⟨e,f,j,h4⟩:=Wz o s d
   obtain⟨g,i,l,m⟩:=KY e f h
   simp only[List.length_cons]
   exact⟨g,i,by lia,by lia⟩
def nK (n:Nat):List Key:=(List.range n).map fun(j:Nat)=>Sum.inl (j:Int)
theorem W_ {p:List Key} {a b:Ak} {k:Key} {i:Nat} (h:a.sub (p.take i)=some b) (e:p[i]?=some k):a.sub (p.take (i+1))=b.De k:=by
 rw[List.take_add_one,e,DF,h]
 show(b.sub [k])=_
 simp only[sub]
 cases b.De k<;>rfl
theorem ZE {p:List Key} {a:Ak} {i:Nat} (h:a.sub (p.take i)=none):a.sub p=none:=by
 rw[<-List.take_append_drop i p,DF,h];rfl
theorem ZF {xs:List Ak} {m:Bool} {k:Key}:(Pt.lst (CY xs)).Iz k=((row xs m).De k).map pt:=by
 cases k with
 |inr x=>rfl
 |inl i=>
  simp only[Pt.Iz,De,AZ]
  split
  ·rw[List.getElem?_map]
  ·rfl
theorem ZH {ks ls:List Str} {xs:List Ak} {m:Bool} {k:Key}:(Pt.BX ks (CY xs)).Iz k=((tab ks xs ls m).De k).map pt:=by
 cases k with
 |inl i=>rfl
 |inr x=>simp only[Pt.Iz,De,AZ,GQ]
structure Kid (a:Ak) (ks:List Key) (bs:List Ak):Prop where
 e:ks.map a.De=bs.map some
 w:1+E_ bs<=a.wt
 c:∀k b,a.De k=some b->k∈ks
 n:∀i:Int,Sum.inl i∈ks->i<(ks.length:Int)
 h:(∃n:Nat,ks=nK n)∨∃ss:List Str,ks=ss.map Sum.inr
theorem GV:∀{a b:List Ak},E_ (a++b)=E_ a+E_ b
 |[],b=>by simp only[List.nil_append,E_];lia
 |x::r,b=>by simp only[List.cons_append,E_,GV (a:=r)];lia
theorem HH {bs:List Ak} {i:Nat} {b:Ak} (h:bs[i]?=some b):E_ (bs.take (i+1))=E_ (bs.take i)+b.wt/\E_ (bs.take (i+1))<=E_ bs:=by
 constructor
 ·rw[List.take_add_one,h,GV]
  simp only[Option.toList,E_]
  lia
 ·conv=>rhs;rw[<-List.take_append_drop (i+1) bs,GV]
  lia
theorem KZ:∀{xs:List Pt},E_ (xs.map As)=Pt.AL xs
 |[]=>rfl
 |x::r=>by simp only[List.map_cons,E_,wt,Pt.AL,KZ (xs:=r)]
end Ak
inductive Ib (x:V) (y:V) (H:Hp) (Q:VK):Prop
 |mk (a:_) (b:_) (xs:_) (ys:_) (c:x=.ref a) (d:y=.ref b) (e:H a=some (.tup xs)) (f:H b=some (.tup ys)) (g:xs.length+ys.length<=sizeLine) (h:∀p H',AE H H'->H' p=some (.tup (xs++ys))->((ys=[]/\p=a)∨p=b∨H p=none)->Q (.ref p) H'):Ib x y H Q
theorem CK {X:Cx}:EL X (binaryOp .Add) Ib:=by
 intro pins s E H x y v u Q I r t h
 obtain⟨a,b,w,G,rfl,rfl,j,k,J,q⟩:=h
 by_cases l:w=[]
 ·cases r
  cases t
  obtain⟨c,K,L,_⟩:=I.tuple (Bf.of j)
  obtain⟨d,T,M,_⟩:=I.tuple (Bf.of k)
  obtain⟨⟨N,O,data,P⟩,z,A,n,B⟩:=id L
  obtain⟨⟨C,m,data2,o⟩,f,g,R,i⟩:=id M
  simp only at A B g i
  subst A B g i
  have S:c=[]:=K.JB.mpr l
  refine concat_meets ⟨_,z,rfl⟩ ⟨_,f,rfl⟩ noFill_tuple_add seq_tuple_add PySem.F.slot_tuple_add PySem.F.entry_tuple_add (PySem.F.args_tuple_add_2 _ _)
   (tuple_addW0 a b c.toArray d.toArray n R O m P o (by simp[S])) ⟨z,f,?_⟩
  refine⟨.ref b,H,I.tok s.toks,rfl,q b H (AE.refl H) ?_ (.inr (.inl rfl))⟩
  rw[l]
  exact k
 ·refine YM pins s E H (.ref a) (.ref b) v u Q I r t ⟨a,b,w,G,rfl,rfl,Bf.of j,Bf.of k,l,J,fun e=>?_,fun e p D=>q p _ (AE.new D) AF (.inr (.inr D))⟩
  refine q a H (AE.refl H) ?_ (.inl ⟨e,rfl⟩)
  rw[e,List.append_nil]
  exact j
namespace Ak
def LP (xs:List Ak) (us:List Pt):Prop:=∀(j:Nat) x y,xs[j]?=some x->us[j]?=some y->lets x y=true
structure LT (ks:List Str) (xs:List Ak) (ls:List Str) (m:Bool) (ns:List Str) (us:List Pt):Prop where
 a:∀k∈ls,k∉ns
 l:ns.length=ks.length∨(m=true/\ks.length<ns.length)
 e:∀k x,lk ks xs k=some x->∃y,lk ns us k=some y/\lets x y=true
end Ak
section
variable{K:AGW} [BY K]
def Ka (H:Hp) (p:Addr) (ks:List Key):Prop:=H p=some (.tup (ks.map kV))
theorem Ka.up {H H':Hp} {p:Addr} {ks:List Key} (h:Ka H p ks) (s:AE H H'):Ka H' p ks:=s _ _ h
inductive dS (H:Hp) (v:V) (k:Key) (w:V):Prop
 |pl (a:Addr) (xs:List V) (j:Nat) (b:v=.ref a) (c:Rd H a (.lst xs)) (e:kV k=.int (j:Int)) (d:xs[j]?=some w):dS H v k w
 |nm (a:Addr) (kvs:List (Key×V)) (b:v=.ref a) (c:Rd H a (.dK kvs)) (d:BM kvs k=some w):dS H v k w
theorem Val.dU {H:Hp} {v:V} {t u:Pt} {k:Key} (h:Val H v t) (e:t.Iz k=some u):∃w,Val H w u/\dS H v k w:=by
 cases t with
 |lst f=>
  cases k with
  |inr x=>cases e
  |inl i=>
   simp only[Pt.Iz]at e
   by_cases z:0<=i
   ·rw[if_pos z]at e
    obtain⟨a,c,rfl,b,r⟩:=h.Mq
    obtain⟨w,hw⟩:∃w,c[i.toNat]?=some w:=⟨_,AGS (by have:=(AGT e).1;have:=r.length;lia)⟩
    obtain⟨n,d,g⟩:=r.get hw
    rw[e]at d
    cases d
    exact⟨w,g,.pl a c i.toNat rfl b (by show V.int i=_;rw[Int.toNat_of_nonneg z]) hw⟩
   ·rw[if_neg z]at e;cases e
 |BX o f=>
  cases k with
  |inl i=>cases e
  |inr x=>
   obtain⟨a,kvs,rfl,b,j,r⟩:=h.Qi
   rcases Val.Ex j r x with⟨w,l,k1,k2,m⟩|⟨_,k2⟩
   ·have:l=u:=AGU (k2.symm.trans e)
    subst this
    exact⟨w,m,.nm a kvs rfl b k1⟩
   ·exact absurd (k2.symm.trans e) (fun z=>nomatch z)
 |int _=>cases k<;>cases e
 |str _=>cases k<;>cases e
 |bl _=>cases k<;>cases e
 |Av=>cases k<;>cases e
 |tup _=>cases k<;>cases e
inductive L_ (vs:List V) (H:Hp) (Q:VK):Prop
 |mk (v:V) (t:Pt) (k:Key) (a:vs=[v,kV k]) (b:Val H v t) (c:Dz t) (d:Q (.bl (t.Iz k).isSome) H):L_ vs H Q
def Kb:Sp:=fun a H Q _=>L_ a H Q
inductive Ud (vs:List V) (H:Hp) (Q:VK):Prop
 |mk (v:V) (a:Ak) (p:Addr) (ks:List Key) (c:vs=[v,.ref p]) (d:Val H v a.pt) (e:a.CF) (f:a.GU) (g:a.wt<=900) (h:Ka H p ks) (i:∀w b H',a.sub ks=some b->AE H H'->Val H' w b.pt->Q w H') (j:a.sub ks=none->∀H',AE H H'->Q .Av H'):Ud vs H Q
inductive Ue (vs:List V) (H:Hp) (Q:VK):Prop
 |mk (v:V) (a:Ak) (p:Addr) (ks:List Key) (c:vs=[v,.ref p]) (d:Val H v a.pt) (e:a.CF) (f:a.GU) (h:a.wt<=900) (i:Ka H p ks) (j:∀b w g H',a.sub ks=some b->AE H H'->Val (nw H H') w g.pt->Ak.Good b g->Q w H') (k:a.sub ks=none->∀H',AE H H'->Q .Av H'):Ue vs H Q
inductive W' (vs:List V) (H:Hp) (Q:VK):Prop
 |mk (G:Hp) (v:V) (a b:Ak) (k:Key) (c:vs=[v,kV k]) (s:AE G H) (d:Val G v a.pt) (e:a.CF) (f:a.De k=some b) (g:∀w H',AE H H'->Val (ov G H H') w b.pt->Q w H'):W' vs H Q
inductive Ug (vs:List V) (H:Hp) (Q:VK):Prop
 |mk (v:V) (a:Ak) (b:vs=[v]) (c:Val H v a.pt) (d:a.CF) (e:a.wt<=900) (f:∀(p:Addr) (ks:List Key) (bs:List Ak) (H':Hp),AE H H'->H p=none->H' p=some (.lst (ks.map kV))->Ak.Kid a ks bs->Q (.ref p) H'):Ug vs H Q
inductive U' (H:Hp) (a:Ak) (ks:List Key) (w:V):Prop
 |mk (t p:Addr) (u:V) (r:List Key) (b:Ak) (c:w=.ref t) (d:H t=some (.tup [.ref p,u])) (e:Ka H p (ks++r)) (f:a.sub r=some b) (g:Val H u b.pt):U' H a ks w
theorem U'.up {H H':Hp} {a:Ak} {ks:List Key} {w:V} (h:U' (K:=K) H a ks w) (s:AE H H'):U' (K:=K) H' a ks w:=by
 obtain⟨t,p,u,r,b,c,d,e,f,g⟩:=h
 exact⟨t,p,u,r,b,c,s _ _ d,e.up s,f,g.up s⟩
theorem U'.into {H:Hp} {a b:Ak} {ks:List Key} {k:Key} {w:V} (h:U' (K:=K) H b (ks++[k]) w) (e:a.De k=some b):U' (K:=K) H a ks w:=by
 obtain⟨t,p,u,r,c,f,g,d,i,j⟩:=h
 exact⟨t,p,u,k::r,c,f,g,by rw[List.append_assoc]at d;exact d,by simp only[Ak.sub];rw[e];exact i,j⟩
theorem GC {G H H':Hp} (s:AE G H) {b:Addr} (h:H b=none):ov G H H' b=H' b:=by
 unfold ov
 rw[s.free h,BB h]
theorem dV {G H a H':Hp} {D:Addr} (l:AE G H) (s:AE H a) (j:AE a H') (k:a D≠none):AE (ov (JJ D (ov G H a)) a H') (JJ D (ov G H H')):=fun b o e=>by
 by_cases d:b=D
 ·subst d
  unfold ov at e
  unfold JJ at e
  rw[if_pos rfl]at e
  cases h:a b with
  |none=>exact absurd h k
  |some z=>simp only at e;rw[FY h]at e;cases e
 ·rw[FZ d]
  unfold ov at e
  rw[FZ d]at e
  unfold ov
  cases g:G b with
  |some z=>rw[g]at e;exact e
  |none=>
   rw[g]at e
   simp only at e⊢
   cases c:nw H a b with
   |some z=>
    rw[c]at e
    cases i:H b with
    |some y=>rw[FY i]at c;cases c
    |none=>rw[BB i]at c⊢;cases e;exact j _ _ c
   |none=>
    rw[c]at e
    simp only at e
    cases f:a b with
    |some y=>rw[FY f]at e;cases e
    |none=>rw[BB f]at e;rw[BB (s.free f)];exact e
theorem ND {G H a H':Hp} (s:AE a H'):AE (ov G H a) (ov G H H'):=fun b o e=>by
 unfold ov at e⊢
 cases c:G b with
 |some z=>rw[c]at e;exact e
 |none=>
  rw[c]at e
  simp only at e⊢
  cases d:H b with
  |some y=>rw[FY d]at e;cases e
  |none=>rw[BB d]at e⊢;exact s _ _ e
theorem Kc {D:Addr} {H H':Hp} (s:AE H H'):AE (JJ D H) (JJ D H'):=fun b o e=>by
 by_cases a:b=D
 ·subst a;unfold JJ at e;rw[if_pos rfl]at e;cases e
 ·rw[FZ a]at e⊢;exact s _ _ e
theorem SY {G H H':Hp} {D:Addr} {o:HO}:AE (JJ D (ov G H H')) (JJ D (ov G H (upd H' D o))):=fun b u e=>by
 by_cases a:b=D
 ·subst a;unfold JJ at e;rw[if_pos rfl]at e;cases e
 ·rw[FZ a]at e⊢
  unfold ov at e⊢
  cases c:G b with
  |some z=>rw[c]at e;exact e
  |none=>
   rw[c]at e
   simp only at e⊢
   cases d:H b with
   |some y=>rw[FY d]at e;cases e
   |none=>rw[BB d]at e⊢;rw[AJ a];exact e
inductive ZI (n:Nat) (vs:List V) (H:Hp) (Q:VK):Prop
 |mk (G:Hp) (v:V) (a:Ak) (p:Addr) (ks:List Key) (b:vs=[v,.ref p]) (s:AE G H) (c:Val G v a.pt) (d:a.CF) (e:a.GU) (f:a.wt<=900) (g:Ka G p ks) (h:ks.length+a.dp<=100) (i:a.dp+3<=n) (j:∀(D:Addr) (ws:List V) (H':Hp),AE H H'->H D=none->H' D=some (.lst ws)->ws.length<=a.wt->(∀w∈ws,U' (K:=K) (ov G H H') a ks w)->Q (.ref D) H'):ZI n vs H Q
inductive Uh (vs:List V) (H:Hp) (Q:VK):Prop
 |mk (v:V) (a:Ak) (nm:Addr) (ys:List Str) (b:vs=[v,.ref nm]) (c:Val H v a.pt) (d:a.CF) (e:a.wt<=900) (f:Qk H nm ys) (g:∀(D:Addr) (ks:List Key) (H':Hp),AE H H'->H' D=some (.lst (ks.map kV))->ks.length<=10->(∀k∈ks,a.De k=none)->Q (.ref D) H'):Uh vs H Q
inductive XA (vs:List V) (H:Hp) (Q:VK):Prop
 |mk (v:V) (t u:Pt) (p:Addr) (ks:List Key) (a:vs=[v,.ref p]) (b:Val H v t) (c:Ka H p ks) (d:t.sub ks=some u) (e:∀w,Val H w u->Q w H):XA vs H Q
end
inductive AM where
 |Ic (p:List Key)
 |Kw (d:Pt)
 |row (xs:List AM) (t:Option (List Key))
 |tab (ks:List Str) (xs:List AM) (t:Option (List Key))
def jH:Key->Pt
 | .inl i=>.int i
 | .inr x=>.str x
def GF (ks:List Key):Pt:=.tup (ks.map jH)
def GW:Option (List Key)->Pt
 |none=>.Av
 |some ks=>GF ks
namespace AM
mutual
def pt:AM->Pt
 |Ic p=>.tup [.str "from",GF p]
 |Kw d=>.tup [.str "just",d]
 |row xs t=>.tup [.str "row",.lst (CY xs),GW t]
 |tab ks xs t=>.tup [.str "table",.BX ks (CY xs),GW t]
def CY:List AM->List Pt
 |[]=>[]
 |x::r=>pt x::CY r
end
theorem AZ:∀xs:List AM,CY xs=xs.map pt
 |[]=>rfl
 |x::r=>by simp only[CY,List.map_cons,AZ r]
mutual
def size:AM->Nat
 |Ic _=>1
 |Kw _=>1
 |row xs _=>1+AL xs
 |tab _ xs _=>1+AL xs
def AL:List AM->Nat
 |[]=>0
 |x::r=>size x+AL r
end
mutual
def deep:AM->Nat
 |Ic _=>1
 |Kw _=>1
 |row xs _=>1+AW xs
 |tab _ xs _=>1+AW xs
def AW:List AM->Nat
 |[]=>0
 |x::r=>max (deep x) (AW r)
end
def gP:Option (List Key)->Prop
 |none=>True
 |some p=>p.length<=200
mutual
def ok:AM->Prop
 |Ic p=>p.length<=200
 |Kw d=>d.doc/\d.size<=900/\d.deep<=30
 |row xs t=>xs.length<=900/\gP t/\DD xs
 |tab ks xs t=>ks.length=xs.length/\ks.Nodup/\ks.length<64/\gP t/\DD xs
def DD:List AM->Prop
 |[]=>True
 |x::r=>ok x/\DD r
end
def Ke (A:Ak) (p:List Key):Bool:=match A.sub p with
 |some (.row _ m)=>m
 |_=>false
def DB (ks ls:List Str) (n:Str):Bool:=decide (n∈ks)||decide (n∈ls)
def HI (A:Ak) (a:List Str) (p:List Key):Bool:=match A.sub p with
 |some (.tab b _ c m)=>m&&a.all (DB b c)
 |_=>false
def one (A:Ak):AM->Bool
 |Ic p=>(A.sub p).isSome
 |Kw _=>true
 |row _ none=>true
 |row _ (some p)=>Ke A p
 |tab _ _ none=>true
 |tab ks _ (some p)=>HI A ks p
mutual
def good (A:Ak):AM->Bool
 |Ic p=>(A.sub p).isSome
 |Kw _=>true
 |row xs t=>one A (row [] t)&&EK A xs
 |tab ks xs t=>one A (tab ks [] t)&&EK A xs
def EK (A:Ak):List AM->Bool
 |[]=>true
 |x::r=>good A x&&EK A r
end
def kids:AM->List AM
 |row xs _=>xs
 |tab _ xs _=>xs
 |_=>[]
theorem Bc (A:Ak):∀xs:List AM,EK A xs=xs.all (good A)
 |[]=>rfl
 |x::r=>by simp only[EK,List.all_cons,Bc A r]
theorem ZJ (A:Ak) (m:AM):good A m=(one A m&&m.kids.all (good A)):=by
 cases m with
 |Ic p=>simp[good,one,kids]
 |Kw d=>simp[good,one,kids]
 |row a t=>
  simp only[good,kids,Bc]
  cases t<;>rfl
 |tab b a t=>
  simp only[good,kids,Bc]
  cases t<;>rfl
theorem Bx:∀{xs:List AM},DD xs->∀x∈xs,ok x
 |y::r,h,x,a=>by
  simp only[DD]at h
  rcases List.mem_cons.mp a with rfl|a
  ·exact h.1
  ·exact Bx h.2 x a
theorem ES:∀{xs:List AM},(∀x∈xs,ok x)->DD xs
 |[],_=>trivial
 |x::r,h=>⟨h x List.mem_cons_self,ES fun y a=>h y (List.mem_cons_of_mem _ a)⟩
theorem CQ {a b:List AM} (h:DD a) (g:DD b):DD (a++b):=ES fun x c=>(List.mem_append.mp c).elim (Bx h x) (Bx g x)
theorem ZK {m:AM} (o:m.ok):DD m.kids:=by
 cases m with
 |Ic p=>trivial
 |Kw d=>trivial
 |row a t=>simp only[ok]at o;exact o.2.2
 |tab b a t=>simp only[ok]at o;exact o.2.2.2.2
theorem size_pos (m:AM):1<=m.size:=by cases m<;>simp only[size]<;>lia
theorem FW (m:AM):1<=m.deep:=by cases m<;>simp only[deep]<;>lia
theorem Am (xs ys:List AM):AL (xs++ys)=AL xs+AL ys:=by
 induction xs with
 |nil=>simp[AL]
 |cons x r a=>simp only[List.cons_append,AL,a];lia
theorem Bi (a b:List AM):AW (a++b)=max (AW a) (AW b):=by
 induction a with
 |nil=>simp[AW]
 |cons x r c=>simp only[List.cons_append,AW,c];lia
theorem Cf (a b:List AM):CY (a++b)=CY a++CY b:=by rw[AZ,AZ,AZ,List.map_append]
theorem Cm:∀{xs:List AM} {x:AM},x∈xs->x.size<=AL xs
 |y::r,x,h=>by
  simp only[AL]
  rcases List.mem_cons.mp h with rfl|h
  ·lia
  ·have:=Cm h;lia
theorem BI:∀{xs:List AM} {x:AM},x∈xs->x.deep<=AW xs
 |y::r,x,h=>by
  simp only[AW]
  rcases List.mem_cons.mp h with rfl|h
  ·lia
  ·have:=BI h;lia
theorem HJ {n:Nat}:∀{us:List AM},(∀u∈us,u.deep<=n)->AW us<=n
 |[],_=>by simp[AW]
 |x::r,h=>by
  have b:=h x List.mem_cons_self
  have c:=HJ (us:=r) fun y a=>h y (List.mem_cons_of_mem _ a)
  simp only[AW];lia
mutual
theorem nd:∀m:AM,m.ok->Ou m.size m.pt
 |Ic p,_=>.leaf (by decide) (by decide)
 |Kw d,_=>.leaf (by decide) (by decide)
 |row xs t,o=>by
  simp only[ok]at o
  simp only[size,pt]
  rw[Nat.add_comm]
  exact .row (by rw[AZ,List.length_map];exact o.1) (dD xs o.2.2)
 |tab ks xs t,o=>by
  simp only[ok]at o
  simp only[size,pt]
  rw[Nat.add_comm]
  exact .tab (by rw[AZ,List.length_map];exact o.1) o.2.1 o.2.2.1 (dD xs o.2.2.2.2)
theorem dD:∀xs:List AM,DD xs->ET (AL xs) (CY xs)
 |[],_=>.nil
 |x::r,o=>by
  simp only[DD]at o
  exact .cons (nd x o.1) (dD r o.2)
end
theorem SN {m:AM} {us:List Pt} (o:m.ok) (k:H_ m.pt.hold us):∃ms:List AM,us=ms.map pt/\ms.Perm m.kids:=by
 cases m with
 |Ic p=>
  have e:(AM.Ic p).pt.hold=.lst []:=by simp only[pt,Pt.hold];exact if_neg (by decide)
  rw[e]at k
  exact⟨[],show us=[]from k,.refl _⟩
 |Kw d=>
  have e:(AM.Kw d).pt.hold=.lst []:=by simp only[pt,Pt.hold];exact if_neg (by decide)
  rw[e]at k
  exact⟨[],show us=[]from k,.refl _⟩
 |row xs t=>exact⟨xs,by rw[<-AZ];exact k,.refl _⟩
 |tab b xs t=>
  simp only[ok]at o
  obtain⟨a,c,i,e⟩:=(show∃a:List Str,a.Perm b/\sortedS a=true/\a.map (lk b (CY xs))=us.map some from k)
  obtain⟨g,f⟩:=Jz (xs:=xs) o.1 fun k h=>c.mem_iff.mp h
  refine⟨g,?_,(DO o.1 o.2.1 c f)⟩
  refine some_inj (e.symm.trans ?_)
  rw[AZ,List.map_map]
  have:a.map (lk b (xs.map pt))=(a.map (lk b xs)).map (Option.map pt):=by
   rw[List.map_map]
   exact List.map_congr_left fun k _=>GQ pt
  rw[this,f,List.map_map]
  rfl
theorem XB {p:AM->Bool} {xs ys:List AM} (h:xs.Perm ys):xs.all p=ys.all p:=by
 rw[Bool.eq_iff_iff,List.all_eq_true,List.all_eq_true]
 exact⟨fun a x b=>a x (h.mem_iff.mpr b),fun a x b=>a x (h.mem_iff.mp b)⟩
theorem PK {A:Ak} {m:AM} (o:m.ok):∀{n:Nat} {l:List Pt} {f:List (List Pt)},Qx m.pt n l f->∃ms:List AM,l=ms.map pt/\DD ms/\good A m=((ms.take n).all (one A)&&(ms.drop n).all (good A))
 |_,_,_,.start=>⟨[m],rfl,⟨o,trivial⟩,by simp⟩
 |_,_,_,.next (n:=n) (us:=us) b c k=>by
  obtain⟨ms,rfl,g,e⟩:=PK o b
  rw[List.getElem?_map]at c
  cases a:ms[n]? with
  |none=>rw[a]at c;cases c
  |some x=>
   rw[a]at c
   cases c
   have d:=(AGT a).1
   have h:=Bx g x (AGV a)
   obtain⟨i,rfl,j⟩:=SN h k
   refine⟨ms++i,by rw[List.map_append],CQ g (ES fun y p=>Bx (ZK h) y (j.mem_iff.mp p)),?_⟩
   rw[e,List.drop_eq_getElem_cons d,List.all_cons]
   have q:ms[n]=x:=by rw[AGS d]at a;exact AGU a
   rw[q,ZJ A x,<-XB j,List.take_append_of_le_length d,List.drop_append_of_le_length d,List.take_add_one,a,List.all_append,List.all_append]
   simp only[Option.toList_some,List.all_cons,List.all_nil,Bool.and_true]
   cases(ms.take n).all (one A)<;>cases one A x<;>cases i.all (good A)<;>cases(ms.drop (n+1)).all (good A)<;>rfl
end AM
def Ak.opn:Ak->Bool
 | .row _ m=>m
 | .tab _ _ _ m=>m
 |_=>false
def AM.XC:Option Ak->AM->Bool
 |some (.row _ m),.row _ _=>m
 |some (.tab ks _ ls m),.tab a _ _=>m&&a.all (DB ks ls)
 |_,_=>false
theorem AM.ZL (A:Ak) (xs:List AM) (p:List Key):one A (.row xs (some p))=XC (A.sub p) (.row xs (some p)):=by
 show Ke A p=_
 unfold Ke
 cases A.sub p with
 |none=>rfl
 |some b=>cases b<;>rfl
theorem AM.ZM (A:Ak) (a:List Str) (xs:List AM) (p:List Key):one A (.tab a xs (some p))=XC (A.sub p) (.tab a xs (some p)):=by
 show HI A a p=_
 unfold HI
 cases A.sub p with
 |none=>rfl
 |some b=>cases b<;>rfl
section
variable{K:AGW} [BY K]
theorem IG {H:Hp}:∀{ks:List Key} {vs:List V},Aj H vs (ks.map jH)->vs=ks.map kV
 |[],_,h=>h.Mr
 | .inl i::r,_,h=>by
  obtain⟨v,vs,rfl,a,b⟩:=h.CW
  cases a
  rw[IG b]
  rfl
 | .inr x::r,_,h=>by
  obtain⟨v,vs,rfl,a,b⟩:=h.CW
  cases a
  rw[IG b]
  rfl
theorem IH {H:Hp}:∀ks:List Key,Aj (K:=K) H (ks.map kV) (ks.map jH)
 |[]=>.nil
 | .inl i::r=>.cons (.int i) (IH r)
 | .inr x::r=>.cons (.str x) (IH r)
theorem Val.path {H:Hp} {v:V} {ks:List Key} (h:Val H v (GF ks)):∃p,v=.ref p/\Bf K H p (ks.map kV):=by
 obtain⟨p,c,rfl,a,b⟩:=Val.tupI h
 rw[IG b]at a
 exact⟨p,rfl,a⟩
theorem CU {H:Hp} {p:Addr} {ks:List Key} (h:Bf K H p (ks.map kV)):Val H (.ref p) (GF ks):=.tup h (IH ks)
theorem Val.jI {H:Hp} {v:V} {m:AM} (h:Val H v m.pt):∃(t:Addr) (w:Str) (rest:List V),v=.ref t/\Bf K H t (.str w::rest)/\
  ((∃p u,m=.Ic p/\w="from"/\rest=[u]/\Val H u (GF p))∨(∃d u,m=.Kw d/\w="just"/\rest=[u]/\Val H u d)∨(∃xs o u z,m=.row xs o/\w="row"/\rest=[u,z]/\Val H u (.lst (AM.CY xs))/\Val H z (GW o))∨
   ∃ks xs o u z,m=.tab ks xs o/\w="table"/\rest=[u,z]/\Val H u (.BX ks (AM.CY xs))/\Val H z (GW o)):=by
 cases m with
 |Ic p=>
  obtain⟨t,f,rfl,g,e⟩:=Val.tupI (show Val H v (.tup [.str "from",GF p])from h)
  obtain⟨a,f,rfl,i,e⟩:=e.CW
  obtain⟨b,f,rfl,j,e⟩:=e.CW
  rw[e.Mr,i.Oh]at g
  exact⟨t,_,_,rfl,g,.inl ⟨p,b,rfl,rfl,rfl,j⟩⟩
 |Kw p=>
  obtain⟨t,f,rfl,g,e⟩:=Val.tupI (show Val H v (.tup [.str "just",p])from h)
  obtain⟨a,f,rfl,i,e⟩:=e.CW
  obtain⟨b,f,rfl,j,e⟩:=e.CW
  rw[e.Mr,i.Oh]at g
  exact⟨t,_,_,rfl,g,.inr (.inl ⟨p,b,rfl,rfl,rfl,j⟩)⟩
 |row xs o=>
  obtain⟨t,f,rfl,g,e⟩:=Val.tupI (show Val H v (.tup [.str "row",.lst (AM.CY xs),GW o])from h)
  obtain⟨a,f,rfl,i,e⟩:=e.CW
  obtain⟨b,f,rfl,j,e⟩:=e.CW
  obtain⟨c,f,rfl,k,e⟩:=e.CW
  rw[e.Mr,i.Oh]at g
  exact⟨t,_,_,rfl,g,.inr (.inr (.inl ⟨xs,o,b,c,rfl,rfl,rfl,j,k⟩))⟩
 |tab ks xs o=>
  obtain⟨t,f,rfl,g,e⟩:=Val.tupI (show Val H v (.tup [.str "table",.BX ks (AM.CY xs),GW o])from h)
  obtain⟨a,f,rfl,i,e⟩:=e.CW
  obtain⟨b,f,rfl,j,e⟩:=e.CW
  obtain⟨c,f,rfl,k,e⟩:=e.CW
  rw[e.Mr,i.Oh]at g
  exact⟨t,_,_,rfl,g,.inr (.inr (.inr ⟨ks,xs,o,b,c,rfl,rfl,rfl,j,k⟩))⟩
inductive L' (vs:List V) (H:Hp) (Q:VK):Prop
 |mk (v:V) (a:Ak) (p:Addr) (ks:List Key) (c:vs=[v,.ref p]) (d:Val H v a.pt) (e:a.CF) (f:a.GU) (g:a.wt<=900) (h:Bf K H p (ks.map kV)) (i:∀w b H',a.sub ks=some b->AE H H'->Val H' w b.pt->Q w H') (j:a.sub ks=none->∀H',AE H H'->Q .Av H'):L' vs H Q
def PL:Sp:=fun a H Q _=>L' (K:=K) a H Q
inductive Sd (vs:List V) (H:Hp) (Q:VK):Prop
 |mk (v:V) (b:Ak) (a:vs=[v]) (c:Val H v b.pt) (d:∀H',AE H H'->Q (.bl b.opn) H'):Sd vs H Q
def XD:Sp:=fun a H Q _=>Sd (K:=K) a H Q
inductive PM (vs:List V) (H:Hp) (Q:VK):Prop
 |mk (v:V) (ks:List Str) (xs:List Ak) (ls:List Str) (m:Bool) (n:Str) (a:vs=[v,.str n]) (b:Val H v (Ak.tab ks xs ls m).pt) (c:(Ak.tab ks xs ls m).CF) (d:Q (.bl (AM.DB ks ls n)) H):PM vs H Q
def Sh:Sp:=fun a H Q _=>PM (K:=K) a H Q
inductive Si (vs:List V) (H:Hp) (Q:VK):Prop
 |mk (v f:V) (m:AM) (a:Option Ak) (c:vs=[v,f]) (d:Val H v m.pt) (e:m.ok) (g:(∃xs o,m=.row xs o)∨∃ks xs o,m=.tab ks xs o) (h:(a=none/\f=.Av)∨∃b,a=some b/\Val H f b.pt/\b.CF) (i:∀H',AE H H'->Q (.bl (AM.XC a m)) H'):Si vs H Q
def XE:Sp:=fun a H Q _=>Si (K:=K) a H Q
inductive Sj (vs:List V) (H:Hp) (Q:VK):Prop
 |mk (v u:V) (m:AM) (a:Ak) (b:vs=[v,u]) (c:Val H v m.pt) (d:m.ok) (e:Val H u a.pt) (f:a.CF) (g:a.GU) (h:a.wt<=900) (i:∀H',AE H H'->Q (.bl (AM.one a m)) H'):Sj vs H Q
def XF:Sp:=fun a H Q _=>Sj (K:=K) a H Q
inductive PN (vs:List V) (H:Hp) (Q:VK):Prop
 |mk (v u:V) (m:AM) (a:Ak) (b:vs=[v,u]) (c:Val H v m.pt) (d:m.ok) (z:m.size<=20000) (e:Val H u a.pt) (f:a.CF) (g:a.GU) (h:a.wt<=900) (i:∀H',AE H H'->Q (.bl (AM.good a m)) H'):PN vs H Q
def Sl:Sp:=fun a H Q _=>PN (K:=K) a H Q
end
section
variable{K:AGW} [BY K]
inductive PQ (n:Nat) (vs:List V) (H:Hp) (Q:VK):Prop
 |mk (G:Hp) (v:V) (a:Ak) (p:Addr) (ks:List Key) (b:vs=[v,.ref p]) (s:AE G H) (c:Val G v a.pt) (d:a.CF) (e:a.GU) (f:a.wt<=900) (g:Ka G p ks) (h:ks.length+a.dp<=100) (i:a.dp+3<=n) (j:∀(D:Addr) (ws:List V) (H':Hp),AE H H'->H D=none->H' D=some (.lst ws)->ws≠[]->ws.length<=a.wt->(∀w∈ws,U' (K:=K) (ov G H H') a ks w)->Q (.ref D) H'):PQ n vs H Q
def HK (n:Nat):Sp:=fun a H Q _=>PQ (K:=K) n a H Q
structure Fc (G H:Hp) (a:Ak) (ks:List Key) (D:Addr) (ws:List V) (Hi:Hp):Prop where
 si:AE H Hi
 hD:Hi D=some (.lst ws)
 ne:ws≠[]
 ta:∀w∈ws,U' (K:=K) (JJ D (ov G H Hi)) a ks w
theorem Fc.up {G H b H':Hp} {a:Ak} {ks:List Key} {D:Addr} {ws:List V} (T:Fc (K:=K) G H a ks D ws b) (s:AE b H'):Fc (K:=K) G H a ks D ws H':=⟨T.si.trans s,s _ _ T.hD,T.ne,fun w hw=>(T.ta w hw).up (Kc (ND s))⟩
theorem HL {n:Nat} {G H Q f:Hp} {a b:Ak} {ks:List Key} {k:Key} {D p pk:Addr} {ws:List V} {w:V} (u:AE G H) (Y:H D=none) (Z:Ka G p ks) (T:Fc (K:=K) G H a ks D ws Q) (eb:a.De k=some b) (S:AE Q f) (vw:Val (JJ D (ov G H f)) w b.pt) (bG:b.CF) (bs:b.GU) (lk:ks.length+1+b.dp<=100) (dn:b.dp+3<=n)
  (m:f pk=none) (lw:ws.length+b.wt<=900) {R:Hp->Prop} (go:∀q r,Fc (K:=K) G H a ks D r q->r.length<=ws.length+b.wt->(∀x o,x≠D->f x=some o->q x=some o)->R q):Ib (.ref p) (.ref pk) (upd f pk (.tup [kV k])) fun x c=>HK (K:=K) n [w,x] c (fun v U=>Rj (.ref D) [v] U fun _ q=>R q) E0:=by
 have si:=T.si
 have g:=T.hD
 have i:=si.trans S
 have A:H p=some (.tup (ks.map kV)):=u _ _ Z
 have y:=AE.new (o:=.tup [kV k]) m
 have X:upd f pk (.tup [kV k]) pk=some (.tup [kV k]):=AF
 generalize upd f pk (.tup [kV k])=H5 at y X⊢
 refine⟨p,pk,_,_,rfl,rfl,(i.trans y) _ _ A,X,Ah (by simp only[List.length_map,List.length_singleton];lia),fun s c s6 B n6=>?_⟩
 have j:=y.trans s6
 have d:=S.trans j
 have t:=si.trans d
 have C:s≠D:=fun z=>by rw[z,d _ _ g]at B;cases B
 have E:H s=none:=by
  rcases n6 with⟨h,_⟩|rfl|h
  ·cases h
  ·exact i.free m
  ·exact i.free (y.free h)
 have D6:=d _ _ g
 have F:c D≠none:=by rw[D6];exact fun z=>nomatch z
 have I:AE (JJ D (ov G H c)) c:=fun b o e=>Mv u t _ _ (SG _ _ e)
 have J:Val (JJ D (ov G H c)) w b.pt:=vw.up (Kc (ND j))
 have L:Ka (JJ D (ov G H c)) s (ks++[k]):=by
  show JJ D (ov G H c) s=_
  rw[FZ C,GC u E,B,List.map_append]
  rfl
 refine⟨JJ D (ov G H c),w,b,s,ks++[k],rfl,I,J,bG,bs,by lia,L,by rw[List.length_append,List.length_singleton];lia,dn,fun D7 M U N nD7 f7 zl lw7 O=>?_⟩
 have l:=d.trans N
 have P:=l _ _ g
 refine⟨D,D7,_,_,rfl,rfl,P,f7,Ah (by lia),go _ (ws++M) ⟨?_,AF,?_,?_⟩ (by rw[List.length_append];lia) ?_⟩
 ·exact fun b o e=>by rw[AJ (fun z=>by rw[z,Y]at e;cases e)];exact(si.trans l) _ _ e
 ·intro z
  exact T.ne (List.append_eq_nil_iff.mp z).1
 ·intro w hw
  rcases List.mem_append.mp hw with hw|hw
  ·exact(T.ta w hw).up fun b o e=>SY _ _ (Kc (ND l) _ _ e)
  ·exact((O w hw).into eb).up fun b o e=>SY _ _ (dV u t N F _ _ e)
 ·exact fun x o hx e=>by rw[AJ hx];exact(j.trans N) _ _ e
end
end L2
namespace PySem
open PyProof.Rows PySem.F PySem.Spec L2
abbrev TK (prog:Program) (w:World):=tupleKind (Ay prog w)
def CA (l:List (List Key×Addr×Value)):List (List Key×Addr×Value):=l.foldl (fun a x=>storedH a x.1 x.2.1 x.2.2) []
theorem Dk (l:List (List Key×Addr×Value)) (x:List Key×Addr×Value):CA (l++[x])=storedH (CA l) x.1 x.2.1 x.2.2:=by unfold CA;rw[List.foldl_append];rfl
theorem PR (xs:List (List Key×Addr×Value)) (k:List Key) (a:Addr) (v:Value):(storedH xs k a v).length<=xs.length+1:=by
 unfold storedH
 split
 ·rw[List.length_map];lia
 ·rw[List.length_append,List.length_singleton];exact Nat.le_refl _
theorem PU {xs:List (List Key×Addr×Value)} {k:List Key} {a:Addr} {v:Value} {x:List Key×Addr×Value} (h:x∈storedH xs k a v):x.2.1=a∨∃y∈xs,y.2.1=x.2.1:=by
 unfold storedH at h
 split at h
 ·obtain⟨y,b,rfl⟩:=List.mem_map.mp h
  refine .inr ⟨y,b,?_⟩
  unfold putAt
  split<;>rfl
 ·rcases List.mem_append.mp h with h|h
  ·exact .inr ⟨x,h,rfl⟩
  ·rw[List.mem_singleton.mp h];exact .inl rfl
theorem snoc_ind {a:Type} {P:List a->Prop} (b:P []) (c:∀l x,P l->P (l++[x])) (l:List a):P l:=by
 rw[<-l.reverse_reverse]
 induction l.reverse with
 |nil=>exact b
 |cons x r d=>rw[List.reverse_cons];exact c _ _ d
theorem PV:∀l:List (List Key×Addr×Value),(CA l).length<=l.length:=by
 refine snoc_ind (Nat.le_refl _) fun l x a=>?_
 rw[Dk]
 have:=PR (CA l) x.1 x.2.1 x.2.2
 rw[List.length_append,List.length_singleton]
 lia
theorem Ie:∀(l:List (List Key×Addr×Value)) x,x∈CA l->∃y∈l,y.2.1=x.2.1:=by
 refine snoc_ind (fun x h=>nomatch h) fun l x b z a=>?_
 rw[Dk]at a
 rcases PU a with e|⟨y,c,e⟩
 ·exact⟨x,by simp,e.symm⟩
 ·obtain⟨d,f,g⟩:=b y c
  exact⟨d,List.mem_append_left _ f,g.trans e⟩
section
variable{prog:Program} {w:World} {A:Around} {R:Result->Shared->Prop}
theorem JO {h h':Heap} {k:List Key} {a:Addr} (i:(TK prog w).is h k a) (kp:∀o,h.get? a=some o->h'.get? a=some o):(TK prog w).is h' k a:=by
 obtain⟨o,b,n,c,r⟩:=i
 exact⟨o,b,n,kp _ c,r⟩
theorem RC {I l d:Addr} {items:Array Value} {more:List (List Key×Addr×Value)} (hu:A.units+1<cLine) (hh:A.handled=none) (M:l≠I) (h:d≠I) (N:d≠l) (hlen:items.size=more.length) (hsz:more.length<=100000):
  ∀(k i:Nat) (s:Shared),more.length-i=k->i<=more.length->s.heap.IsListIter I l i->s.heap.IsList l items->s.heap.DictOfH (TK prog w) d (CA (more.take i))->
   (∀(j:Nat) m a f,more[j]?=some (m,a,f)->∃t,items[j]?=some (.ref t)/\t≠d/\t≠I/\a≠d/\a≠I/\IsTup s.heap t #[.ref a,f]/\(TK prog w).is s.heap m a)->
   (∀h' tk,h'.DictOfH (TK prog w) d (CA more)->(∀b o,b≠d->b≠I->s.heap.get? b=some o->h'.get? b=some o)->R (.ok (.ret .none)) {s with heap:=h',toks:=tk})->
   codeAny (model prog w) A (.builtin "dict.update.loop" ⟨[.ref d,.ref I,rawInt (i:Int),.none],[]⟩) R s:=by
 have W:=Walks.list (prog:=prog) (w:=w) (A:=A.in1) hh I l M items
 intro k
 induction k with
 |zero=>
  intro i s hk hi n O K C P
  have Q:i=more.length:=by lia
  subst Q
  refine codeAny_builtin Bs ?_
  rw[Around.under_plainId Aw _]
  show wpAny _ A.in1 (pyNext (.ref I)>>=_) _ _ s
  refine wpAny_bind (W.done s _ _ (by rw[hlen];exact⟨n,O⟩) fun h' tk kept=>?_)
  rw[List.take_length]at K
  obtain⟨o,S,T,U,V,X,Y,q,Z⟩:=K
  have c:∀x∈CA more,(TK prog w).is h' x.1 x.2.1:=fun x D=>by
   obtain⟨y,hy,e⟩:=Ie more x D
   obtain⟨j,E⟩:=List.getElem?_of_mem hy
   obtain⟨t,_,_,_,_,nI,_⟩:=C j y.1 y.2.1 y.2.2 E
   exact JO (q x D) fun o e'=>kept _ _ (by rw[<-e];simp[nI]) e'
  show wpAny _ A.in1 (Builtin.Dict.addKeywords d []>>=_) _ _ _
  exact wpAny_bind (wpAny_pure (wpAny_pure (P h' tk ⟨o,S,T,kept _ _ (by simp[h]) U,V,X,Y,c,Z⟩ fun b o _ hb e=>kept b o (by simp[hb]) e)))
 |succ k ih=>
  intro i s hk hi n O K C P
  have r:i<more.length:=by lia
  obtain⟨⟨m,a,f⟩,hm⟩:∃p,more[i]?=some p:=⟨_,AGS r⟩
  obtain⟨t,ht,td,tI,ad,aI,tup,F⟩:=C i m a f hm
  refine codeAny_builtin Bs ?_
  rw[Around.under_plainId Aw _]
  show wpAny _ A.in1 (pyNext (.ref I)>>=_) _ _ s
  refine wpAny_bind (W.item i s _ _ (by rw[hlen];exact r) ⟨n,O⟩ fun v h' tk hv G kept=>?_)
  rw[ht]at hv
  cases hv
  obtain⟨ot,hot,u,nt,H⟩:=tup
  have g:h'.get? t=some ot:=kept _ _ (by simp[tI]) hot
  have hT:({s with heap:=h',toks:=tk}:Shared).TypeIs (.ref t) "tuple":=⟨_,g,u⟩
  obtain⟨ct,dt,dat,slt⟩:=ot
  simp only at u H
  subst u H
  obtain⟨o,S,T,U,V,X,Y,q,Z⟩:=id K
  have c:∀x∈CA (more.take i),(TK prog w).is h' x.1 x.2.1:=fun x D=>by
   obtain⟨y,hy,e⟩:=Ie (more.take i) x D
   obtain⟨j,E⟩:=List.getElem?_of_mem (List.mem_of_mem_take hy)
   obtain⟨t,_,_,_,_,nI,_⟩:=C j y.1 y.2.1 y.2.2 E
   exact JO (q x D) fun o e'=>kept _ _ (by rw[<-e];simp[nI]) e'
  have jJ:h'.DictOfH (TK prog w) d (CA (more.take i)):=⟨o,S,T,kept _ _ (by simp[h]) U,V,X,Y,c,Z⟩
  have z:(TK prog w).is h' m a:=JO F fun o e=>kept _ _ (by simp[aI]) e
  have hml:(CA (more.take i)).length<=sizeLine:=by
   have:=PV (more.take i)
   rw[List.length_take]at this
   have e:sizeLine=16777216:=sizeLine_eq
   lia
  show wpAny _ A.in1 (holding [Value.ref t] _>>=_) _ _ _
  refine wpAny_bind (wpAny_holding (wpAny_bind (wpAny_tryCatch ?_)))
  unfold Builtin.Dict.pairItems
  refine wpAny_bind (wpAny_typeOf hT ?_)
  rw[if_pos (by decide)]
  unfold seqItems?
  refine wpAny_bind ?_
  refine wpAny_bind (wpAny_load g ?_)
  refine wpAny_pure (wpAny_pure ?_)
  show wpAny _ A.in1 (holding [Value.ref a,f] (dictSet d (.ref a) f)) _ _ _
  refine wpAny_holding ?_
  refine wpAny_dictSet_heap (hsz:=hml) (tupleKind_room_in1 hu) z jJ fun h2 J B=>?_
  have e1:storedH (CA (more.take i)) m a f=CA (more.take (i+1)):=by
   rw[List.take_add_one,hm]
   exact(Dk _ (m,a,f)).symm
  rw[e1]at J
  have kp:∀b o,b≠d->b≠I->s.heap.get? b=some o->h2.get? b=some o:=fun b o L h3 e=>by
   rw[B.2 b L]
   exact kept b o (by simp[h3]) e
  have ic:((i:Int)+1)=((i+1:Nat):Int):=by simp
  refine wpAny_pure ⟨plainId_quiet Aw _,?_⟩
  rw[ic]
  refine ih (i+1) _ (by lia) r (G.1.at fun o e=>by rw[B.2 I (Ne.symm h)];exact e) (G.2.at fun o e=>by rw[B.2 l (Ne.symm N)];exact e) J (fun j k2 a2 v2 E=>?_) (fun h3 tk3 hd3 kp3=>P h3 tk3 hd3 fun b o L h4 e=>kp3 b o L h4 (kp b o L h4 e))
  obtain⟨t2,c1,c2,c3,c4,c5,⟨ot2,b1,b2⟩,c7⟩:=C j k2 a2 v2 E
  exact⟨t2,c1,c2,c3,c4,c5,⟨ot2,kp _ _ c2 c3 b1,b2⟩,JO c7 fun o e=>kp _ _ c4 c5 e⟩
end
end PySem
namespace L2
open PySem PySem.Spec PyProof.Rows
def DY (l:List (List Key×Addr×V)):List (List Key×V):=l.foldl (fun a x=>putK a x.1 x.2.2) []
theorem Fe (l:List (List Key×Addr×V)) (x:List Key×Addr×V):DY (l++[x])=putK (DY l) x.1 x.2.2:=by unfold DY;rw[List.foldl_append];rfl
theorem RD:∀l:List (List Key×Addr×V),(DY l).length<=l.length:=by
 refine snoc_ind (Nat.le_refl _) fun l x a=>?_
 rw[Fe]
 have:=ED (DY l) x.1 x.2.2
 rw[List.length_append,List.length_singleton]
 lia
section
variable{X:Cx}
inductive Sn (K:AGW) (xs:List V) (H:Hp) (Q:VK):Prop
 |mk (l:Addr) (ts:List Addr) (kvs:List (List Key×Addr×V)) (b:xs=[.ref l]) (c:An K H l (ts.map V.ref)) (d:ts.length=kvs.length) (e:∀(j:Nat) k a v,kvs[j]?=some (k,a,v)->∃t,ts[j]?=some t/\H t=some (.tup [.ref a,v])/\H a=some (.tup (k.map kV))) (f:kvs.length<=1000) (g:∀p,H p=none->Q (.ref p) (upd H p (.dT (DY kvs)))):Sn K xs H Q
def XG (K:AGW):List V->Hp->VK->Prop:=fun a H Q=>Sn K a H Q
theorem dW {X:Cx} {pins:List (Addr×Obj)} {f:St} {H:Hp} {s:Shared} (I:Inv X pins f H s):∀(kvs:List (List Key×Addr×V)) (ts:List Addr),(∀(j:Nat) k a v,kvs[j]?=some (k,a,v)->∃t,ts[j]?=some t/\H t=some (.tup [.ref a,v])/\H a=some (.tup (k.map kV)))->
  ∃more:List (List Key×Addr×Value),more.length=kvs.length/\(∀(j:Nat) k a v,kvs[j]?=some (k,a,v)->∃b,more[j]?=some (k,a,b)/\RelV v b)/\∀(j:Nat) k a b,more[j]?=some (k,a,b)->∃t,ts[j]?=some t/\IsTup s.heap t #[.ref a,b]/\(TK X.prog X.w).is s.heap k a:=by
 intro kvs
 induction kvs with
 |nil=>exact fun ts _=>⟨[],rfl,fun j k a v e=>by simp at e,fun j k a v e=>by simp at e⟩
 |cons p r g=>
  intro ts h
  obtain⟨k,a,v⟩:=p
  obtain⟨t,i,l,m⟩:=h 0 k a v rfl
  obtain⟨z,n,o,_⟩:=I.tuple (Bf.of l)
  obtain⟨more,q,u,x⟩:=g ts.tail (fun j k a v e=>by
   obtain⟨t,c1,c2⟩:=h (j+1) k a v (by simpa using e)
   exact⟨t,by rw[List.getElem?_tail];exact c1,c2⟩)
  cases n with
  |cons y d=>
   cases d with
   |@cons _ b _ _ A d=>
    cases d
    cases y
    refine⟨(k,a,b)::more,by rw[List.length_cons,List.length_cons,q],fun j k2 a2 c e=>?_,fun j k2 a2 c e=>?_⟩
    ·cases j with
     |zero=>
      have e:(k,a,v)=(k2,a2,c):=by simpa using e
      cases e
      exact⟨b,rfl,A⟩
     |succ j=>
      obtain⟨w,c1,c2⟩:=u j k2 a2 c (by simpa using e)
      exact⟨w,by simpa using c1,c2⟩
    ·cases j with
     |zero=>
      have e:(k,a,b)=(k2,a2,c):=by simpa using e
      cases e
      exact⟨t,i,o,Ho I.Be m⟩
     |succ j=>
      obtain⟨B,c1,c2⟩:=x j k2 a2 c (by simpa using e)
      exact⟨B,by rw[List.getElem?_tail]at c1;exact c1,c2⟩
theorem XH {H:Hp}:∀(kvs:List (List Key×Addr×V)) (more:List (List Key×Addr×Value)),more.length=kvs.length->(∀(j:Nat) k a v,kvs[j]?=some (k,a,v)->H a=some (.tup (k.map kV))/\∃c,more[j]?=some (k,a,c)/\RelV v c)->KT H (DY kvs) (CA more):=by
 refine snoc_ind (fun more l _=>?_) fun kvs p e more l h=>?_
 ·rw[List.length_eq_zero_iff.mp l]
  exact .nil
 ·obtain⟨k,a,v⟩:=p
  obtain⟨f,c,g,m⟩:=h kvs.length k a v (by simp)
  have n:more=more.take kvs.length++[(k,a,c)]:=by
   rw[List.length_append,List.length_singleton]at l
   have:=List.take_add_one (l:=more) (i:=kvs.length)
   rw[g,List.take_of_length_le (by lia)]at this
   exact this
  rw[n,Fe,Dk]
  refine KT.put (e (more.take kvs.length) ?_ fun j k2 a2 o d=>?_) k f m
  ·rw[List.length_take,l,List.length_append,List.length_singleton];lia
  ·have b:=(AGT d).1
   obtain⟨q,w,r,s⟩:=h j k2 a2 o (by rw[List.getElem?_append_left b];exact d)
   exact⟨q,w,by rw[List.getElem?_take_of_lt b];exact r,s⟩
theorem D' (hc:X.calm=true) (hu:X.A.units+64<cLine):Bq X (.type "dict") (XG X.K):=by
 intro pins s σ H xs us Q I r h
 obtain⟨l,N,kvs,rfl,hl,hlen,hp,hz,q⟩:=h
 obtain⟨u,rfl,ru⟩:=vals1 r
 cases ru
 obtain⟨m,rv,pl,_⟩:=I.list hl
 obtain⟨O,nl,D,n,P,y⟩:=id pl
 have E:X.A.in1.handled=none:=I.ok.hd hc
 refine callType_codes (Q₁:=fun G p=>G=.ref s.heap.objs.size/\p={s with heap:=s.heap.push {cls:=.type "dict",data:=.dict #[]}}) F.kt_called_dict (F.kt_typeCall_dict_1 _) F.entry_dict_init (kt_code_dict_new _ ⟨rfl,rfl⟩) ?_
 rintro G p ⟨rfl,rfl⟩
 have d:(s.heap.push {cls:=.type "dict",data:=.dict #[]}).DictOfH (TK X.prog X.w) s.heap.objs.size []:=Heap.DictOfH.new s.heap
 refine⟨d.typeIs,F.args_dict_init_2 _ _,?_⟩
 unfold Builtin.«dict.__init__»
 refine wpAny_bind ?_
 unfold Builtin.Dict.selfAndRest
 refine wpAny_bind (wpAny_notOrdered_dict d.typeIs ?_)
 show wpAny _ _ (pure (s.heap.objs.size,[Value.ref l])) _ _ _
 refine wpAny_pure ?_
 show wpAny _ _ (Builtin.Dict.updateFrom "dict.__init__" s.heap.objs.size (.ref l) [] .none) _ _ _
 unfold Builtin.Dict.updateFrom
 have f:(s.heap.push {cls:=.type "dict",data:=.dict #[]}).get? l=some O:=Heap.get?_push_of_some _ D
 have R:({s with heap:=s.heap.push {cls:=.type "dict",data:=.dict #[]}}:Shared).TypeIs (.ref l) "list":=⟨_,f,n⟩
 refine wpAny_bind (wpAny_typeOf R ?_)
 rw[if_pos (by decide)]
 refine wpAny_bind (FR f n y P E fun B zV e1 S=>?_)
 rw[if_pos (show(Option.isNone (none:Option Value))=true from rfl)]
 have g:∀b o,(s.heap.push {cls:=.type "dict",data:=.dict #[]}).get? b=some o->B.get? b=some o:=S.keeps
 have C:∀b o,s.heap.get? b=some o->B.get? b=some o:=fun b o e=>g b o (Heap.get?_push_of_some _ e)
 have T:B.IsList l m.toArray:=⟨O,g _ _ f,n,nl,y⟩
 refine wpAny_bind (wpAny_rule ?_)
 refine wpAny_bind (wpAny_pyIter_list T ?_)
 refine wpAny_pure ⟨plainId_quiet Aw _,?_⟩
 obtain⟨od,es,ep,U,rd⟩:=id d
 have i:s.heap.objs.size<B.objs.size:=Heap.lt_size (g _ _ U)
 have J:l<s.heap.objs.size:=Heap.lt_size D
 obtain⟨more,lm,W,hm⟩:=dW I kvs N hp
 have L:m.length=N.length:=by rw[<-rv.length,List.length_map]
 have M:∀(j:Nat) t,N[j]?=some t->m.toArray[j]?=some (.ref t):=fun j t e=>by
  obtain⟨u,B,h2⟩:=rv.get (show(N.map V.ref)[j]?=some (.ref t)by rw[List.getElem?_map,e];rfl)
  cases h2
  simpa using B
 have d0:∀(h:Heap),(∀o,(s.heap.push {cls:=.type "dict",data:=.dict #[]}).get? s.heap.objs.size=some o->h.get? s.heap.objs.size=some o)->h.DictOfH (TK X.prog X.w) s.heap.objs.size []:=fun h kp=>by
  obtain⟨o,es,ep,g1,g2,Y,g4,g5,g6⟩:=id d
  exact⟨o,es,ep,kp _ g1,g2,Y,g4,fun x hx=>(nomatch hx),g6⟩
 show codeAny _ _ (.builtin "dict.update.loop" ⟨[.ref s.heap.objs.size,.ref B.objs.size,rawInt ((0:Nat):Int),.none],[]⟩) _ _
 refine RC (l:=l) (items:=m.toArray) (more:=more) (by show X.A.units+1+1<cLine;lia) E (Nat.ne_of_lt (Nat.lt_trans J i)) (Nat.ne_of_lt i) (Nat.ne_of_gt J) (by rw[List.size_toArray,L,hlen,lm]) (by lia) more.length 0 _ (by simp) (Nat.zero_le _)
  ⟨_,Heap.get?_push_size _ rfl,rfl,rfl⟩ ⟨O,Heap.get?_push_of_some _ (g _ _ f),n,nl,y⟩ (d0 _ fun o e=>Heap.get?_push_of_some _ (g _ _ e)) (fun j k' a' v' e=>?_) (fun h2 Z hd2 ig=>⟨rfl,?_⟩)
 ·obtain⟨t,c1,⟨ot,c2,pO⟩,oa,ia,na,c3,c3'⟩:=hm j k' a' v' e
  have h5:t<s.heap.objs.size:=Heap.lt_size c2
  have h6:a'<s.heap.objs.size:=Heap.lt_size c3
  exact⟨t,M j t c1,Nat.ne_of_lt h5,Nat.ne_of_lt (Nat.lt_trans h5 i),Nat.ne_of_lt h6,Nat.ne_of_lt (Nat.lt_trans h6 i),⟨ot,Heap.get?_push_of_some _ (C _ _ c2),pO⟩,oa,ia,na,Heap.get?_push_of_some _ (C _ _ c3),c3'⟩
 ·have Yd:(DY kvs).length<=sizeLine:=by
   have:=RD kvs
   exact Ah (by lia)
  have kt:KT H (DY kvs) (CA more):=XH kvs more lm fun j k a v e=>by
   obtain⟨t,g1,g2,Y⟩:=hp j k a v e
   exact⟨Y,W j k a v e⟩
  obtain⟨qo,qM,ep2,hq,h2',h3',h4',_,h5'⟩:=hd2
  have fr:=I.fresh
  refine⟨.ref s.heap.objs.size,_,I.laid (o:=.dT (DY kvs)) (t':=Z) (fun b o e=>?_) (Nat.le_refl _) ⟨Yd,beq_eq_false_iff_ne.mpr (Ne.symm (Nat.ne_of_lt I.big)),_,kt.keeps fun c ys ec=>?_,qo,qM,ep2,hq,h2',h3',h4',h5'⟩,rfl,q _ fr⟩
  ·have:=Heap.lt_size e
   exact ig b o (Nat.ne_of_lt this) (Nat.ne_of_lt (Nat.lt_trans this i)) (Heap.get?_push_of_some _ (C _ _ e))
  ·rw[AJ (fun z=>by rw[z,fr]at ec;cases ec)]
   exact ec
end
mutual
theorem Pt.MA:∀t:Pt,t.deep<=t.size
 | .int _| .str _| .bl _| .Av=>by simp only[Pt.deep,Pt.size];lia
 | .lst xs=>by have:=Pt.FA xs;simp only[Pt.deep,Pt.size];lia
 | .tup xs=>by have:=Pt.FA xs;simp only[Pt.deep,Pt.size];lia
 | .BX a xs=>by have:=Pt.FA xs;simp only[Pt.deep,Pt.size];lia
theorem Pt.FA:∀xs:List Pt,Pt.AW xs<=Pt.AL xs
 |[]=>Nat.le_refl _
 |x::r=>by have:=Pt.MA x;have:=Pt.FA r;simp only[Pt.AW,Pt.AL];lia
end
structure PX (A:Ak):Prop where
 ok:A.CF
 sr:A.GU
 wt:A.wt<=800
 dp:A.dp<=20
 fw:A.Fz
def Mb:Nat->Nat
 |0=>1
 |d+1=>801+4*Mb d
theorem XI:∀d,1<=Mb d
 |0=>Nat.le_refl _
 |d+1=>by simp only[Mb];lia
def bF (w:Str) (b:Ak):Prop:=(w="row"/\∃a,b=.row a true)∨(w="table"/\∃c a d,b=.tab c a d true)
theorem PX.len {A b:Ak} {ks:List Key} (h:PX A) (e:A.sub ks=some b):ks.length<=20/\b.CF/\b.GU/\b.wt<=800/\b.dp<=20:=by
 obtain⟨a,c,d,f⟩:=Ak.KY h.ok h.sr e
 have:=h.wt
 have:=h.dp
 exact⟨by lia,a,c,by lia,by lia⟩
namespace AM
def Ff (ks:List Key) (keys:List Key):List AM:=keys.map fun k=>.Ic (ks++[k])
theorem sub_snoc {A b:Ak} {ks:List Key} {k:Key} (h:A.sub ks=some b):A.sub (ks++[k])=b.De k:=by
 rw[Ak.DF,h]
 show b.sub [k]=_
 simp only[Ak.sub]
 cases b.De k<;>rfl
theorem II {A b:Ak} {ks:List Key} (h:A.sub ks=some b) {keys:List Key} (a:∀k∈keys,(b.De k).isSome=true):EK A (Ff ks keys)=true:=by
 rw[Bc,List.all_eq_true]
 intro x c
 obtain⟨k,d,rfl⟩:=List.mem_map.mp c
 simp only[good]
 rw[sub_snoc h]
 exact a k d
theorem NF {ks keys:List Key} (l:ks.length<=100):DD (Ff ks keys):=ES fun x a=>by
 obtain⟨k,b,rfl⟩:=List.mem_map.mp a
 simp only[ok,List.length_append,List.length_singleton]
 lia
theorem Ft (ks:List Key):∀keys:List Key,AL (Ff ks keys)=keys.length
 |[]=>rfl
 |k::r=>by
  have:=Ft ks r
  simp only[Ff,List.map_cons,AL,size]at this⊢
  rw[this,List.length_cons]
  lia
theorem IJ (ks keys:List Key):AW (Ff ks keys)<=1:=HJ fun x a=>by
 obtain⟨k,b,rfl⟩:=List.mem_map.mp a
 simp only[deep]
 exact Nat.le_refl _
theorem HM (ks keys:List Key):(Ff ks keys).length=keys.length:=by unfold Ff;rw[List.length_map]
theorem MB:∀ts:List Pt,AL (ts.map AM.Kw)=ts.length
 |[]=>rfl
 |x::r=>by
  have:=MB r
  simp only[List.map_cons,AL,size,this,List.length_cons]
  lia
end AM
section
variable{K:AGW} [BY K]
theorem BL {G H a H2 c:Hp} (d:∀b,a b=none->H b=none) (s:∀b o,a b=none->H2 b=some o->c b=some o):AE (ov G a H2) (ov G H c):=fun b o e=>by
 unfold ov at e⊢
 cases h:G b with
 |some z=>rw[h]at e;exact e
 |none=>rw[h]at e;exact CD d s b o e
section
variable{J:It} {te:TE} {fs:List Nat} {σ:St} {H:Hp} {Q:VK}
theorem NG (G:Hp) (o:Option Addr) (n:Nat) (item:Nat->V) (a:Nat->List Pt->Hp->Prop) (S:n<=1000) (E:∀D,H D=none->a 0 [] (upd H D (.lst [])))
  (F:∀i us H2 D ws,Bt o H H2->H D=none->a i us H2->a i us (upd H2 D (.lst ws))) (hl:∀l,o=some l->H l≠none)
  (t:∀i us H2,i<n->Bt o H H2->a i us H2->J.go i H2) (I:∀i us H2 v H',i<n->Bt o H H2->a i us H2->J.NX i H2 v H'->v=item i/\H'=H2) (x:∀us H2,Bt o H H2->a n us H2->J.stop n H2)
  (L:∀i us H2 (R:VK),i<n->Bt o H H2->a i us H2->us.length=i->(∀w u f,Bt o H2 f->Val (ov G H2 f) w u->a (i+1) (us++[u]) f->R w f)->te (some (item i)::Bn σ fs) H2 R)
  (M:∀D H2 ws us,H D=none->Bt o H H2->H2 D=some (.lst ws)->us.length=n->Aj (ov G H H2) ws us->a n us H2->Q (.ref D) H2):EN J OH te fs σ H Q:=by
 refine Fm n item (fun D i H2=>H D=none/\Bt o H H2/\∃ws us,H2 D=some (.lst ws)/\us.length=i/\Aj (ov G (upd H D (.lst [])) H2) ws us/\a i us H2)
  (fun D c=>⟨c,.new .refl c,[],[],AF,rfl,.nil,E D c⟩) (fun D i H2 g ⟨_,s,ws,us,_,_,_,d⟩=>t i us H2 g s d) (fun D i H2 v H' g ⟨_,s,ws,us,_,_,_,d⟩ y=>I i us H2 v H' g s d y) (fun D H2 ⟨_,s,ws,us,_,_,_,d⟩=>x us H2 s d) (fun D i H2 _ g ⟨c,s,ws,us,j,p,q,d⟩=>?_) (fun D H2 _ ⟨c,s,ws,us,j,p,q,d⟩=>?_)
 ·refine L i us H2 _ g s d p fun w u f r N A=>?_
  have O:o≠some D:=fun z=>hl D z c
  have P:=r.keep D _ O j
  have T:=q.length
  have C:∀b,upd H D (.lst []) b=none->b≠D/\H b=none:=fun b h=>CC h
  refine⟨ws,P,Nat.lt_of_le_of_lt (by lia) (BG (Nat.le_refl 1000)),c,(s.trans r).new c,ws++[w],us++[u],AF,by simp[p],Aj.snoc (q.up (BL (fun b h=>h) fun b e k B=>?_)) (N.up (BL (fun b h=>?_) fun b e k B=>?_)),F _ _ _ _ _ (s.trans r) c A⟩
  ·have m:=(C b k).1
   rw[AJ m]
   refine r.keep b e (fun z=>?_) B
   exact hl b z (C b k).2
  ·have m:b≠D:=fun z=>by rw[z,j]at h;cases h
   rw[AJ m]
   exact s.GB b h
  ·have m:b≠D:=fun z=>by rw[z,j]at k;cases k
   rw[AJ m]
   exact B
 ·exact M D H2 ws us c s j p (q.up (BL (fun b h=>(CC h).2) fun b e _ h=>h)) d
theorem PY (G:Hp) (o:Option Addr) (n:Nat) (item:Nat->V) (ks:List Str) (c:Nat->List Pt->Hp->Prop) (hn:n<=1000) (h0:∀D,H D=none->c 0 [] (upd H D (.lst [])))
  (U:∀i us H2 D e,Bt o H H2->(H D=none)->c i us H2->c i us (upd H2 D e)) (hl:∀l,o=some l->H l≠none)
  (I:∀i us H2,i<n->Bt o H H2->c i us H2->J.go i H2) (hy:∀i us H2 v H',i<n->Bt o H H2->c i us H2->J.NX i H2 v H'->v=item i/\H'=H2) (L:∀us H2,Bt o H H2->c n us H2->J.stop n H2)
  (he:∀i us H2 (R:VK),i<n->Bt o H H2->c i us H2->us.length=i->(∀w u k t,Bt o H2 k->Val (ov G H2 k) w u->c (i+1) (us++[u]) k->k t=none->R (.ref t) (upd k t (.tup [.str (ks.getD i ""),w])))->te (some (item i)::Bn σ fs) H2 R)
  (hQ:∀D H2 (ts:List Addr) ws us,H D=none->Bt o H H2->H2 D=some (.lst (ts.map V.ref))->ts.length=n->us.length=n->(∀(j:Nat) t w,ts[j]?=some t->ws[j]?=some w->H2 t=some (.tup [.str (ks.getD j ""),w])/\H t=none)->Aj (ov G H H2) ws us->c n us H2->Q (.ref D) H2):EN J OH te fs σ H Q:=by
 refine Fm n item (fun D i H2=>H D=none/\Bt o H H2/\∃(ts:List Addr) (ws:List V) (us:List Pt),H2 D=some (.lst (ts.map V.ref))/\ts.length=i/\us.length=i/\(∀(j:Nat) t w,ts[j]?=some t->ws[j]?=some w->H2 t=some (.tup [.str (ks.getD j ""),w])/\H t=none)/\Aj (ov G (upd H D (.lst [])) H2) ws us/\c i us H2)
  (fun D d=>⟨d,.new .refl d,[],[],[],AF,rfl,rfl,(fun j t w h=>by simp at h),.nil,h0 D d⟩) (fun D i H2 r ⟨_,s,ts,ws,us,_,_,_,_,_,g⟩=>I i us H2 r s g) (fun D i H2 v H' r ⟨_,s,ts,ws,us,_,_,_,_,_,g⟩ y=>hy i us H2 v H' r s g y) (fun D H2 ⟨_,s,ts,ws,us,_,_,_,_,_,g⟩=>L us H2 s g) (fun D i H2 _ r ⟨d,s,ts,ws,us,x,lt,C,M,E,g⟩=>?_) (fun D H2 _ ⟨d,s,ts,ws,us,x,lt,C,M,E,g⟩=>?_)
 ·refine he i us H2 _ r s g C fun w u k t m vw N p=>?_
  have oD:o≠some D:=fun z=>hl D z d
  have O:=m.keep D _ oD x
  have X:t≠D:=fun z=>by rw[z,O]at p;cases p
  have d4:upd k t (.tup [.str (ks.getD i ""),w]) D=some (.lst (ts.map V.ref)):=by rw[AJ (Ne.symm X)];exact O
  have lw:=E.length
  have F:H t=none:=(s.trans m).GB t p
  have Y:∀b,upd H D (.lst []) b=none->b≠D/\H b=none:=fun b h=>CC h
  refine⟨ts.map V.ref,d4,Nat.lt_of_le_of_lt (by rw[List.length_map];lia) (BG (Nat.le_refl 1000)),d,((s.trans m).new F).new d,ts++[t],ws++[w],us++[u],by rw[AF,List.map_append];rfl,by simp[lt],by simp[C],fun j q Z a f=>?_,Aj.snoc (E.up (BL (fun b h=>h) fun b e a f=>?_)) (vw.up (BL (fun b h=>?_) fun b e a f=>?_)),U _ _ _ _ _ ((s.trans m).new F) d (U _ _ _ _ _ (s.trans m) F N)⟩
  ·by_cases hj:j<ts.length
   ·rw[List.getElem?_append_left hj]at a
    rw[List.getElem?_append_left (by lia)]at f
    obtain⟨g1,g2⟩:=M j q Z a f
    have A:=m.keep q _ (fun z=>hl q z g2) g1
    have n1:q≠t:=fun z=>by rw[z,p]at A;cases A
    have n2:q≠D:=fun z=>by rw[z,O]at A;cases A
    exact⟨by rw[AJ n2,AJ n1];exact A,g2⟩
   ·have P:=(AGT a).1
    rw[List.length_append,List.length_singleton]at P
    have ej:j=i:=by lia
    subst ej
    rw[List.getElem?_append_right (by lia),lt,Nat.sub_self]at a
    have e1:t=q:=by simpa using a
    subst e1
    rw[List.getElem?_append_right (by lia),show j-ws.length=0 by lia]at f
    have e2:w=Z:=by simpa using f
    subst e2
    exact⟨by rw[AJ X,AF],F⟩
  ·have B:=(Y b a).1
   have hb:=(Y b a).2
   have S:=m.keep b e (fun z=>hl b z hb) f
   have T:b≠t:=fun z=>by rw[z,p]at S;cases S
   rw[AJ B,AJ T]
   exact S
  ·have B:b≠D:=fun z=>by rw[z,x]at h;cases h
   rw[AJ B]
   exact s.GB b h
  ·have B:b≠D:=fun z=>by rw[z,x]at a;cases a
   have T:b≠t:=fun z=>by rw[z,p]at f;cases f
   rw[AJ B,AJ T]
   exact f
 ·exact hQ D H2 ts ws us d s x lt C M (E.up (BL (fun b h=>(CC h).2) fun b e _ h=>h)) g
end
theorem Aj.bH {G:Hp}:∀{vs:List V} {us:List Pt},Aj (K:=K) G vs us->∀k:Nat,Aj (K:=K) G (vs.drop k) (us.drop k)
 |_,_,.nil,k=>by rw[List.drop_nil,List.drop_nil];exact .nil
 |_,_,.cons h r,0=>.cons h r
 |_,_,.cons h r,k+1=>r.bH k
theorem AM.ZN {A:Ak} {N d:Nat} (k:Nat) {ms:List AM} (c:AM.DD ms) (b:AM.EK A ms=true):AM.DD (ms.drop k)/\AM.EK A (ms.drop k)=true/\AM.AL (ms.drop k)<=AM.AL ms/\AM.AW (ms.drop k)<=AM.AW ms:=by
 refine⟨AM.ES fun x a=>AM.Bx c x (List.mem_of_mem_drop a),?_,?_,AM.HJ fun x a=>AM.BI (List.mem_of_mem_drop a)⟩
 ·rw[AM.Bc,List.all_eq_true]at b⊢
  exact fun x a=>b x (List.mem_of_mem_drop a)
 ·have:=AM.Am (ms.take k) (ms.drop k)
  rw[List.take_append_drop]at this
  lia
structure EU (G:Hp) (A:Ak) (D:Addr) (ws:List V):Prop where
 at_:G D=some (.lst ws)
 ne:ws≠[]
 len:ws.length<=900
 ta:∀w∈ws,U' (K:=K) G A [] w
theorem EU.up {G H:Hp} {A:Ak} {D:Addr} {ws:List V} (t:EU (K:=K) G A D ws) (s:AE G H):EU (K:=K) H A D ws:=⟨s _ _ t.at_,t.ne,t.len,fun w hw=>(t.ta w hw).up s⟩
structure RE (G:Hp) (A:Ak) (ws:List V) (p:Addr) (ks:List Key) (b:Ak):Prop where
 mem:∃t u,V.ref t∈ws/\G t=some (.tup [.ref p,u])
 PZ:Ka G p ks
 sub:A.sub ks=some b
structure RF where
 t:Addr
 p:Addr
 u:V
 ks:List Key
 b:Ak
instance:Inhabited RF:=⟨⟨0,0,.Av,[],.any⟩⟩
structure dX (G:Hp) (A:Ak) (e:RF):Prop where
 tp:G e.t=some (.tup [.ref e.p,e.u])
 PZ:Ka G e.p e.ks
 sub:A.sub e.ks=some e.b
 val:Val (K:=K) G e.u e.b.pt
theorem So {G:Hp} {A:Ak}:∀ws:List V,(∀w∈ws,U' (K:=K) G A [] w)->∃a:List RF,ws=a.map (fun e=>V.ref e.t)/\∀e∈a,dX (K:=K) G A e
 |[],_=>⟨[],rfl,fun e h=>nomatch h⟩
 |w::r,h=>by
  obtain⟨a,rfl,c⟩:=So r fun x f=>h x (List.mem_cons_of_mem _ f)
  obtain⟨t,p,u,g,b,rfl,i,j,k,l⟩:=h w List.mem_cons_self
  refine⟨⟨t,p,u,g,b⟩::a,rfl,fun e d=>?_⟩
  rcases List.mem_cons.mp d with rfl|d
  ·exact⟨i,j,k,l⟩
  ·exact c e d
theorem EU.ents {G:Hp} {A:Ak} {D:Addr} {ws:List V} (h:EU (K:=K) G A D ws):∃a:List RF,ws=a.map (fun e=>V.ref e.t)/\∀e∈a,dX (K:=K) G A e:=So ws h.ta
def NH (w:Str):Ak->Bool
 | .row _ m=>decide (V.str "row"=V.str w)&&m
 | .tab _ _ _ m=>decide (V.str "table"=V.str w)&&m
 |_=>false
theorem Ui {w:Str} {b:Ak} (h:NH w b=true):bF w b:=by
 cases b with
 |any=>cases h
 |As d=>cases h
 |row a m=>
  have h:(decide (V.str "row"=V.str w)&&m)=true:=h
  rw[Bool.and_eq_true]at h
  have e:=V.str.inj (of_decide_eq_true h.1)
  exact .inl ⟨e.symm,a,by rw[h.2]⟩
 |tab c a f m=>
  have h:(decide (V.str "table"=V.str w)&&m)=true:=h
  rw[Bool.and_eq_true]at h
  have e:=V.str.inj (of_decide_eq_true h.1)
  exact .inr ⟨e.symm,c,a,f,by rw[h.2]⟩
structure Md (G H H':Hp) (A:Ak) (v:V) (m:AM) (N d:Nat):Prop where
 val:Val (K:=K) (ov G H H') v m.pt
 ok:m.ok
 gd:m.good A=true
 sz:m.size<=N
 dp:m.deep<=d
theorem Pa {G H2 d:Hp} {pk c t a:Addr} {ks:List Key} {k:Key} (q:∀b,H2 b=none->G b=none) (e:H2 pk=none) (n:AE (upd H2 pk (.tup [kV k])) d) (g:d c=some (.tup (ks.map kV++[kV k]))) (n6:([kV k]=[]/\c=a)∨c=pk∨upd H2 pk (.tup [kV k]) c=none) (i:d t=none):AE H2 (upd d t (.tup [.str "from",.ref c]))/\H2 t=none/\Val (K:=K) (ov G H2 (upd d t (.tup [.str "from",.ref c]))) (.ref t) (AM.Ic (ks++[k])).pt:=by
 have j:=AE.new (o:=.tup [kV k]) e
 generalize upd H2 pk (.tup [kV k])=r at j n n6
 have l:H2 c=none:=by
  rcases n6 with⟨h,_⟩|rfl|h
  ·cases h
  ·exact e
  ·exact j.free h
 have f:=j.trans n
 have p:=f.free i
 have m:c≠t:=fun z=>by rw[z,i]at g;cases g
 have nw:∀{b:Addr},H2 b=none->ov G H2 (upd d t (.tup [.str "from",.ref c])) b=upd d t (.tup [.str "from",.ref c]) b:=fun{b} h=>by unfold ov;rw[q b h];exact BB h
 refine⟨f.trans (AE.new i),p,.tup (.of (by rw[nw p,AF])) (.cons (.str _) (.cons (CU (.of ?_)) .nil))⟩
 rw[nw l,AJ m,g,List.map_append]
 rfl
theorem Kf {G H2:Hp} {p pk:Addr} {ks:List Key} {k:Key} (d:∀b,H2 b=none->G b=none) (e:H2 p=some (.tup (ks.map kV))) (lk:ks.length<=100) (a:H2 pk=none) {R:VK} (go:∀(t:Addr) (H':Hp),AE H2 H'->H2 t=none->Val (K:=K) (ov G H2 H') (.ref t) (AM.Ic (ks++[k])).pt->R (.ref t) H'):
  Ib (.ref p) (.ref pk) (upd H2 pk (.tup [kV k])) fun x c=>[V.str "from",x].length<=sizeLine/\∀t,c t=none->R (.ref t) (upd c t (.tup [.str "from",x])):=
 ⟨p,pk,_,_,rfl,rfl,(AE.new a) _ _ e,AF,Ah (by simp only[List.length_map,List.length_singleton];lia),fun n c f g h=>⟨Ad,fun t i=>by
  obtain⟨j,l,m⟩:=Pa (K:=K) d a f g h i
  exact go t _ j l m⟩⟩
theorem Kg {G H a:Hp} {D t:Addr} {ws:List V} {fs:List AM} {o:Option (List Key)} {z:V} (f:AE G H) (dm:∀b,a b=none->H b=none) (g:H D=none) (c:a D=some (.lst ws)) (vl:Aj (K:=K) (ov G H a) ws (AM.CY fs)) (i:Val (K:=K) (ov G H a) z (GW o)) (d:a t=none):Val (K:=K) (ov G H (upd a t (.tup [.str "row",.ref D,z]))) (.ref t) (AM.row fs o).pt:=by
 have up:AE (ov G H a) (ov G H (upd a t (.tup [.str "row",.ref D,z]))):=BL (fun b h=>h) fun b o _ e=>(AE.new d) _ _ e
 have j:D≠t:=fun z=>by rw[z,d]at c;cases c
 exact .tup (.of (by rw[GC f (dm t d),AF])) (.cons (.str _) (.cons (.lst (.inl (by rw[GC f g,AJ j];exact c)) (vl.up up)) (.cons (i.up up) .nil)))
theorem NI {G H a:Hp} {D t:Addr} {ws:List V} {ks:List Str} {fs:List AM} {o:Option (List Key)} {z:V} (f:AE G H) (dm:∀b,a b=none->H b=none) (g:H D=none) (l:ks.length=ws.length) (c:a D=some (.dK (CO ks ws))) (vl:Aj (K:=K) (ov G H a) ws (AM.CY fs)) (i:Val (K:=K) (ov G H a) z (GW o)) (d:a t=none):Val (K:=K) (ov G H (upd a t (.tup [.str "table",.ref D,z]))) (.ref t) (AM.tab ks fs o).pt:=by
 have up:AE (ov G H a) (ov G H (upd a t (.tup [.str "table",.ref D,z]))):=BL (fun b h=>h) fun b o _ e=>(AE.new d) _ _ e
 have j:D≠t:=fun z=>by rw[z,d]at c;cases c
 exact .tup (.of (by rw[GC f (dm t d),AF])) (.cons (.str _) (.cons (.BX (.inl (by rw[GC f g,AJ j];exact c)) (CP l) (by rw[Eh l];exact vl.up up)) (.cons (i.up up) .nil)))
theorem tail_at {G H':Hp} {p:Addr} {ks:List Key} (a:Ka G p ks) (s:AE G H') (m:Bool):∃z,Ja [V.Av,.ref p] (if m=true then(1:Int)else 0)=some z/\Val (K:=K) H' z (GW (if m=true then some ks else none)):=by
 cases m with
 |true=>exact⟨.ref p,rfl,CU (.of (s _ _ a))⟩
 |false=>exact⟨.Av,rfl,.Av⟩
theorem Uj {G:Hp} {A:Ak}:∀d:List RF,(∀e∈d,dX (K:=K) G A e)->∀(ks:List Key) (b:Ak),A.sub ks=some b->(∃e∈d,e.ks=ks)->∃u,BM (DY (d.map fun e=>(e.ks,e.p,e.u))) ks=some u/\Val (K:=K) G u b.pt:=by
 refine snoc_ind (fun _ ks b _ ⟨e,a,_⟩=>nomatch a) fun d x j h ks b g ⟨e,a,f⟩=>?_
 rw[List.map_append]
 show∃u,BM (DY (_++[(x.ks,x.p,x.u)])) ks=some u/\_
 rw[Fe,VX]
 by_cases c:ks=x.ks
 ·rw[if_pos c]
  have i:=h x (by simp)
  have:=i.sub
  rw[<-c,g]at this
  cases this
  exact⟨x.u,rfl,i.val⟩
 ·rw[if_neg c]
  refine j (fun e a=>h e (List.mem_append_left _ a)) ks b g ⟨e,?_,f⟩
  rcases List.mem_append.mp a with a|a
  ·exact a
  ·rw[List.mem_singleton.mp a]at f
   exact absurd f.symm c
structure Known (G H:Hp) (A:Ak) (ws:List V) (D:Addr):Prop where
 ex:∃kvs:List (List Key×V),H D=some (.dT kvs)/\∀p ks b,RE G A ws p ks b->∃u,BM kvs ks=some u/\Val (K:=K) G u b.pt
theorem Known.up {G H H':Hp} {A:Ak} {ws:List V} {D:Addr} (h:Known (K:=K) G H A ws D) (s:∀o,H D=some o->H' D=some o):Known (K:=K) G H' A ws D:=by
 obtain⟨kvs,a,b⟩:=h
 exact⟨kvs,s _ a,b⟩
theorem GX {G H:Hp} {A:Ak} {D:Addr} {ws:List V} (h:EU (K:=K) G A D ws) (i:AE G H) {Q:VK} (q:∀p l,AE H l->H p=none->Known (K:=K) G l A ws p->Q (.ref p) l):XG K [.ref D] H Q:=by
 obtain⟨f,rfl,c⟩:=h.ents
 have len:=h.len
 rw[List.length_map]at len
 refine⟨D,f.map (·.t),f.map (fun e=>(e.ks,e.p,e.u)),rfl,An.of (by rw[List.map_map];exact i _ _ h.at_),by rw[List.length_map,List.length_map],fun j k a v e=>?_,by rw[List.length_map];lia,fun p n=>q p _ (AE.new n) n ⟨_,AF,fun o ks b pk=>?_⟩⟩
 ·rw[List.getElem?_map]at e
  cases g:f[j]? with
  |none=>rw[g]at e;cases e
  |some x=>
   rw[g]at e
   cases e
   have d:=c x (AGV g)
   exact⟨x.t,by rw[List.getElem?_map,g];rfl,i _ _ d.tp,i _ _ d.PZ⟩
 ·obtain⟨⟨t,u,s,w⟩,m,y⟩:=pk
  obtain⟨e,r,z⟩:=List.mem_map.mp s
  have d:=c e r
  cases z
  have:=d.tp
  rw[w]at this
  have B:o=e.p:=by cases this;rfl
  have:G o=_:=m
  rw[B,d.PZ]at this
  refine Uj f c ks b y ⟨e,r,?_⟩
  exact Rl (HO.tup.inj (AGU this))
structure Sq (G H:Hp) (A:Ak) (l D nm:Addr) (ws:List V) (ys:List Str) (cs:List Int):Prop where
 sG:AE G H
 nl:G l=none
 as:PX A
 td:EU (K:=K) G A D ws
 nm:Qk G nm ys
 hl:H l=some (.lst (cs.map V.int))
 lc:cs.length<=100
def dY (G:Hp) (A:Ak) (ws:List V) (a:V) (kt lt:List Str) (o:Option (List Key)):Prop:=(a=.Av/\o=none)∨∃p b c,a=.ref p/\o=some b/\RE G A ws p b (.tab kt c lt true)
theorem HN {a:Type} [DecidableEq a]:∀{ks L:List a},ks.Nodup->(∀k∈ks,k∈L)->ks.length<=L.length
 |[],_,_,_=>Nat.zero_le _
 |k::r,L,nd,h=>by
  obtain⟨d,e⟩:=List.nodup_cons.mp nd
  have b:=h k List.mem_cons_self
  have:=HN (ks:=r) (L:=L.erase k) e fun x c=>(List.mem_erase_of_ne (fun z=>d (by rw[<-z];exact c))).mpr (h x (List.mem_cons_of_mem _ c))
  rw[List.length_erase_of_mem b]at this
  have:=List.length_pos_of_mem b
  rw[List.length_cons]
  lia
structure qN (H:Hp) (D:Addr) (ks:List Key) (kt lt:List Str):Prop where
 ex:∃(kvs:List (List Key×V)) (t1 a1 l1:Addr) (Sr:List (Key×V)),H D=some (.dT kvs)/\BM kvs ks=some (.ref t1)/\Bf K H t1 [.str "table",.ref a1,.ref l1,.bl true]/\Rd H a1 (.dK Sr)/\(∀y:Str,(BM Sr (Sum.inr y)).isSome=decide (y∈kt))/\Rd H l1 (.lst (lt.map V.str))
theorem IK {a:List (Key×V)} {b:List Str} (c:a.map (·.1)=b.map Sum.inr) (k:Str):(BM a (Sum.inr k)).isSome=decide (k∈b):=by
 rw[Bool.eq_iff_iff,decide_eq_true_iff]
 have d:(Sum.inr k:Key)∈a.map (·.1)↔k∈b:=by
  rw[c]
  constructor
  ·intro h
   obtain⟨y,f,e⟩:=List.mem_map.mp h
   rw[<-Sum.inr.inj e];exact f
  ·exact fun h=>List.mem_map_of_mem h
 rw[<-d]
 cases e:BM a (Sum.inr k:Key)with
 |none=>simp only[Option.isSome_none];exact⟨(fun h=>nomatch h),fun h=>absurd h (OG e)⟩
 |some z=>simp only[Option.isSome_some];exact⟨fun _=>Mc e,fun _=>trivial⟩
theorem Known.at {G H:Hp} {A:Ak} {ws:List V} {D p:Addr} {ks:List Key} {kt lt:List Str} {xs:List Ak} (h:Known (K:=K) G H A ws D) (a:AE G H) (pk:RE G A ws p ks (.tab kt xs lt true)):qN (K:=K) H D ks kt lt:=by
 obtain⟨kvs,j,k⟩:=h
 obtain⟨u,l,v⟩:=k p ks _ pk
 obtain⟨m,B,rest,rfl,n,o⟩:=v.ak
 rcases o with⟨e,_⟩|⟨d,u,e,_⟩|⟨b,q,u,e,_⟩|⟨r,b,s,q,u,z,e,rfl,rfl,t,w⟩
 ·cases e
 ·cases e
 ·cases e
 cases e
 obtain⟨a1,c,rfl,f,g,C⟩:=t.Qi
 obtain⟨l1,E,rfl,i,x⟩:=w.Mq
 rw[E' x]at i
 exact⟨kvs,m,a1,l1,c,j,l,n.up a,f.up (a _),fun y=>IK g y,i.up (a _)⟩
structure X' (G H6:Hp) (A:Ak) (l p6:Addr) (ys:List Str) (Tl:Str->Prop) (N d n0:Nat) (Hi:Hp) (ks:List Str) (ws:List V) (us:List Pt) (LJ:List Int):Prop where
 kp:∀b e,b≠l->b≠p6->H6 b=some e->Hi b=some e
 dm:∀b,Hi b=none->H6 b=none
 e6:Hi p6=some (.dK (CO ks ws))
 el:Hi l=some (.lst (LJ.map V.int))
 le:LJ.length<=n0
 lw:ks.length=ws.length
 nk:ks.Nodup
 vl:Aj (K:=K) (ov G H6 Hi) ws us
 ms:∀u∈us,∃m:AM,u=m.pt/\m.ok/\m.good A=true/\m.size<=N/\m.deep<=d
 iy:∀k∈ks,k∈ys
 tl:∀k∈ks,Tl k
theorem X'.up {G c:Hp} {A:Ak} {l f:Addr} {ys:List Str} {g:Str->Prop} {N d i:Nat} {j H':Hp} {ks:List Str} {ws:List V} {us:List Pt} {a:List Int} (T:X' (K:=K) G c A l f ys g N d i j ks ws us a) (s:AE j H'):X' (K:=K) G c A l f ys g N d i H' ks ws us a:=
 {T with kp:=fun b e k m n=>s _ _ (T.kp b e k m n),dm:=fun b h=>T.dm b (s.free h),e6:=s _ _ T.e6,el:=s _ _ T.el,vl:=T.vl.up (BL (fun b h=>h) fun b o _ e=>s _ _ e)}
theorem X'.put {G i:Hp} {A:Ak} {l f:Addr} {ys:List Str} {w:Str->Prop} {N d E:Nat} {r g:Hp} {ks:List Str} {ws:List V} {us:List Pt} {s p:List Int} {y:Str} {v:V} {m:AM} (T:X' (K:=K) G i A l f ys w N d E r ks ws us s) (l4:ys.length=4) (F:i f≠none) (x:i l≠none) (H:f≠l)
  (t:Bt (some l) r g) (el:g l=some (.lst (p.map V.int))) (le:p.length<=s.length) (J:Val (K:=K) (ov G r g) v m.pt) (L:m.ok) (M:m.good A=true) (O:m.size<=N) (P:m.deep<=d) (Q:y∈ys) (ty:w y):
  g f=some (.dK (CO ks ws))/\(CO ks ws).length<1000/\∃a c q,putK (CO ks ws) (Sum.inr y) v=CO a c/\X' (K:=K) G i A l f ys w N d E (upd g f (.dK (CO a c))) a c q p:=by
 have k4:=HN T.nk T.iy
 have e6:=t.keep _ _ (fun z=>H (AGU z).symm) T.e6
 have R:r f≠none:=by rw[T.e6];exact fun z=>nomatch z
 have B:∀o,AE (ov G i r) (ov G i (upd g f o)):=fun o=>BL (fun b h=>h) fun b e j n=>by
  rw[AJ (fun z=>F (by rw[<-z];exact j))]
  exact t.keep b e (fun z=>x (by rw[AGU z];exact j)) n
 have up1:∀o,AE (ov G r g) (ov G i (upd g f o)):=fun o=>BL (fun b h=>T.dm b h) fun b e j n=>by
  rw[AJ (fun z=>R (by rw[<-z];exact j))]
  exact n
 obtain⟨a,c,q,S,U,X,Y,I,Z,_⟩:=Yt (K:=K) (y:=y) (J.up (up1 (.dK []))) T.lw T.nk (T.vl.up (B (.dK [])))
 have C:AE (ov G i (upd g f (.dK []))) (ov G i (upd g f (.dK (CO a c)))):=BL (fun b h=>h) fun b e j n=>by
  have nb:b≠f:=fun z=>F (by rw[<-z];exact j)
  rw[AJ nb]at n⊢
  exact n
 refine⟨e6,by rw[EJ T.lw];lia,a,c,q,S,?_⟩
 exact{
  kp:=fun b e j n h=>by rw[AJ n];exact t.keep b e (fun z=>j (AGU z).symm) (T.kp b e j n h)
  dm:=fun b h=>T.dm b (t.GB b (CC h).2)
  e6:=AF
  el:=by rw[AJ (Ne.symm H)];exact el
  le:=Nat.le_trans le T.le
  lw:=U
  nk:=X
  vl:=Y.up C
  ms:=fun u hu=>by
   rcases Z u hu with h|rfl
   ·exact T.ms u h
   ·exact⟨m,rfl,L,M,O,P⟩
  iy:=fun k D=>(I k D).elim (T.iy k) fun e=>by rw[e];exact Q
  tl:=fun k D=>(I k D).elim (T.tl k) fun e=>by rw[e];exact ty}
theorem XJ {A:Ak} {N d:Nat}:∀us:List Pt,(∀u∈us,∃m:AM,u=m.pt/\m.ok/\m.good A=true/\m.size<=N/\m.deep<=d)->∃ms:List AM,us=AM.CY ms/\AM.DD ms/\AM.EK A ms=true/\AM.AL ms<=ms.length*N/\AM.AW ms<=d
 |[],_=>⟨[],rfl,trivial,rfl,by simp[AM.AL],by simp[AM.AW]⟩
 |u::r,h=>by
  obtain⟨m,rfl,a,b,g,h4⟩:=h u List.mem_cons_self
  obtain⟨ms,rfl,c,e,i,j⟩:=XJ r fun x f=>h x (List.mem_cons_of_mem _ f)
  refine⟨m::ms,rfl,⟨a,c⟩,by simp only[AM.EK,b,e,Bool.and_self],?_,?_⟩
  ·simp only[AM.AL,List.length_cons,Nat.add_mul,Nat.one_mul];lia
  ·simp only[AM.AW];lia
inductive Pb (n:Nat) (vs:List V) (H:Hp) (Q:VK):Prop
 |mk (G:Hp) (A:Ak) (l D nm:Addr) (ws:List V) (ys:List Str) (b:List Int) (c:Int) (d:Nat) (e:vs=[.ref l,.int c,.int ((d+1:Nat):Int),.ref D,.ref nm]) (f:Sq (K:=K) G H A l D nm ws ys b) (g:2*d+9<=n) (h:∀(v:V) (m:AM) (a:List Int) (H':Hp),Bt (some l) H H'->H' l=some (.lst (a.map V.int))->a.length<=b.length->Md (K:=K) G H H' A v m (Mb (d+1)) (d+3)->Q v H'):Pb n vs H Q
def NJ (n:Nat):Sp:=fun a H Q _=>Pb (K:=K) n a H Q
inductive Pc (n:Nat) (vs:List V) (H:Hp) (Q:VK):Prop
 |mk (G:Hp) (A:Ak) (l D nm:Addr) (ws:List V) (ys:List Str) (b:List Int) (d:Nat) (c:vs=[.ref l,.int (d:Int),.ref D,.ref nm]) (e:Sq (K:=K) G H A l D nm ws ys b) (f:2*d+8<=n) (g:∀(v:V) (m:AM) (a:List Int) (H':Hp),Bt (some l) H H'->H' l=some (.lst (a.map V.int))->a.length<=b.length->Md (K:=K) G H H' A v m (Mb d) (d+2)->Q v H'):Pc n vs H Q
def HP (n:Nat):Sp:=fun a H Q _=>Pc (K:=K) n a H Q
inductive Ss (vs:List V) (H:Hp) (Q:VK):Prop
 |mk (G:Hp) (p:Addr) (u:V) (A b:Ak) (ks:List Key) (c:vs=[.ref p,u]) (s:AE G H) (a:PX A) (d:Ka G p ks) (e:A.sub ks=some b) (f:Val G u b.pt) (g:∀(w:V) (m:AM) (H':Hp),AE H H'->Md (K:=K) G H H' A w m 800 2->(∀xs mm,b=.row xs mm->∃fs,m=.row fs (if mm=true then some ks else none)/\fs.length<=799)->Q w H'):Ss vs H Q
def RG:Sp:=fun a H Q _=>Ss (K:=K) a H Q
inductive XM (vs:List V) (H:Hp) (Q:VK):Prop
 |mk (G:Hp) (c:Int) (k:Nat) (D:Addr) (w:Str) (A:Ak) (ws:List V) (d:vs=[.int c,.int (k:Int),.ref D,.str w]) (e:k<=10) (s:AE G H) (a:PX A) (f:EU (K:=K) G A D ws) (g:w="row"∨w="table") (h:∀H',AE H H'->Q .Av H') (i:∀(p:Addr) (ks:List Key) (b:Ak) (H':Hp),AE H H'->RE G A ws p ks b->bF w b->Q (.ref p) H'):XM vs H Q
def Su:Sp:=fun a H Q _=>XM (K:=K) a H Q
end
theorem jK {W:List Nat} {n a:Nat} (e:sgn "a"=W.take n) (b:sgn "zq"=W.take a):False:=by
 cases W with
 |nil=>rw[List.take_nil]at e;cases e
 |cons c r=>
  cases n with
  |zero=>cases e
  |succ n=>
   cases a with
   |zero=>cases b
   |succ a=>
    rw[List.take_succ_cons]at e b
    have d:=(List.cons.inj (e:[_]=_)).1
    have f:=(List.cons.inj (b:[_,_]=_)).1
    exact absurd (d.trans f.symm) (by decide)
theorem Sv {a:Type} {ks:List Str} {xs:List a} {k:Str} (h:k∉ks):lk ks xs k=none:=by
 cases e:lk ks xs k with
 |none=>rfl
 |some x=>exact absurd (Jx e).1 h
namespace AM
theorem Uk {xs:List AM} {j:Nat} {b:AM} (h:xs[j]?=some b) (m:AM):xs.set j m=xs.take j++m::xs.drop (j+1)/\xs=xs.take j++b::xs.drop (j+1):=by
 have a:=(AGT h).1
 refine⟨by rw[List.set_eq_take_append_cons_drop,if_pos a],?_⟩
 have:=List.drop_eq_getElem_cons a
 rw[AGS a]at h
 rw[AGU h]at this
 rw[<-this,List.take_append_drop]
theorem Sw {A:Ak} {xs:List AM} {j:Nat} {b m:AM} (h:xs[j]?=some b) (ok:DD xs) (l:m.ok) (d:m.good A=false) (sz:m.size<=b.size+3) (dp:m.deep<=b.deep+3):DD (xs.set j m)/\EK A (xs.set j m)=false/\AL (xs.set j m)<=AL xs+3/\AW (xs.set j m)<=AW xs+3/\(xs.set j m).length=xs.length:=by
 obtain⟨c,e⟩:=Uk h m
 have n:=BI (AGV h)
 have f:=Am (xs.take j) (m::xs.drop (j+1))
 have g:=Am (xs.take j) (b::xs.drop (j+1))
 have i:=Bi (xs.take j) (m::xs.drop (j+1))
 have k:=Bi (xs.take j) (b::xs.drop (j+1))
 simp only[AL,AW]at f g i k
 refine⟨?_,?_,?_,?_,List.length_set⟩
 ·rw[c]
  rw[e]at ok
  refine ES fun x a=>?_
  rcases List.mem_append.mp a with a|a
  ·exact Bx ok x (List.mem_append_left _ a)
  ·rcases List.mem_cons.mp a with rfl|a
   ·exact l
   ·exact Bx ok x (List.mem_append_right _ (List.mem_cons_of_mem _ a))
 ·rw[c,Bc,List.all_append,List.all_cons,d,Bool.false_and,Bool.and_false]
 ·rw[c,f]
  rw[<-e]at g
  lia
 ·rw[c,i]
  rw[<-e]at k
  lia
end AM
theorem ZO:∀{a:List Str} {ws:List V},a.length=ws.length->a.Nodup->∀{j:Nat} {y:Str} (_:a[j]?=some y) (v:V),putK (CO a ws) (Sum.inr y) v=CO a (ws.set j v):=by
 intro a ws l nd j y d v
 have g:(Sum.inr y:Key)∈(CO a ws).map (·.1):=by rw[CP l];exact List.mem_map_of_mem (AGV d)
 have h:((CO a ws).any fun b=>decide (b.1=(Sum.inr y:Key)))=true:=by
  obtain⟨p,f,e⟩:=List.mem_map.mp g
  exact List.any_eq_true.mpr ⟨p,f,decide_eq_true e⟩
 unfold putK
 rw[if_pos h]
 clear g h
 induction a generalizing ws j with
 |nil=>simp at d
 |cons x r m=>
  cases ws with
  |nil=>simp at l
  |cons w ws=>
   have i:r.length=ws.length:=by simpa using l
   obtain⟨k,n⟩:=List.nodup_cons.mp nd
   show _::_=_
   cases j with
   |zero=>
    have e:x=y:=by simpa using d
    subst e
    have rest:(CO r ws).map (fun b=>if b.1=(Sum.inr x:Key)then(b.1,v)else b)=CO r ws:=by
     refine(List.map_congr_left fun p f=>?_).trans (List.map_id _)
     rw[if_neg fun z=>k ?_]
     ·rfl
     ·have:p.1∈(CO r ws).map (·.1):=List.mem_map_of_mem f
      rw[CP i,z]at this
      obtain⟨q,o,e⟩:=List.mem_map.mp this
      rw[<-Sum.inr.inj e]
      exact o
    show(if(Sum.inr x:Key)=Sum.inr x then((Sum.inr x:Key),v)else _)::(CO r ws).map _=(Sum.inr x,v)::CO r ws
    rw[if_pos rfl,rest]
   |succ j=>
    have c:r[j]?=some y:=by simpa using d
    have s:x≠y:=fun z=>k (by rw[z];exact AGV c)
    show(if(Sum.inr x:Key)=Sum.inr y then((Sum.inr x:Key),v)else(Sum.inr x,w))::(CO r ws).map _=(Sum.inr x,w)::CO r (ws.set j v)
    rw[if_neg (fun z=>s (Sum.inr.inj z)),m i n c]
theorem AM.Kh {bs:List AM} {i:Nat} {b:AM} (h:bs[i]?=some b):AM.AL (bs.take (i+1))=AM.AL (bs.take i)+b.size/\AM.AL (bs.take (i+1))<=AM.AL bs:=by
 constructor
 ·rw[List.take_add_one,h,AM.Am]
  simp[AM.AL]
 ·have:=AM.Am (bs.take (i+1)) (bs.drop (i+1))
  rw[List.take_append_drop]at this
  lia
def Ak.ZP:Ak->Bool
 | .row _ m=>m
 |_=>false
def Ak.XN:Ak->Bool
 | .tab _ _ _ m=>m
 |_=>false
theorem AM.ZQ {A b:Ak} {ks:List Key} (h:A.sub ks=some b):AM.Ke A ks=b.ZP:=by
 unfold AM.Ke
 rw[h]
 cases b<;>rfl
theorem AM.ZR {A b:Ak} {ks:List Key} (h:A.sub ks=some b):AM.HI A [] ks=b.XN:=by
 unfold AM.HI
 rw[h]
 cases b with
 |tab k x l m=>exact Bool.and_true m
 |_=>rfl
mutual
theorem Ak.dZ:∀{a b:Ak} {k:Key},a.Fz->a.De k=some b->b.Fz
 | .any,b,k,_,h=>by cases k<;>cases h
 | .As d,b,k,_,h=>by
  simp only[Ak.De,Option.map_eq_some_iff]at h
  obtain⟨u,_,rfl⟩:=h
  trivial
 | .row c m,b,.inl i,f,h=>by
  simp only[Ak.De]at h
  split at h
  ·exact Ak.FX f b (AGV h)
  ·cases h
 | .row c m,b,.inr x,_,h=>by cases h
 | .tab e c g m,b,.inl i,_,h=>by cases h
 | .tab e c g m,b,.inr x,f,h=>Ak.FX f.2 b (Jx (show lk e c x=some b from h)).2
end
theorem Ak.Sx:∀{ks:List Key} {a b:Ak},a.Fz->a.sub ks=some b->b.Fz
 |[],a,b,f,h=>by cases h;exact f
 |k::r,a,b,f,h=>by
  simp only[Ak.sub]at h
  cases d:a.De k with
  |none=>rw[d]at h;cases h
  |some c=>rw[d]at h;exact Ak.Sx (Ak.dZ f d) h
theorem Ul {ys kt lt:List Str} (l4:ys.length=4) (nd:ys.Nodup) (b:(("a":Str)∈ys)->(("zq":Str)∈ys)->False) (Fz:kt.length+lt.length<=4):∃y∈ys++(["a","zq"]:List Str),y∉kt/\y∉lt:=by
 refine Classical.byContradiction fun c=>?_
 have all:∀y∈ys++(["a","zq"]:List Str),y∈kt++lt:=fun y d=>by
  refine Classical.byContradiction fun z=>c ⟨y,d,fun h=>z (List.mem_append_left _ h),fun h=>z (List.mem_append_right _ h)⟩
 obtain⟨z,e,f⟩:∃z:Str,z∈(["a","zq"]:List Str)/\z∉ys:=by
  by_cases h:("a":Str)∈ys
  ·exact⟨"zq",by simp,fun g=>b h g⟩
  ·exact⟨"a",by simp,h⟩
 have:=HN (ks:=z::ys) (L:=kt++lt) (List.nodup_cons.mpr ⟨f,nd⟩) fun k a=>by
  rcases List.mem_cons.mp a with rfl|a
  ·exact all _ (List.mem_append_right _ e)
  ·exact all _ (List.mem_append_left _ a)
 rw[List.length_cons,List.length_append]at this
 lia
section
variable{K:AGW} [BY K]
def Ca (H:Hp) (P:List Key->Prop) (N:Nat) (ws:List V):Prop:=∀w∈ws,∃p a,w=.ref p/\Ka H p a/\P a/\a.length<=N
theorem Ca.up {H H':Hp} {P:List Key->Prop} {N:Nat} {ws:List V} (h:Ca H P N ws) (s:AE H H'):Ca H' P N ws:=fun w hw=>by
 obtain⟨p,a,b,c,d⟩:=h w hw
 exact⟨p,a,b,c.up s,d⟩
theorem Ca.append {H:Hp} {P:List Key->Prop} {N:Nat} {ws us:List V} (h:Ca H P N ws) (g:Ca H P N us):Ca H P N (ws++us):=fun w hw=>(List.mem_append.mp hw).elim (h w) (g w)
theorem Ca.imp {H:Hp} {P R:List Key->Prop} {N M:Nat} {ws:List V} (h:Ca H P N ws) (i:∀kk,P kk->R kk) (l:N<=M):Ca H R M ws:=fun w hw=>by
 obtain⟨p,kk,a,b,c,d⟩:=h w hw
 exact⟨p,kk,a,b,i kk c,Nat.le_trans d l⟩
theorem LI.but {G Hf Hi:Hp} {D:Addr} (k:LI G Hf) (nD:∀u,¬Rd G D u) (s:∀b e,b≠D->Hf b=some e->Hi b=some e):LI G Hi where
 rd:=fun b u r=>(k.rd b u r).up fun o e=>s b o (fun z=>nD u (by rw[<-z];exact r)) e
 tp:=fun b xs e=>s b _ (fun z=>nD _ (by rw[<-z];exact .inl e)) (k.tp b xs e)
theorem Aj.de {G:Hp}:∀{vs:List V} {us:List Pt},Aj (K:=K) G vs us->∀{v:V} {t:Pt},Val (K:=K) G v t->∀j:Nat,Aj (K:=K) G (vs.set j v) (us.set j t)
 |_,_,.nil,_,_,_,_=>.nil
 |_,_,.cons h r,_,_,g,0=>.cons g r
 |_,_,.cons h r,_,_,g,j+1=>.cons h (r.de g j)
def BC (H:Hp) (A:Ak) (N:Nat) (ws:List V):Prop:=∀w∈ws,∃p a,w=.ref p/\Ka H p a/\A.sub a=none/\a.length<=N
theorem BC.up {H H':Hp} {A:Ak} {N:Nat} {ws:List V} (h:BC H A N ws) (s:AE H H'):BC H' A N ws:=fun w hw=>by
 obtain⟨p,a,b,c,d⟩:=h w hw
 exact⟨p,a,b,c.up s,d⟩
theorem BC.set {H:Hp} {A:Ak} {N:Nat} {ws ys zs:List V} {D:Addr} (h:BC H A N ws) (b:H D=some (.lst ys)):BC (upd H D (.lst zs)) A N ws:=fun w hw=>by
 obtain⟨p,c,d,a,e⟩:=h w hw
 refine⟨p,c,d,?_,e⟩
 show upd H D (.lst zs) p=_
 rw[AJ (fun z=>by have a:H p=_:=a;rw[z,b]at a;cases a)]
 exact a
theorem BC.append {H:Hp} {A:Ak} {N:Nat} {ws us:List V} (h:BC H A N ws) (g:BC H A N us):BC H A N (ws++us):=fun w hw=>(List.mem_append.mp hw).elim (h w) (g w)
theorem BC.one {H:Hp} {A:Ak} {N:Nat} {p:Addr} {kk:List Key} (h:Ka H p kk) (e:A.sub kk=none) (l:kk.length<=N):BC H A N [.ref p]:=fun w hw=>⟨p,kk,List.mem_singleton.mp hw,h,e,l⟩
theorem BC.mono {H:Hp} {A:Ak} {N M:Nat} {ws:List V} (h:BC H A N ws) (l:N<=M):BC H A M ws:=fun w hw=>by
 obtain⟨p,a,b,c,d,e⟩:=h w hw
 exact⟨p,a,b,c,d,Nat.le_trans e l⟩
theorem Ei {H:Hp} {p:Addr} {ks rs:List Key} (f:H p=some (.tup (ks.map kV++rs.map kV))):Ka H p (ks++rs):=by
 show H p=_
 rw[f,List.map_append]
def Pd:Sp:=fun d H Q _=>∃c:Int,d=[.int c]/\∀(p:Addr) (a:List Str) (b:Hp),AE H b->H p=none->Qk b p a->((("a":Str)∈a)->(("zq":Str)∈a)->False)->Q (.ref p) b
theorem IL {G H:Hp} {A:Ak} {D:Addr} {c:List RF} {z:TT} {fs:List Nat} {B:St} {Q:VK} (l:∀e∈c,dX (K:=K) G A e) (C:AE G H) (m:H D=some (.lst (c.map fun e=>V.ref e.t))) (M:c.length<=900) (k:Ak->Bool) (o:∀(e:RF) (q:Hp) (R:Bool->Hp->Prop),Val (K:=K) q e.u e.b.pt->R (k e.b) q->z (some (.ref e.p)::some e.u::Bn B fs) q R)
  (E:∀(s:Addr) (x:List V),H s=none->(∀w∈x,∃e∈c,w=.ref e.p/\k e.b=true)->x.length<=900->Q (.ref s) (upd H s (.lst x))):JN K (gF K D) z (Ga 0) fs B H Q:=by
 have ix:∀{i:Nat},i<c.length->c[i]?=some (c.getD i default):=fun{i} h=>by rw[List.getD_eq_getElem?_getD,AGS h];rfl
 have g:∀{i:Nat},i<c.length->dX (K:=K) G A (c.getD i default):=fun h=>l _ (AGV (ix h))
 have lt:∀{i:Nat},i<c.length->(c.map fun e=>V.ref e.t)[i]?=some (.ref (c.getD i default).t):=fun h=>by rw[List.getElem?_map,ix h];rfl
 refine KX (n:=c.length) (fun i=>(c.getD i default).t) (fun i=>.ref (c.getD i default).p) (fun i=>(c.getD i default).u) (fun i=>.ref (c.getD i default).p) (fun i=>k (c.getD i default).b) (Ah (by lia))
  (fun i f j d a=>⟨_,_,(AE.new a).seq (An.of m),lt d⟩) (fun i f j v N d a y=>?_) (fun i f j d a=>.of ((AE.new a) _ _ (C _ _ (g d).tp))) (fun f j a=>⟨_,(AE.new a).seq (An.of m),by rw[List.length_map];exact Nat.le_refl _⟩)
  (fun i f j R d a r=>o _ _ R (((g d).val.up C).up (AE.new a)) r) (fun i f j R d a _ r=>⟨_,rfl,r⟩) fun f a=>E f _ a (fun v F=>?_) ?_
 ·obtain⟨e,I⟩:=y
  have:=I _ ((AE.new a).seq (An.of m))
  rw[lt d]at this
  exact⟨(AGU this).symm,e⟩
 ·obtain⟨i,d,rfl⟩:=List.mem_map.mp F
  obtain⟨J,L⟩:=List.mem_filter.mp d
  exact⟨_,AGV (ix (List.mem_range.mp J)),rfl,L⟩
 ·rw[List.length_map]
  have:=List.length_filter_le (fun i=>k (c.getD i default).b) (List.range c.length)
  rw[List.length_range]at this
  lia
inductive XO (vs:List V) (H:Hp) (Q:VK):Prop
 |mk (G:Hp) (p:Addr) (u:V) (nm:Addr) (A b:Ak) (ks:List Key) (ys:List Str) (c:vs=[.ref p,u,.ref nm]) (s:AE G H) (a:PX A) (d:Ka G p ks) (e:A.sub ks=some b) (f:Val (K:=K) G u b.pt) (g:Qk G nm ys) (h:∀(D:Addr) (ws:List V) (H':Hp),AE H H'->H' D=some (.lst ws)->ws≠[]->ws.length<=5->BC H' A 21 ws->Q (.ref D) H'):XO vs H Q
def bK:Sp:=fun a H Q _=>XO (K:=K) a H Q
inductive Pe (vs:List V) (H:Hp) (Q:VK):Prop
 |mk (G:Hp) (c:Int) (D nm:Addr) (A:Ak) (ws:List V) (ys:List Str) (b:vs=[.int c,.ref D,.ref nm]) (s:AE G H) (a:PX A) (d:EU (K:=K) G A D ws) (e:Qk G nm ys) (f:(("a":Str)∈ys)->(("zq":Str)∈ys)->False) (g:∀(v:V) (m:AM) (H':Hp),AE H H'->Val (K:=K) H' v m.pt->m.ok->m.good A=false->m.size<=2->m.deep<=2->Q v H'):Pe vs H Q
def Sy:Sp:=fun a H Q _=>Pe (K:=K) a H Q
inductive Pf (n:Nat) (vs:List V) (H:Hp) (Q:VK):Prop
 |mk (G:Hp) (v w:V) (c:Int) (k:Nat) (A:Ak) (m a:AM) (e:vs=[v,.int c,.int (k:Int),w]) (s:AE G H) (f:Val (K:=K) G v m.pt) (g:m.ok) (h:Val (K:=K) G w a.pt) (i:a.ok) (j:a.good A=false) (l:a.size<=2) (o:a.deep<=2) (p:k+m.deep<=100) (r:m.deep+3<=n) (q:∀(d:V) (b:AM) (H':Hp),AE H H'->Val (K:=K) (ov G H H') d b.pt->b.ok->b.good A=false->b.size<=m.size+3->b.deep<=m.deep+3->Q d H'):Pf n vs H Q
def JP (n:Nat):Sp:=fun a H Q _=>Pf (K:=K) n a H Q
inductive Sz (n:Nat) (vs:List V) (H:Hp) (Q:VK):Prop
 |mk (G:Hp) (v:V) (A:Ak) (m:AM) (b:vs=[v]) (s:LI G H) (c:Val (K:=K) G v m.pt) (d:m.ok) (e:m.good A=true) (f:m.size<=20000) (g:m.deep+3<=n) (q:∀(D:Addr) (ws:List V) (H':Hp),AE H H'->H D=none->H' D=some (.lst ws)->ws.length<=m.size->(∀w∈ws,∃a,Val (K:=K) G w (AM.pt a)/\a.ok/\a.good A=true/\a.size<=m.size)->Q (.ref D) H'):Sz n vs H Q
def NK (n:Nat):Sp:=fun a H Q _=>Sz (K:=K) n a H Q
end
namespace Ak
mutual
theorem S_:∀a:Ak,a.RA->a.GU
 |any,_=>trivial
 |As _,_=>trivial
 |row xs _,o=>by simp only[RA]at o;simp only[GU];exact Ki xs o.2
 |tab _ xs _ _,o=>by
  simp only[RA]at o
  simp only[GU]
  refine⟨fun z=>?_,Ki xs o.2.2⟩
  rcases o.1 with h|h
  ·exact h.2
  ·rw[z]at h;cases h.1
theorem Ki:∀xs:List Ak,O' xs->Q_ xs
 |[],_=>trivial
 |x::r,o=>by simp only[O']at o;exact⟨S_ x o.1,Ki r o.2⟩
end
theorem Pg {a:List Ak} (m:Bool) (h:IA a):(B_ a m).Fz:=by
 unfold B_
 cases m with
 |true=>rw[if_pos rfl];exact h
 |false=>
  rw[if_neg (by decide)]
  cases e:EC a with
  |some b=>trivial
  |none=>exact h
theorem Ph {ss:List Str} {a:List Ak} {ls:List Str} (m:Bool) (l:ss.length+ls.length<=4) (h:IA a):(B' ss a ls m).Fz:=by
 unfold B'
 cases m with
 |true=>rw[if_pos rfl];exact⟨l,h⟩
 |false=>
  rw[if_neg (by decide)]
  cases e:EC a with
  |some b=>trivial
  |none=>exact⟨by rw[List.length_nil];lia,h⟩
mutual
theorem Good.Fz:∀{a b:Ak},Good a b->a.CF->a.Fz->b.Fz
 |_,_,.any,_,_=>trivial
 |_,_,.As _,_,_=>trivial
 |_,_,.row (m:=m) h,o,s=>by
  simp only[Ak.CF]at o
  simp only[Ak.Fz]at s
  exact Pg m (h.Fz (CS o) (FX s))
 |_,_,.tab (m:=m) d k e h,o,s=>by
  simp only[Ak.CF]at o
  simp only[Ak.Fz]at s
  obtain⟨g,i,l,n,p,q,j⟩:=o
  have f:=DO g i d e
  exact Ph m (by rw[d.length_eq];exact s.1) (h.Fz (fun x c=>CS j x (f.mem_iff.mp c)) (fun x c=>FX s.2 x (f.mem_iff.mp c)))
theorem D_.Fz:∀{as c:List Ak},D_ as c->(∀a∈as,a.CF)->(∀a∈as,a.Fz)->IA c
 |_,_,.nil,_,_=>trivial
 |_,_,.cons h r,o,s=>⟨h.Fz (o _ List.mem_cons_self) (s _ List.mem_cons_self),r.Fz (fun x b=>o x (List.mem_cons_of_mem _ b)) (fun x b=>s x (List.mem_cons_of_mem _ b))⟩
end
end Ak
theorem MC {ks:List Key} (l:ks.length<=200):(GF ks).nice:=by
 unfold GF
 simp only[Pt.nice]
 refine⟨by rw[List.length_map];lia,Pt.J_ fun x a=>?_⟩
 obtain⟨k,_,rfl⟩:=List.mem_map.mp a
 cases k<;>trivial
theorem IM:∀ks:List Key,Pt.AW (ks.map jH)<=1
 |[]=>by simp[Pt.AW]
 |k::r=>by
  have:=IM r
  cases k<;>simp only[List.map_cons,jH,Pt.AW,Pt.deep]<;>lia
theorem Pj {o:Option (List Key)} (h:AM.gP o):(GW o).nice:=by
 cases o with
 |none=>trivial
 |some a=>exact MC h
theorem Pk (o:Option (List Key)):(GW o).deep<=2:=by
 cases o with
 |none=>simp only[GW,Pt.deep];lia
 |some a=>have:=IM a;simp only[GW,GF,Pt.deep];lia
namespace AM
mutual
theorem nice:∀m:AM,m.ok->m.pt.nice
 |Ic p,o=>by
  simp only[ok]at o
  simp only[pt,Pt.nice,Pt.CG]
  exact⟨by simp,trivial,MC o,trivial⟩
 |Kw d,o=>by
  simp only[ok]at o
  simp only[pt,Pt.nice,Pt.CG]
  exact⟨by simp,trivial,Pt.J' d o.1 o.2.1,trivial⟩
 |row xs t,o=>by
  simp only[ok]at o
  simp only[pt,Pt.nice,Pt.CG]
  exact⟨by simp,trivial,⟨by rw[AZ,List.length_map];exact o.1,CG xs o.2.2⟩,Pj o.2.1,trivial⟩
 |tab ks xs t,o=>by
  simp only[ok]at o
  simp only[pt,Pt.nice,Pt.CG]
  exact⟨by simp,trivial,⟨by rw[AZ,List.length_map];exact o.1,o.2.1,by lia,CG xs o.2.2.2.2⟩,Pj o.2.2.2.1,trivial⟩
theorem CG:∀xs:List AM,DD xs->Pt.CG (CY xs)
 |[],_=>trivial
 |x::r,o=>by simp only[DD]at o;exact⟨nice x o.1,CG r o.2⟩
end
mutual
theorem S':∀m:AM,m.ok->m.pt.deep<=2*m.deep+30
 |Ic p,o=>by have:=IM p;simp only[pt,Pt.deep,Pt.AW,GF,deep];lia
 |Kw d,o=>by simp only[ok]at o;simp only[pt,Pt.deep,Pt.AW,deep];lia
 |row a t,o=>by simp only[ok]at o;have:=Kj a o.2.2;have:=Pk t;simp only[pt,Pt.deep,Pt.AW,deep];lia
 |tab b a t,o=>by simp only[ok]at o;have:=Kj a o.2.2.2.2;have:=Pk t;simp only[pt,Pt.deep,Pt.AW,deep];lia
theorem Kj:∀xs:List AM,DD xs->Pt.AW (CY xs)<=2*AW xs+30
 |[],_=>by simp[CY,Pt.AW]
 |x::r,o=>by simp only[DD]at o;have:=S' x o.1;have:=Kj r o.2;simp only[CY,Pt.AW,AW];lia
end
end AM
theorem BZ {H:Hp} {p:Addr} {o:HO} (h:H p=none):∃H',upd H p o=H'/\AE H H'/\H' p=some o:=⟨_,rfl,AE.new h,AF⟩
theorem Ao.mm {j k:Nat} {A:Around} (r:Ao k A) (h:j<=k:=by first|decide|omega):Ao j A:=r.mono h
theorem Br (K:AGW) {X:Cx} {j:Int} (i:Nat) {x:Str} {y:_} {b c pos:Pos} (d:X.N[i]?=some x:=by rfl) (f:mE X.env.scope x:=by first|exact Or.inl rfl|exact Or.inr (Or.inl rfl)|exact Or.inr (Or.inr rfl)) (g:(x==("__debug__":Str))=false:=by decide)
  (a:(x==("__classdict__":Str))=false:=by decide) (e:X.K=K:=by rfl):PE X (.Subscript (.Name x b) (.Constant (.int j) y c) pos) (U_ (MX K) (Ga i) (tC (.int j))):=by
 subst e
 exact Az GL (pv i d f g a) AG (fun _ _=>rfl)
theorem Ai (i:Nat) {X:Cx} {x:Str} {e:Expr} {a:TE} {pos pos':Pos} (b:X.N.Nodup) (c:PE X e a) (d:X.N[i]?=some x:=by rfl) (f:Loc X.env.scope x:=by exact Or.inl rfl) (g:swapsWith e (some (.Name x pos')) pos.line X.env=pure false:=by rfl) (h:X.fn x=true∨X.env.scope.names.lookup x=some .local:=by first|exact .inl rfl|exact .inr rfl|assumption):
  PS X (.Assign [.Name x pos'] e pos) (QH a (BP i)):=En b d f c g h
theorem Dg {x y z:V}:[x,y,z].length<=sizeLine:=Ah (show 3<=1000 by decide)
theorem C_ (i:Nat) {X:Cx} {x:Str} {pos:Pos} (a:X.N.Nodup) (b:X.N[i]?=some x:=by rfl) (c:Loc X.env.scope x:=by exact Or.inl rfl) (d:X.fn x=true∨X.env.scope.names.lookup x=some .local:=by first|exact .inl rfl|exact .inr rfl|assumption):PG X (.Name x pos) (BP i):=Gd a b c d
end L2
namespace df
open PySem L2
def top (i:Nat):Stmt:=PySem.Challenge.pw_patchbough_k54_makes_over_asks.main.body.getD i (.Pass ⟨0,0,0,0⟩)
abbrev Dn:Stmt:=top 1
abbrev Fu:Stmt:=top 2
abbrev EA:Stmt:=top 4
abbrev Ej:Stmt:=top 5
abbrev DG:Stmt:=top 6
abbrev Fv:Stmt:=top 7
abbrev IP:Stmt:=top 9
abbrev Dp:Stmt:=top 12
abbrev Co:Stmt:=top 13
abbrev Fw:Stmt:=top 14
abbrev DH:Stmt:=top 15
abbrev Fx:Stmt:=top 16
abbrev Dq:Stmt:=top 17
abbrev Ds:Stmt:=top 18
abbrev Ek:Stmt:=top 19
abbrev DI:Stmt:=top 20
abbrev DJ:Stmt:=top 21
abbrev IQ:Stmt:=top 23
abbrev DK:Stmt:=top 24
abbrev Cp:Stmt:=top 25
abbrev Cq:Stmt:=top 26
abbrev MD:Stmt:=top 28
abbrev RH:Stmt:=top 29
abbrev IS:Stmt:=top 30
abbrev Um:Stmt:=top 31
abbrev Kk:Stmt:=top 32
abbrev Kl:Stmt:=top 33
abbrev Km:Stmt:=top 34
abbrev Uo:Stmt:=top 35
abbrev ME:Stmt:=top 36
abbrev GY:Stmt:=top 37
abbrev GZ:Stmt:=top 38
abbrev Fy:Stmt:=top 39
abbrev IT:Stmt:=top 40
abbrev FC:Stmt:=top 41
abbrev RI:Stmt:=top 42
abbrev IU:Stmt:=top 43
abbrev NL:Stmt:=top 44
inductive bL {a:Type} (b c:a->Prop):Prop
 |mk (d:a) (e:b d) (f:c d):bL b c
inductive bM {c d:Type} (e f g h i j k l m:c->d->Prop):Prop
 |mk (a:c) (b:d) (n:e a b) (o:f a b) (p:g a b) (q:h a b) (h4:i a b) (r:j a b) (s:k a b) (t:l a b) (u:m a b):bM e f g h i j k l m
inductive XP {d e f:Type} (h i j k l m n o p q g:d->e->f->Prop):Prop
 |mk (a:d) (b:e) (c:f) (s:h a b c) (t:i a b c) (u:j a b c) (v:k a b c) (h4:l a b c) (w:m a b c) (x:n a b c) (y:o a b c) (z:p a b c) (A:q a b c) (r:g a b c):XP h i j k l m n o p q g
inductive bN {a b c d:Type} (i j k l:a->b->c->d->Prop):Prop
 |mk (e:a) (f:b) (g:c) (h:d) (m:i e f g h) (n:j e f g h) (o:k e f g h) (p:l e f g h):bN i j k l
end df
namespace df
open PySem L2
section
variable{P:Program} {w:World} {K:AGW} [BY K] {mg:Str->Option Value} {base:Heap}
theorem Kn:Al ["root","inner","found","at"] ["root","inner"] (AI Dn):={}
theorem Pl {B:Addr} {i:FuncData} {f:Addr} {Z:FuncData} (F:DN K "gathered" "gathered" Dn f Z) (T:Txt mg) (kI:PySem.W.keepIn K (.ref B)=true) (bI:Binds K i ["node"] []) (GI:BH P w K mg base Cs 3 B i ["node"] KJ):BH P w K mg base Cs 4 f Z ["root","inner"] (M' B):=by
 refine F.ok Kn (fun vs H Q E h=>?_) (fun Gm A outer s H vs Q E hr h=>?_)
 ·obtain⟨G,v,t,n,rfl,sG,hv,j,d,q⟩:=h
  rfl
 ·obtain⟨G,v,t,n,rfl,sG,hv,j,d,q⟩:=h
  have nd:=Kn.nd
  have hu:=BQ hr
  have I:Ao 3 _:=hr.mono (by decide)
  refine⟨_,(AD (Ai 2 nd (A_ (AA (pv 0) AB)))
   (AD (Ai 3 nd AG)
   (AD (Nj PassesOwn.never (AO LR (pv 3) (AY Ag rfl T.len PySem.boot_len (AA (pv 2) AB)) (AS _)) (AD (DL (FF PySem.F.plainAttrs_list PySem.F.slot_list_extend PySem.F.type_list_extend Cj (pv 2) (AA (Ju (pv 1) GI I kI bI .nil AX (AA (Az (r:=Bp K) Ae (pv 2) (pv 3) (fun _ _=>rfl)) AB)) AB)))
   (AH (Ai 3 nd (AN By (pv 3) AG)))))
   (AH (AQ (pv 2)))))),?_⟩
  refine⟨_,rfl,Ax,fun L J=>?_⟩
  have s0:=AE.new (o:=.lst [v]) J
  dsimp only[BP,QF]
  refine Ry (fun m M C=>∃(c:List V) (l:List Pt) (b:List (List Pt)) (k:Nat),M=[some v,some (.ref B),some (.ref L),some (.int (k:Int))]/\AE H C/\C L=some (.lst c)/\Aj G c l/\Qx t k l b/\k<=l.length/\ET m (l.drop k)/\k+m=n)
   (n+0) ⟨[v],[t],[],0,rfl,s0,AF,.cons hv .nil,.start,by simp,.cons j .nil,by simp⟩ ?_ (fun M H Q Q' h ⟨v1,e1,v2,e2,a1,n1,e3,l1,i1,j1,e4,e5,b1,e6,q⟩=>⟨v1,e1,v2,e2,a1,n1,e3,l1,i1,j1,e4,e5,b1,e6,h _ _ q⟩)
  rintro m M C ⟨c,l,b,k,rfl,N,a,D,bf,hkl,O,hk⟩
  have le:=D.length
  refine⟨_,rfl,_,rfl,L,_,rfl,.inl (An.of a),_,_,rfl,rfl,_,rfl,?_⟩
  have ld:=O.len
  rw[List.length_drop]at ld
  refine Vc (fun R=>?_) (fun R=>?_)
  ·have S:k<c.length:=by
    have:=of_decide_eq_true R
    omega
   obtain⟨x,hx⟩:∃x,c[k]?=some x:=⟨_,AGS S⟩
   obtain⟨tx,g,vx⟩:=D.get hx
   obtain⟨n',zI,nx⟩:=jD O hk g d
   refine⟨_,rfl,.inl ⟨rfl,_,An.of a⟩,_,rfl,rfl,_,rfl,_,rfl,L,_,_,_,rfl,rfl,An.of a,BA hx,G,x,tx,n',rfl,sG.trans N,vx,nx,fun p U us H2 s2 np hp u kd=>?_⟩
   obtain⟨_,lu,m',X,y,ek⟩:=Yw O hk g kd d
   have qO:=u.length
   have Y:=y.len
   rw[List.length_drop,List.length_append]at Y
   refine⟨L,p,_,_,rfl,rfl,s2 _ _ a,hp,CT (by omega),_,rfl,_,_,rfl,rfl,m',X,c++U,l++us,b++[us],k+1,rfl,(N.trans s2).put J,AF,D.append u,.next bf g kd,by rw[List.length_append];omega,y,by omega⟩
  ·have hge:c.length<=k:=by
    refine Nat.le_of_not_lt fun z=>R (decide_eq_true ?_)
    omega
   have e:k=l.length:=by omega
   subst e
   exact⟨_,rfl,q L c l b C N J a D bf (by omega)⟩
theorem Pm:Al ["root","inner","join","found","told","end","at","start"] ["root","inner","join"] (AI Fu):={}
theorem Up {Z fJ:Addr} {zm zo:FuncData} {f:Addr} {fd:FuncData} (F:DN K "folded" "folded" Fu f fd) (T:Txt mg) (g:Df P w K mg base "gathered" ["root","inner"] 4 (M' Z)) (kI:PySem.W.keepIn K (.ref Z)=true) (bI:Binds K zm ["node"] []) (GI:BH P w K mg base Cs 3 Z zm ["node"] KJ) (kJ:PySem.W.keepIn K (.ref fJ)=true) (bJ:Binds K zo ["asks","told"] []) (GJ:BH P w K mg base Cs 5 fJ zo ["asks","told"] KQ):BH P w K mg base Cs 6 f fd ["root","inner","join"] (SQ Z fJ):=by
 obtain⟨N,O,k,m,t,u⟩:=g.ex
 refine F.ok Pm (fun vs H Q E h=>?_) (fun Gm A outer s H vs Q E hr h=>?_)
 ·obtain⟨G,v,a,rfl,sG,hv,R,Uq,q⟩:=h
  rfl
 ·obtain⟨G,v,a,rfl,sG,hv,R,Uq,q⟩:=h
  have nd:=Pm.nd
  have hu:=BQ hr
  have c:Ao 4 _:=hr.mm
  have hrI:Ao 3 _:=hr.mono (by decide)
  have hrJ:Ao 5 _:=hr.mono (by decide)
  refine⟨_,(AD (Ai 3 nd (AK u c rfl t k m .nil AX (AA (pv 0) (AA (pv 1) AB))))
   (AD (Ai 4 nd (AN cJ (A_ (AA CL AB)) (AY Ag rfl T.len PySem.boot_len (AA (pv 3) AB))))
   (AD (Ai 5 nd (AY Ag rfl T.len PySem.boot_len (AA (pv 3) AB)))
   (AD (CM PassesOwn.never rfl (UR rfl T.range (AA (AN GH (AY Ag rfl T.len PySem.boot_len (AA (pv 3) AB)) AG) (AA (Rb MP AG) (AA (Rb MP AG) AB)))) (C_ 6 nd) (AD (Ai 7 nd (AN GH (pv 5) (AY Ag rfl T.len PySem.boot_len (AA (Ju (pv 1) GI hrI kI bI .nil AX (AA (Az (r:=Bp K) Ae (pv 3) (pv 6) (fun _ _=>rfl)) AB)) AB))))
   (AD (QI (Ju (pv 2) GJ hrJ kJ bJ .nil AX (AA (Az (r:=Bp K) Ae (pv 3) (pv 6) (fun _ _=>rfl)) (AA (DR (r:=VS K) JD (pv 4) (Dh (pv 7)) (Dh (pv 5))) AB))) (VF (pv 4) (pv 6) set_list))
   (AH (Ai 5 nd (pv 7))))))
   (AH (AQ (Az (r:=Bp K) Ae (pv 4) AG (fun _ _=>rfl)))))))),?_⟩
  have zs:=a.Mz
  have bO:=a.nd R (by lia)
  refine⟨_,rfl,_,rfl,G,v,a.pt,a.size,rfl,sG,hv,bO,by lia,fun p es l gL H1 s1 np hp vl bf l9'=>?_⟩
  have l9:l.length<=900:=by lia
  obtain⟨Y,d,B,rfl⟩:=Ak.Wj R bf
  rw[List.length_map]at B bf l9
  have le:=vl.length
  rw[List.length_map]at le
  have las:=B.len
  have l0:1<=Y.length:=by rw[B.eq];simp
  refine⟨Ax,fun p0 ZS=>?_⟩
  obtain⟨H2,L,t0,f0⟩:=BZ (o:=.lst [.Av]) ZS
  rw[L];clear L
  refine⟨_,rfl,p,_,rfl,.inl (An.of (t0 _ _ hp)),p0,_,_,rfl,rfl,f0,by lia,by lia,Ah (by simp;lia),fun I C=>?_⟩
  have e1:(List.replicate ((es.length:Nat):Int).toNat [V.Av]).flatten=List.replicate es.length .Av:=by
   rw[Int.toNat_natCast]
   generalize es.length=n
   induction n with
   |zero=>rfl
   |succ n ih=>rw[List.replicate_succ,List.flatten_cons,ih];rfl
  rw[e1]
  obtain⟨H3,L,tT,fT⟩:=BZ (o:=.lst (List.replicate es.length .Av)) C
  rw[L];clear L
  have s13:=t0.trans tT
  have S3:=s1.trans s13
  have S:=s13 _ _ hp
  have zp:H I=none:=(s1.trans t0).free C
  refine⟨_,rfl,p,_,rfl,.inl (An.of S),?_⟩
  refine⟨_,rfl,p,_,rfl,.inl (An.of S),_,_,rfl,rfl,_,rfl,_,rfl,Y.length,by rw[le],by lia,?_⟩
  refine Wc (n:=Y.length) (fun i σ M=>∃(D:List V) (o6 o7:Option V),σ=[some v,some (.ref Z),some (.ref fJ),some (.ref p),some (.ref I),some (.int ((1+(d.take i).flatten.length:Nat):Int)),o6,o7]/\Bt (some I) H3 M/\M I=some (.lst D)/\Fd H3 M Y D i) ⟨_,none,none,?_,.refl,fT,⟨by simp[le],fun j x h1 h2=>?_⟩⟩ ?_ ?_
  ·rw[<-las,List.take_length,le,B.eq,List.length_cons,Nat.add_comm]
   rfl
  ·have:=(AGT h2).1
   lia
  ·rintro i σ M hi ⟨D,o6,o7,rfl,U,hT,F⟩
   obtain⟨x,hx⟩:∃x,Y[i]?=some x:=⟨_,AGS hi⟩
   obtain⟨ks,zr⟩:∃ks,d[i]?=some ks:=⟨_,AGS (by lia)⟩
   obtain⟨b1,b2,b3,b4⟩:=B.at_ zr
   have kd:=B.kids i x ks hx zr
   obtain⟨ox,wx⟩:=B.ok x (AGV hx)
   obtain⟨y,hy,vy⟩:=vl.get' (show(Y.map Ak.pt)[i]?=some x.pt by rw[List.getElem?_map,hx];rfl)
   have bP:AE H M:=fun b o e=>U.keep b o (fun z=>by rw[<-AGU z,zp]at e;cases e) (S3 _ _ e)
   have np3:I≠p:=fun z=>by rw[z]at C;rw[t0 _ _ hp]at C;cases C
   have mT:M p=some (.lst es):=U.keep p _ (fun z=>np3 (AGU z)) S
   have zx:=x.Mz
   refine⟨_,rfl,_,rfl,rfl,_,rfl,_,rfl,p,_,_,_,rfl,rfl,An.of mT,BA hy,G,y,x.pt,x.size,rfl,sG.trans bP,vy,x.nd ox (by lia),fun pI qM us H4 s4 nI hI qP kd2=>?_⟩
   obtain⟨J,kd3,eu⟩:=Ak.SN ox kd2
   have ek:=kd3.one kd
   subst ek
   have qO:=qP.length
   rw[eu,List.length_map]at qO
   refine⟨pI,_,rfl,.inl (An.of hI),_,_,rfl,rfl,?_⟩
   have est:(((1+(d.take (i+1)).flatten.length:Nat):Int))-((qM.length:Nat):Int)=((1+(d.take i).flatten.length:Nat):Int):=by lia
   rw[est]
   have hT4:=s4 _ _ hT
   have mU:=s4 _ _ mT
   refine⟨_,rfl,rfl,_,rfl,_,rfl,p,_,_,_,rfl,rfl,An.of mU,BA hy,?_⟩
   refine⟨_,rfl,_,rfl,_,rfl,_,rfl,_,rfl,I,D,rfl,An.of hT4,fun pS zt=>?_⟩
   rw[Wk D _ _ (by lia) (by rw[F.len];lia),show 1+(d.take (i+1)).flatten.length-(1+(d.take i).flatten.length)=J.length by lia]
   obtain⟨cs,g1,g2⟩:=F.slice J.length (1+(d.take i).flatten.length) (by lia) b4
   rw[b2]at g1
   obtain⟨H5,L,t5,f5⟩:=BZ (o:=.lst ((D.drop (1+(d.take i).flatten.length)).take J.length)) zt
   rw[L];clear L
   have s5:=s4.trans t5
   have qQ:∀b,H5 b=none->H3 b=none:=fun b h=>U.GB b (s5.free h)
   refine⟨G,H3,y,x,pS,_,J,cs,rfl,sG.trans (bP.trans s5),vy,ox,by lia,f5,U.GB _ (s4.free zt),qQ,kd,g1,g2.up (CD (fun b h=>h) fun b o _ h=>s5 _ _ h),fun w b H6 s6 vw gd=>?_⟩
   have X:=s5.trans s6
   have hT6:=X _ _ hT
   have tl:i<D.length:=by rw[F.len];exact hi
   refine⟨_,rfl,_,rfl,I,D,_,i,rfl,rfl,hT6,by unfold QN;rw[if_pos (by lia),if_pos (by lia),Int.toNat_natCast],?_⟩
   refine⟨_,rfl,?_⟩
   have zu:H3 I≠none:=by rw[fT];simp
   refine⟨D.set i w,_,_,rfl,(U.trans (.of X)).put,AF,F.set (fun b o h1 h2=>?_) hx gd (vw.up (CD (fun b h=>h) fun b o h1 h2=>?_))⟩
   ·rw[AJ (fun z=>zu (by rw[<-z];exact h1))]
    exact X _ _ h2
   ·rw[AJ (fun z=>zu (by rw[<-z];exact h1))]
    exact h2
  ·rintro σ M ⟨D,o6,o7,rfl,U,hT,F⟩
   obtain⟨w,b,g1,g2,g3⟩:=F.val 0 a (Nat.zero_le _) (by rw[B.eq];rfl)
   refine⟨_,rfl,I,D,0,w,rfl,rfl,An.of hT,BA g1,q w b M (fun b o e=>U.keep b o (fun z=>by rw[<-AGU z,zp]at e;cases e) (S3 _ _ e)) (g3.up (CD (fun b h=>S3.free h) fun b o _ h=>h)) g2⟩
theorem MF:Al ["doc"] ["doc"] (AI EA):={}
theorem Ko {f:Addr} {m:FuncData} (F:DN K "steps_of" "steps_of" EA f m) (T:Txt mg):BH P w K mg base Cs 1 f m ["doc"] Gw:=by
 refine F.ok MF (fun j H Q E h=>?_) (fun u A outer s H j Q E d h=>?_)
 ·obtain⟨v,t,rfl,n,hold,q⟩:=h
  rfl
 ·obtain⟨v,t,rfl,n,hold,q⟩:=h
  have nd:=MF.nd
  have B:=BQ d
  refine⟨_,(AD (Ap (Bd (AY Eb rfl T.isinstance Ar (AA (pv 0) (AA (Bv (v:=.ty "list") rfl T.list DW rfl) AB)))) (AH (AQ (BR (LG rfl) rfl T.list DW (AA (V' rfl T.range (AA (AY Ag rfl T.len PySem.boot_len (AA (pv 0) AB)) AB)) AB)))) AV)
   (AD (Ap (Bd (AY Eb rfl T.isinstance Ar (AA (pv 0) (AA (Bv (v:=.ty "dict") rfl T.dict Ce rfl) AB)))) (AH (AQ (AY (Cv rfl) rfl T.sorted Ed (AA (pv 0) AB)))) AV)
   (AH (AQ (A_ AB))))),?_⟩
  cases n with
  |int i=>
   refine⟨_,rfl,_,"list","int",rfl,rfl,.int i,_,rfl,BK ⟨_,rfl,_,"dict","int",rfl,rfl,.int i,_,rfl,BK ?_⟩⟩
   exact⟨Nat.zero_le _,fun p c=>q p [] _ (AE.new c) c AF rfl⟩
  |str x=>
   refine⟨_,rfl,_,"list","str",rfl,rfl,.str x,_,rfl,BK ⟨_,rfl,_,"dict","str",rfl,rfl,.str x,_,rfl,BK ?_⟩⟩
   exact⟨Nat.zero_le _,fun p c=>q p [] _ (AE.new c) c AF rfl⟩
  |bl b=>exact hold.elim
  |Av=>exact hold.elim
  |tup _ _=>exact hold.elim
  |@lst a j k h r=>
   have C:k.length<=900:=hold
   have e:=r.length
   refine⟨_,rfl,_,"list","list",rfl,rfl,.lst h,_,rfl,Cr ?_⟩
   refine⟨_,rfl,a,_,rfl,.inl (.inl h),_,rfl,fun r d=>?_⟩
   refine⟨r,j.length,rfl,AF,by omega,fun p c=>?_⟩
   exact q p _ _ ((AE.new d).trans (AE.new c)) ((AE.new d).free c) AF (by show _=_;rw[e])
  |@BX a kvs g k h o r=>
   have D:kvs.length=g.length:=by have:=congrArg List.length o;simpa using this
   have G:g.length=k.length/\g.length<64:=hold
   refine⟨_,rfl,_,"list","dict",rfl,rfl,.dK h,_,rfl,BK ?_⟩
   refine⟨_,rfl,_,"dict","dict",rfl,rfl,.dK h,_,rfl,Cr ?_⟩
   exact⟨_,rfl,a,_,g,rfl,h,o,by omega,fun p l y z s c perm GU=>q p _ y s z c ⟨l,rfl,perm,GU⟩⟩
theorem NM {f:Addr} {a:FuncData} (F:DN K "steps_of" "steps_of" EA f a) (T:Txt mg):BH P w K mg base Cs 1 f a ["doc"] Mj:=(Ko F T).imp fun _ _ _ _ h=>Oq h
theorem MG:Al ["doc"] ["doc"] (AI Ej):={}
theorem RJ {f:Addr} {fd:FuncData} (F:DN K "inner_of" "inner_of" Ej f fd) (T:Txt mg) (d:Df P w K mg base "steps_of" ["doc"] 1 Gw):BH P w K mg base Cs 2 f fd ["doc"] Jy:=by
 obtain⟨J,L,m,u,z,B⟩:=d.ex
 refine F.ok MG (fun vs H Q E h=>?_) (fun Gm A outer s H vs Q E hr h=>?_)
 ·obtain⟨G,v,t,rfl,X,O,hold,q⟩:=h
  rfl
 ·obtain⟨G,v,t,rfl,X,O,hold,q⟩:=h
  have nd:=MG.nd
  have hu:=BQ hr
  have c:Ao 1 _:=hr.mm
  refine⟨_,(AH (AQ (Ba (fv:=["doc"]) (fs:=[0]) rfl (.of (by rfl)) (Bg (AK B c rfl z m u .nil AX (AA (pv 0) AB))) (fun _ _ _ _=>BV) (fun C s0 H0 fp=>(FQ (Az (r:=Bp K) Ae (pv 1) (pv 0) (fun _ _=>rfl)) (Bw hu (pv 1) (pv 0) (fun _ _=>rfl))))))),?_⟩
  refine⟨_,rfl,v,t,rfl,O.up X,hold,fun p l H1 Y np S st=>?_⟩
  obtain⟨U,us,vl,kd,le,ae⟩:=O.kids hold st
  have hl':l.length<=900:=by
   cases O with
   |int i=>rw[show l=[]from st];decide
   |str i=>rw[show l=[]from st];decide
   |bl b=>exact hold.elim
   |Av=>exact hold.elim
   |tup _ _=>exact hold.elim
   |@lst a vs ts h r=>rw[show l=_ from st,List.length_map,List.length_range];exact hold
   |@BX a kvs ks ts h hk r=>
    obtain⟨ss,rfl,pm,so⟩:=st
    rw[List.length_map,pm.length_eq]
    have:=hold.2
    omega
  have gi:∀{i:Nat} {x:V},l[i]?=some x->l.getD i .Av=x:=fun h=>by rw[List.getD_eq_getElem?_getD,h];rfl
  refine⟨p,rfl,⟨_,An.of S⟩,?_⟩
  refine Hr (n:=l.length) (fun i=>l.getD i .Av) (fun i=>U.getD i .Av) (fun _=>true) (Ah (by omega)) (fun i D M N I=>⟨_,_,(AE.new I).seq (An.of S),AGS N⟩) (fun i D M v H' N I y=>?_)
   (fun D M I=>⟨_,(AE.new I).seq (An.of S),Nat.le_refl _⟩) (fun i D M R N I r=>by exact r) (fun i D M R N I _ r=>?_) (fun D I=>?_)
  ·obtain⟨e,y⟩:=y
   exact⟨(gi (y _ ((AE.new I).seq (An.of S)))).symm,e⟩
  ·obtain⟨x,hx⟩:∃x,U[i]?=some x:=⟨_,AGS (by rw[le];exact N)⟩
   have ex:U.getD i .Av=x:=by rw[List.getD_eq_getElem?_getD,hx];rfl
   rw[ex]at r
   have sD:=(X.trans Y).trans (AE.new (o:=.lst M) I)
   obtain⟨st,Z,g⟩:=ae i x hx
   rw[gi Z]
   rcases g with⟨a,xs,j,rfl,h,rfl,e2⟩|⟨a,kvs,k,rfl,h,rfl,e2⟩
   ·exact .inl ⟨_,rfl,_,rfl,a,_,_,_,rfl,rfl,.inl (h.up (sD _)),BA e2,r⟩
   ·refine .inr ⟨_,rfl,_,rfl,a,x,rfl,?_,r⟩
    rw[<-e2]
    exact .inl ⟨_,Sum.inr k,h.up (sD _),rfl,rfl⟩
  ·refine q D U us _ (Y.trans (AE.new I)) (Y.free I) ?_ vl kd
   rw[AF]
   congr 2
   rw[List.filter_eq_self.mpr fun _ _=>rfl]
   refine List.ext_getElem (by simp[le]) fun i h1 h2=>?_
   simp only[List.getElem_map,List.getElem_range]
   rw[List.getD_eq_getElem?_getD,AGS h2]
   rfl
theorem Ig:Al ["doc"] ["doc"] (AI DG):={}
theorem NN {f:Addr} {c:FuncData} (F:DN K "outer_copy" "outer_copy" DG f c) (T:Txt mg):BH P w K mg base Cs 1 f c ["doc"] SD:=by
 refine F.ok Ig (fun e H Q E h=>?_) (fun g A outer s H e Q E i h=>?_)
 ·obtain⟨d,rfl,b,q⟩:=h
  rfl
 ·obtain⟨d,rfl,b,q⟩:=h
  have nd:=Ig.nd
  have k:=BQ i
  refine⟨_,(AD (Ap (Bd (AY Eb rfl T.isinstance Ar (AA (pv 0) (AA (Bv (v:=.ty "list") rfl T.list DW rfl) AB)))) (AH (AQ (BR Er rfl T.list DW (AA (pv 0) AB)))) AV)
   (AD (Ap (Bd (AY Eb rfl T.isinstance Ar (AA (pv 0) (AA (Bv (v:=.ty "dict") rfl T.dict Ce rfl) AB)))) (AH (AQ (BR FT rfl T.dict Ce (AA (pv 0) AB)))) AV)
   (AH (AQ (pv 0))))),?_⟩
  cases d with
  |leaf v=>
   refine⟨_,rfl,_,"list",Dc.iY (.leaf v),rfl,rfl,Dc.cV b,_,rfl,AU (by cases v<;>rfl) ?_⟩
   refine⟨_,rfl,_,"dict",Dc.iY (.leaf v),rfl,rfl,Dc.cV b,_,rfl,AU (by cases v<;>rfl) ?_⟩
   exact⟨_,rfl,q⟩
  |row a j=>
   refine⟨_,rfl,_,"list",_,rfl,rfl,Dc.cV b,_,rfl,Ab rfl ?_⟩
   simp only[Dc.At]at b
   exact⟨_,rfl,a,_,rfl,.inl (.inl b.1),q⟩
  |tab a l j=>
   refine⟨_,rfl,_,"list",_,rfl,rfl,Dc.cV b,_,rfl,AU rfl ?_⟩
   refine⟨_,rfl,_,"dict",_,rfl,rfl,Dc.cV b,_,rfl,Ab rfl ?_⟩
   simp only[Dc.At]at b
   exact⟨_,rfl,a,_,rfl,b.1,q⟩
theorem Pn:Al ["doc","told","waiting","part","steps","step"] ["doc"] (AI Fv):={}
theorem Ur {f:Addr} {fd:FuncData} (F:DN K "copy_of" "copy_of" Fv f fd) (T:Txt mg) (XQ:Df P w K mg base "steps_of" ["doc"] 1 Mj) (RK:Df P w K mg base "outer_copy" ["doc"] 1 SD):BH P w K mg base Cs 2 f fd ["doc"] Js:=by
 obtain⟨jL,jM,XR,XS,XT,XU⟩:=XQ.ex
 obtain⟨dh,di,G,I,J,M⟩:=RK.ex
 refine F.ok Pn (fun Z H Q E h=>?_) (fun Gm A outer s H Z Q E hr h=>?_)
 ·obtain⟨d,rfl,jN,zv,hsz,q⟩:=h
  rfl
 ·obtain⟨d,rfl,jN,zv,hsz,q⟩:=h
  have nd:=Pn.nd
  have hu:=BQ hr
  have Us:Ao 1 _:=hr.mm
  have n:Ao 1 _:=hr.mm
  refine⟨_,(AD (Ai 1 nd (AK M n rfl J G I .nil AX (AA (pv 0) AB)))
   (AD (Ai 2 nd (A_ (AA (pv 1) AB)))
   (AD (Nj PassesOwn.never (VN (pv 2) (fun _=>rfl)) (AD (Ai 3 nd (cG PySem.F.plainAttrs_list PySem.F.slot_list_pop PySem.F.type_list_pop cH (pv 2)))
   (AD (Ai 4 nd (AK XU Us rfl XT XR XS .nil AX (AA (pv 3) AB)))
   (AH (CM PassesOwn.never rfl (Bg (pv 4)) (C_ 5 nd) (AD (cb (QI (AK M n rfl J G I .nil AX (AA (FQ (Az (r:=Bp K) Ae (pv 3) (pv 5) (fun _ _=>rfl)) (Bw hu (pv 3) (pv 5) (fun _ _=>rfl))) AB)) (VF (pv 3) (pv 5) set_list)) (Gk hu (pv 3) (pv 5) (AK M n rfl J G I .nil AX (AA (FQ (Az (r:=Bp K) Ae (pv 3) (pv 5) (fun _ _=>rfl)) (Bw hu (pv 3) (pv 5) (fun _ _=>rfl))) AB)) rfl))
   (AH (DL (FF PySem.F.plainAttrs_list PySem.F.slot_list_append PySem.F.type_list_append Fh (pv 2) (AA (FQ (Az (r:=Bp K) Ae (pv 3) (pv 5) (fun _ _=>rfl)) (Bw hu (pv 3) (pv 5) (fun _ _=>rfl))) AB))))))))))
   (AH (AQ (pv 1)))))),?_⟩
  refine⟨_,rfl,d,rfl,jN,Hv.of (AE.refl H) jN fun tv X si oi fi=>?_⟩
  refine⟨_,rfl,Ax,fun L hL=>?_⟩
  have sL:=AE.new (o:=.lst [tv]) hL
  have nL:H L=none:=si.free hL
  have zw:tv≠.ref L:=fun z=>(UG jN oi z) hL
  have C0:Eg H (upd X L (.lst [tv])) L tv d [(tv,d)]:=Eg.start (si.trans sL) nL AF (oi.up fun a e u h=>sL _ _ h) jN zv zw
  dsimp only[BP,QF]
  refine Ry (fun m σ Hw=>bN (fun(ps:List (V×Dc)) (o3 o4 B:Option V)=>σ=[some d.val,some tv,some (.ref L),o3,o4,B]) (fun(ps:List (V×Dc)) (o3 o4 B:Option V)=>Eg H Hw L tv d ps) (fun(ps:List (V×Dc)) (o3 o4 B:Option V)=>Dc.AL (ps.map (·.2))<=d.size) (fun(ps:List (V×Dc)) (o3 o4 B:Option V)=>m=Dc.AL (ps.map (·.2))))
   (Dc.AL [d]) ⟨[(tv,d)],none,none,none,rfl,C0,by simp[Dc.AL],rfl⟩ ?_ (fun σ H Q Q' h ⟨v,e,k,t,q⟩=>⟨v,e,k,t,h _ _ q⟩)
  rintro m σ Hw ⟨ps,o3,o4,B,rfl,C,hm,rfl⟩
  refine⟨_,rfl,_,.inl ⟨_,An.of C.eL,rfl⟩,?_⟩
  by_cases Xy:ps=[]
  ·subst Xy
   refine BK ⟨_,rfl,?_⟩
   obtain⟨e,ev,el,ef⟩:=C.done
   rw[<-ev]
   exact q e Hw ef el
  obtain⟨R,p,rfl⟩:∃R p,ps=R++[p]:=⟨ps.dropLast,ps.getLast Xy,(List.dropLast_concat_getLast Xy).symm⟩
  obtain⟨v,node⟩:=p
  refine Ab (by simp) ?_
  have qR:Dc.AL ((R++[(v,node)]).map (·.2))=Dc.AL (R.map (·.2))+node.size:=by rw[List.map_append,Dc.Am];simp[Dc.AL]
  have zy:=C.eL
  refine⟨_,rfl,.inl ⟨rfl,_,An.of zy⟩,L,_,v,rfl,rfl,zy,by simp,?_⟩
  have dl:(List.map (·.1) (R++[(v,node)])).dropLast=R.map (·.1):=by rw[List.map_append];simp
  rw[dl]
  obtain⟨nat,gQ⟩:=C.src (v,node) (by simp)
  have on:=C.out (v,node) (by simp)
  have s1:AE H (upd Hw L (.lst (R.map (·.1)))):=C.same.put nL
  have lq:R.length<=Dc.AL (R.map (·.2)):=by have:=Dc.Dj (R.map (·.2));rw[List.length_map]at this;exact this
  cases node with
  |leaf v'=>
   obtain⟨rfl,lv⟩:=(show v=v'/\Dc.Lf v' from on)
   refine⟨_,rfl,.leaf v,rfl,lv,trivial,by simp[Dc.size],fun p l H2 s2 np hp st=>?_⟩
   cases(show l=[]from st)
   refine⟨_,rfl,p,rfl,⟨_,An.of hp⟩,DQ (xs:=[]) (fun i σ X=>bL (fun B=>σ=[some d.val,some tv,some (.ref L),some v,some (.ref p),B]) (fun B=>X=H2)) ⟨_,rfl,rfl⟩ (fun i σ X _ ⟨_,_,e⟩=>by rw[e];exact An.of hp) (fun i x σ X hx=>by simp at hx) ?_⟩
   rintro σ X ⟨B,rfl,rfl⟩
   refine⟨Dc.AL (R.map (·.2)),by rw[qR];simp only[Dc.size];lia,R,_,_,_,rfl,C.leaf (fun b o hb h=>s2 _ _ (by rw[AJ hb];exact h)) (s2 _ _ AF),by lia,rfl⟩
  |row b xs=>
   obtain⟨a,rfl,ea,na⟩:=(show∃a,v=.ref a/\Hw a=some (.lst (xs.map Dc.val))/\H a=none from on)
   have aL:a≠L:=fun z=>C.UE (by rw[<-z];exact Bb.mpr ⟨(.ref a,.row b xs),by simp,rfl⟩)
   have dq:upd Hw L (.lst (R.map (·.1))) a=some (.lst (xs.map Dc.val)):=by rw[AJ aL];exact ea
   have RL:=nat
   simp only[Dc.At]at RL
   simp only[Dc.slim]at gQ
   simp only[Dc.size]at qR
   have lx:=Dc.Dj xs
   refine⟨_,rfl,.row a xs,rfl,?_,by simp only[Dc.slim];exact gQ,by simp only[Dc.size];lia,fun p l H2 s2 np hp st=>?_⟩
   ·simp only[Dc.At]
    exact⟨.inl dq,Dc.Ec xs (fun c _ o e=>s1 c o e) RL.2⟩
   cases(show l=(List.range xs.length).map fun(i:Nat)=>V.int (i:Int)from st)
   have qS:=s1.trans s2
   have jO:=s2 _ _ dq
   have du:H2 L=some (.lst (R.map (·.1))):=s2 _ _ AF
   have ll:((List.range xs.length).map fun(i:Nat)=>V.int (i:Int)).length=xs.length:=by simp
   have pa:p≠a:=Ne.symm (Au dq np)
   have pL:p≠L:=Ne.symm (Au (AF (H:=Hw) (a:=L) (o:=.lst (R.map (·.1)))) np)
   refine⟨_,rfl,p,rfl,⟨_,An.of hp⟩,DQ (xs:=(List.range xs.length).map fun(i:Nat)=>V.int (i:Int)) (fun i σ X=>bM (fun(g:List V) (B:Option V)=>σ=[some d.val,some tv,some (.ref L),some (.ref a),some (.ref p),B]) (fun(g:List V) (B:Option V)=>g.length=i) (fun(g:List V) (B:Option V)=>i<=xs.length) (fun(g:List V) (B:Option V)=>X a=some (.lst (g++(xs.drop i).map Dc.val))) (fun(g:List V) (B:Option V)=>X L=some (.lst (R.map (·.1)++g))) (fun(g:List V) (B:Option V)=>(∀(j:Nat) c x,g[j]?=some c->xs[j]?=some x->FU H X c x)) (fun(g:List V) (B:Option V)=>(∀b o,b≠a->b≠L->H2 b=some o->X b=some o)) (fun(g:List V) (B:Option V)=>(roots (g.zip xs)).Nodup) (fun(g:List V) (B:Option V)=>∀c∈roots (g.zip xs),H2 c=none))
    ⟨[],_,rfl,rfl,Nat.zero_le _,by rw[jO];rfl,by rw[du,List.append_nil],fun j c x h=>by simp at h,fun b o _ _ h=>h,by simp[roots],by simp[roots]⟩ (fun i σ X _ ⟨g,B,_,_,_,_,_,_,kp,_,_⟩=>An.of (kp p _ pa pL hp)) ?_ ?_⟩
   ·rintro i sv σ X dw ⟨g,B,rfl,lc,qT,N,ZT,oc,kp,rn,rf⟩
    have hi:i<xs.length:=by have:=(AGT dw).1;rw[ll]at this;exact this
    have qU:sv=.int (i:Int):=by rw[List.getElem?_map,List.getElem?_range hi]at dw;exact(AGU dw).symm
    subst qU
    obtain⟨x,hx⟩:∃x,xs[i]?=some x:=⟨_,AGS hi⟩
    have qV:=AGV hx
    have bP:AE H X:=fun b o e=>kp b o (Au e na) (Au e nL) (qS b o e)
    have dr:xs.drop i=x::xs.drop (i+1):=by rw[List.drop_eq_getElem_cons hi];rw[AGS hi]at hx;rw[AGU hx]
    have jP:x.At X:=Dc.Rq bP (Dc.Fj RL.2 x qV)
    have CI:Ja (g++(xs.drop i).map Dc.val) (i:Int)=some x.val:=BA (by rw[dr,List.getElem?_append_right (by lia),lc,Nat.sub_self];rfl)
    refine .inl (.inl ⟨_,rfl,_,rfl,a,_,_,_,rfl,rfl,An.of N,CI,x,rfl,jP,Hv.of bP jP fun c Hc sc qW fc=>?_⟩)
    have qX:=sc _ _ N
    have hlen:(g++(xs.drop i).map Dc.val).length=xs.length:=by rw[List.length_append,List.length_map,List.length_drop];lia
    refine⟨_,rfl,_,rfl,a,_,_,i,rfl,rfl,qX,by unfold QN;rw[if_pos (by lia),if_pos (by rw[hlen];lia),Int.toNat_natCast],?_⟩
    have qY:(g++(xs.drop i).map Dc.val).set i c=(g++[c])++(xs.drop (i+1)).map Dc.val:=by
     rw[dr,List.map_cons,List.set_append_right _ _ (by lia),lc,Nat.sub_self,List.set_cons_zero,List.append_assoc]
     rfl
    rw[qY]
    have cL:∀S,c=.ref S->S≠a/\S≠L:=fun S e=>⟨(fun z=>by have:=fc S e;rw[z,N]at this;cases this),(fun z=>by have:=fc S e;rw[z,ZT]at this;cases this)⟩
    have jQ:upd Hc a (.lst ((g++[c])++(xs.drop (i+1)).map Dc.val)) L=some (.lst (R.map (·.1)++g)):=by rw[AJ (Ne.symm aL)];exact sc _ _ ZT
    refine⟨_,rfl,.inl ⟨rfl,_,An.of jQ⟩,.inl ⟨_,rfl,_,rfl,a,_,_,c,rfl,rfl,An.of AF,BA (by rw[List.getElem?_append_left (by rw[List.length_append,lc];simp),List.getElem?_append_right (by lia),lc,Nat.sub_self];rfl),?_⟩⟩
    refine⟨L,_,_,rfl,rfl,jQ,BG (by simp only[List.length_append,List.length_map];lia),g++[c],_,rfl,by simp[lc],hi,by rw[AJ aL];exact AF,by rw[AF,List.append_assoc],fun j U x' D O=>?_,fun b' o D O h3=>?_,?_,fun U Y=>?_⟩
    ·have base:∀{U:V} {x':Dc},FU H Hc U x'->(∀S,U=.ref S->S≠a/\S≠L)->FU H (upd (upd Hc a (.lst ((g++[c])++(xs.drop (i+1)).map Dc.val))) L (.lst ((R.map (·.1)++g)++[c]))) U x':=fun o dy=>o.up fun S e u h=>by
      obtain⟨g1,g2⟩:=dy S e
      rw[AJ g2,AJ g1]
      exact h
     by_cases qZ:j<g.length
     ·rw[List.getElem?_append_left qZ]at D
      refine base ((oc j U x' D O).up fun S e u h=>sc _ _ h) fun S e=>?_
      have hz:(g.zip xs)[j]?=some (U,x'):=by rw[List.getElem?_zip_eq_some];exact⟨D,O⟩
      have hr:=rf S (Bb.mpr ⟨(U,x'),AGV hz,e⟩)
      exact⟨(fun z=>by rw[z,jO]at hr;cases hr),(fun z=>by rw[z,du]at hr;cases hr)⟩
     ·have hl:=(AGT D).1
      rw[List.length_append,List.length_singleton]at hl
      have ej:j=i:=by lia
      subst ej
      rw[List.getElem?_append_right (by lia),lc,Nat.sub_self]at D
      have e1:c=U:=by simpa using D
      subst e1
      rw[hx]at O
      cases O
      exact base qW cL
    ·rw[AJ O,AJ D]
     exact sc _ _ (kp b' o D O h3)
    ·have ez:(g++[c]).zip xs=g.zip xs++[(c,x)]:=Gu lc hx
     rw[ez,BN]
     refine List.nodup_append.mpr ⟨rn,by cases c<;>first|exact List.nodup_nil|exact List.nodup_cons.mpr ⟨(fun h=>nomatch h),List.nodup_nil⟩,fun y hy z hz e=>?_⟩
     subst e
     obtain⟨p',dz,e'⟩:=Bb.mp hz
     rw[List.mem_singleton.mp dz]at e'
     obtain⟨⟨c2,x2⟩,Po,e2⟩:=Bb.mp hy
     obtain⟨j,hj,ej⟩:=List.mem_iff_getElem.mp Po
     have Yd:(g.zip xs)[j]?=some (c2,x2):=by rw[AGS hj,ej]
     obtain⟨g1,g2⟩:=List.getElem?_zip_eq_some.mp Yd
     exact((oc j c2 x2 g1 g2).root (p:=(c2,x2)) e2).1 (fc y e')
    ·have ez:(g++[c]).zip xs=g.zip xs++[(c,x)]:=Gu lc hx
     rw[ez,BN]at Y
     rcases List.mem_append.mp Y with Y|Y
     ·exact rf U Y
     ·obtain⟨p',dz,e'⟩:=Bb.mp Y
      rw[List.mem_singleton.mp dz]at e'
      have h0:=fc U e'
      cases q2:H2 U with
      |none=>rfl
      |some o=>
       have:=kp U o (cL U e').1 (cL U e').2 q2
       rw[h0]at this
       cases this
   ·rintro σ X ⟨g,B,rfl,lc,qT,N,ZT,oc,kp,rn,rf⟩
    rw[ll]at lc N
    rw[List.drop_length,List.map_nil,List.append_nil]at N
    have mz:(g.zip xs).map (·.1)=g:=List.map_fst_zip (by lia)
    have jR:(g.zip xs).map (·.2)=xs:=List.map_snd_zip (by lia)
    have jS:∀p∈g.zip xs,∃j:Nat,g[j]?=some p.1/\xs[j]?=some p.2:=fun p hp=>by
     obtain⟨j,hj,e⟩:=List.mem_iff_getElem.mp hp
     exact⟨j,List.getElem?_zip_eq_some.mp (by rw[AGS hj,e])⟩
    have jT:∀b o,b≠L->Hw b=some o->H2 b=some o:=fun b o hb h=>s2 _ _ (by rw[AJ hb];exact h)
    have C2:=C.step (H2:=X) (g.zip xs) (fun b' o D O h3=>kp b' o D O (jT b' o O h3)) (by rw[ZT,List.map_append,mz]) (fun p hp=>let⟨j,g1,g2⟩:=jS p hp;oc j _ _ g1 g2)
     (fun p hp=>let⟨j,g1,g2⟩:=jS p hp;⟨Dc.Fj RL.2 _ (AGV g2),Dc.Ht gQ _ (AGV g2)⟩) rn
     (fun c hc=>by
      cases q2:Hw c with
      |none=>rfl
      |some o=>
       have h0:=rf c hc
       by_cases jU:c=L
       ·rw[jU,du]at h0;cases h0
       ·rw[jT c o jU q2]at h0;cases h0) (by rw[N];simp) (fun ob u z=>by rw[N]at z;cases z)
     (fun ec H' dn at' qa=>⟨.row a ec,rfl,by simp only[Dc.Dx];have:=dn.WJ;rw[jR]at this;exact this,by
      simp only[Dc.At]
      refine⟨.inl ?_,at'⟩
      rw[qa,N,dn.vals,mz],by simp only[Dc.addrs];exact .refl _⟩)
    have sz2:Dc.AL ((R++g.zip xs).map (·.2))=Dc.AL (R.map (·.2))+Dc.AL xs:=by rw[List.map_append,Dc.Am,jR]
    exact⟨Dc.AL ((R++g.zip xs).map (·.2)),by lia,R++g.zip xs,_,_,_,rfl,C2,by lia,rfl⟩
  |tab b ks xs=>
   obtain⟨a,rfl,ea,na⟩:=(show∃a,v=.ref a/\Hw a=some (.dK (Dc.kvs ks xs))/\H a=none from on)
   have aL:a≠L:=fun z=>C.UE (by rw[<-z];exact Bb.mpr ⟨(.ref a,.tab b ks xs),by simp,rfl⟩)
   have dq:upd Hw L (.lst (R.map (·.1))) a=some (.dK (Dc.kvs ks xs)):=by rw[AJ aL];exact ea
   have RL:=nat
   simp only[Dc.At]at RL
   simp only[Dc.slim]at gQ
   simp only[Dc.size]at qR
   obtain⟨_,mV,knd,d_⟩:=RL
   have lx:=Dc.Dj xs
   refine⟨_,rfl,.tab a ks xs,rfl,?_,by simp only[Dc.slim];exact gQ,by simp only[Dc.size];lia,fun p l H2 s2 np hp st=>?_⟩
   ·simp only[Dc.At]
    exact⟨.inl dq,mV,knd,Dc.Ec xs (fun c _ o e=>s1 c o e) d_⟩
   obtain⟨ss,rfl,perm,_⟩:=(show∃ss:List Str,l=ss.map V.str/\ss.Perm ks/\PyProof.Rows.sortedS ss=true from st)
   have snd:ss.Nodup:=perm.nodup_iff.mpr knd
   have sl:=perm.length_eq
   obtain⟨ys,yp,yl,zz⟩:=reorder (ks:=ss) (ss:=ks) (ec:=xs) perm.symm knd mV.symm
   have qS:=s1.trans s2
   have jO:=s2 _ _ dq
   have du:H2 L=some (.lst (R.map (·.1))):=s2 _ _ AF
   have ll:(ss.map V.str).length=ss.length:=List.length_map ..
   have pa:p≠a:=Ne.symm (Au dq np)
   have pL:p≠L:=Ne.symm (Au (AF (H:=Hw) (a:=L) (o:=.lst (R.map (·.1)))) np)
   have pos:∀(j:Nat) k,ks[j]?=some k->∃t,ss[t]?=some k:=fun j k h=>List.mem_iff_getElem?.mp (perm.mem_iff.mpr (AGV h))
   have pos':∀(t:Nat) k,ss[t]?=some k->∃j,ks[j]?=some k:=fun t k h=>List.mem_iff_getElem?.mp (perm.mem_iff.mp (AGV h))
   refine⟨_,rfl,p,rfl,⟨_,An.of hp⟩,DQ (xs:=ss.map V.str) (fun i σ X=>XP (fun(g Z:List V) (B:Option V)=>σ=[some d.val,some tv,some (.ref L),some (.ref a),some (.ref p),B]) (fun(g Z:List V) (B:Option V)=>g.length=i) (fun(g Z:List V) (B:Option V)=>i<=ss.length) (fun(g Z:List V) (B:Option V)=>ks.length=Z.length) (fun(g Z:List V) (B:Option V)=>X a=some (.dK (EO ks Z))) (fun(g Z:List V) (B:Option V)=>X L=some (.lst (R.map (·.1)++g))) (fun(g Z:List V) (B:Option V)=>(∀(j t:Nat) k,ks[j]?=some k->ss[t]?=some k->Z[j]?=if t<i then g[t]? else(ys[t]?).map Dc.val)) (fun(g Z:List V) (B:Option V)=>(∀(j:Nat) c x,g[j]?=some c->ys[j]?=some x->FU H X c x)) (fun(g Z:List V) (B:Option V)=>(∀b o,b≠a->b≠L->H2 b=some o->X b=some o)) (fun(g Z:List V) (B:Option V)=>(roots (g.zip ys)).Nodup) (fun(g Z:List V) (B:Option V)=>∀c∈roots (g.zip ys),H2 c=none))
    ⟨[],xs.map Dc.val,_,rfl,rfl,Nat.zero_le _,by rw[List.length_map];exact mV,jO,by rw[du,List.append_nil],fun j t k D O=>by rw[if_neg (Nat.not_lt_zero _),zz t j k O D,List.getElem?_map],fun j c x h=>by simp at h,fun b o _ _ h=>h,by simp[roots],by simp[roots]⟩
    (fun i σ X _ ⟨g,Z,B,_,_,_,_,_,_,_,_,kp,_,_⟩=>An.of (kp p _ pa pL hp)) ?_ ?_⟩
   ·rintro i sv σ X dw ⟨g,Z,B,rfl,lc,qT,lv,N,ZT,jV,oc,kp,rn,rf⟩
    have hi:i<ss.length:=by have:=(AGT dw).1;rw[ll]at this;exact this
    obtain⟨k,hk⟩:∃k,ss[i]?=some k:=⟨_,AGS hi⟩
    have qU:sv=.str k:=by rw[List.getElem?_map,hk]at dw;exact(AGU dw).symm
    subst qU
    obtain⟨j,hj⟩:=pos' i k hk
    obtain⟨x,hx⟩:∃x,ys[i]?=some x:=⟨_,AGS (by rw[yl];exact hi)⟩
    have qV:x∈xs:=yp.mem_iff.mp (AGV hx)
    have bP:AE H X:=fun b o e=>kp b o (Au e na) (Au e nL) (qS b o e)
    have jP:x.At X:=Dc.Rq bP (Dc.Fj d_ x qV)
    have z_:j<Z.length:=by rw[<-lv];exact(AGT hj).1
    have vj:Z[j]?=some x.val:=by rw[jV j i k hj hk,if_neg (Nat.lt_irrefl _),hx];rfl
    have dg:∀{Hx:Hp} {ws:List V} {y:V},Hx a=some (.dK (EO ks ws))->ks.length=ws.length->ws[j]?=some y->Jc Hx a (.str k) (some y):=fun D O h3=>.inl ⟨_,Sum.inr k,.inl D,rfl,by rw[Jt O knd hj,h3]⟩
    refine .inr (.inr ⟨_,rfl,_,rfl,a,x.val,rfl,dg N lv vj,x,rfl,jP,Hv.of bP jP fun c Hc sc qW fc=>?_⟩)
    have qX:=sc _ _ N
    refine⟨_,rfl,_,rfl,a,_,rfl,VZ.k (k:=Sum.inr k) qX (BG (by rw[WK lv];lia)),?_⟩
    rw[WL lv knd hj c]
    have mW:ks.length=(Z.set j c).length:=by rw[List.length_set];exact lv
    have cL:∀S,c=.ref S->S≠a/\S≠L:=fun S e=>⟨(fun z=>by have:=fc S e;rw[z,N]at this;cases this),(fun z=>by have:=fc S e;rw[z,ZT]at this;cases this)⟩
    have jQ:upd Hc a (.dK (EO ks (Z.set j c))) L=some (.lst (R.map (·.1)++g)):=by rw[AJ (Ne.symm aL)];exact sc _ _ ZT
    refine⟨_,rfl,.inl ⟨rfl,_,An.of jQ⟩,.inr ⟨_,rfl,_,rfl,a,c,rfl,dg AF mW (by rw[List.getElem?_set_self z_]),?_⟩⟩
    refine⟨L,_,_,rfl,rfl,jQ,BG (by simp only[List.length_append,List.length_map];lia),g++[c],Z.set j c,_,rfl,by simp[lc],hi,mW,by rw[AJ aL];exact AF,by rw[AF,List.append_assoc],fun j' t' k' D O=>?_,fun j' U x' D O=>?_,fun b' o D O h3=>?_,?_,fun U Y=>?_⟩
    ·by_cases jW:j'=j
     ·subst jW
      rw[hj]at D
      cases D
      have et:t'=i:=(List.getElem?_inj (by exact(AGT O).1) snd).mp (by rw[O,hk])
      subst et
      rw[List.getElem?_set_self z_,if_pos (Nat.lt_succ_self _),List.getElem?_append_right (by lia),lc,Nat.sub_self]
      rfl
     ·have kne:k'≠k:=fun z=>jW ((List.getElem?_inj (by exact(AGT D).1) knd).mp (by rw[D,hj,z]))
      have zw:t'≠i:=fun z=>kne (by rw[z,hk]at O;exact(AGU O).symm)
      rw[List.getElem?_set_ne (Ne.symm jW),jV j' t' k' D O]
      by_cases hti:t'<i
      ·rw[if_pos hti,if_pos (by lia),List.getElem?_append_left (by lia)]
      ·rw[if_neg hti,if_neg (by lia)]
    ·have base:∀{U:V} {x':Dc},FU H Hc U x'->(∀S,U=.ref S->S≠a/\S≠L)->FU H (upd (upd Hc a (.dK (EO ks (Z.set j c)))) L (.lst ((R.map (·.1)++g)++[c]))) U x':=fun o dy=>o.up fun S e u h=>by
      obtain⟨g1,g2⟩:=dy S e
      rw[AJ g2,AJ g1]
      exact h
     by_cases qZ:j'<g.length
     ·rw[List.getElem?_append_left qZ]at D
      refine base ((oc j' U x' D O).up fun S e u h=>sc _ _ h) fun S e=>?_
      have hz:(g.zip ys)[j']?=some (U,x'):=by rw[List.getElem?_zip_eq_some];exact⟨D,O⟩
      have hr:=rf S (Bb.mpr ⟨(U,x'),AGV hz,e⟩)
      exact⟨(fun z=>by rw[z,jO]at hr;cases hr),(fun z=>by rw[z,du]at hr;cases hr)⟩
     ·have hl:=(AGT D).1
      rw[List.length_append,List.length_singleton]at hl
      have ej:j'=i:=by lia
      subst ej
      rw[List.getElem?_append_right (by lia),lc,Nat.sub_self]at D
      have e1:c=U:=by simpa using D
      subst e1
      rw[hx]at O
      cases O
      exact base qW cL
    ·rw[AJ O,AJ D]
     exact sc _ _ (kp b' o D O h3)
    ·have ez:(g++[c]).zip ys=g.zip ys++[(c,x)]:=Gu lc hx
     rw[ez,BN]
     refine List.nodup_append.mpr ⟨rn,by cases c<;>first|exact List.nodup_nil|exact List.nodup_cons.mpr ⟨(fun h=>nomatch h),List.nodup_nil⟩,fun y hy z hz e=>?_⟩
     subst e
     obtain⟨p',dz,e'⟩:=Bb.mp hz
     rw[List.mem_singleton.mp dz]at e'
     obtain⟨⟨c2,x2⟩,Po,e2⟩:=Bb.mp hy
     obtain⟨j2,gR,ej2⟩:=List.mem_iff_getElem.mp Po
     have Yd:(g.zip ys)[j2]?=some (c2,x2):=by rw[AGS gR,ej2]
     obtain⟨g1,g2⟩:=List.getElem?_zip_eq_some.mp Yd
     exact((oc j2 c2 x2 g1 g2).root (p:=(c2,x2)) e2).1 (fc y e')
    ·have ez:(g++[c]).zip ys=g.zip ys++[(c,x)]:=Gu lc hx
     rw[ez,BN]at Y
     rcases List.mem_append.mp Y with Y|Y
     ·exact rf U Y
     ·obtain⟨p',dz,e'⟩:=Bb.mp Y
      rw[List.mem_singleton.mp dz]at e'
      have h0:=fc U e'
      cases q2:H2 U with
      |none=>rfl
      |some o=>
       have:=kp U o (cL U e').1 (cL U e').2 q2
       rw[h0]at this
       cases this
   ·rintro σ X ⟨g,Z,B,rfl,lc,qT,lv,N,ZT,jV,oc,kp,rn,rf⟩
    rw[ll]at lc jV
    have mz:(g.zip ys).map (·.1)=g:=List.map_fst_zip (by lia)
    have jR:(g.zip ys).map (·.2)=ys:=List.map_snd_zip (by lia)
    have jS:∀p∈g.zip ys,∃j:Nat,g[j]?=some p.1/\ys[j]?=some p.2:=fun p hp=>by
     obtain⟨j,hj,e⟩:=List.mem_iff_getElem.mp hp
     exact⟨j,List.getElem?_zip_eq_some.mp (by rw[AGS hj,e])⟩
    have jT:∀b o,b≠L->Hw b=some o->H2 b=some o:=fun b o hb h=>s2 _ _ (by rw[AJ hb];exact h)
    have C2:=C.step (H2:=X) (g.zip ys) (fun b' o D O h3=>kp b' o D O (jT b' o O h3)) (by rw[ZT,List.map_append,mz]) (fun p hp=>let⟨j,g1,g2⟩:=jS p hp;oc j _ _ g1 g2)
     (fun p hp=>let⟨j,g1,g2⟩:=jS p hp;⟨Dc.Fj d_ _ (yp.mem_iff.mp (AGV g2)),Dc.Ht gQ.2 _ (yp.mem_iff.mp (AGV g2))⟩) rn
     (fun c hc=>by
      cases q2:Hw c with
      |none=>rfl
      |some o=>
       have h0:=rf c hc
       by_cases jU:c=L
       ·rw[jU,du]at h0;cases h0
       ·rw[jT c o jU q2]at h0;cases h0) (by rw[N];simp) (fun ob u z=>by rw[N]at z;cases z)
     (fun ec H' dn at' qa=>by
      have dv:=dn.vals
      rw[mz]at dv
      have dk:=dn.WJ
      rw[jR]at dk
      have el:ec.length=ss.length:=by have:=congrArg List.length dv;rw[List.length_map]at this;lia
      obtain⟨es,ep,esl,eat⟩:=reorder perm snd el
      have ev:es.map Dc.val=Z:=by
       refine List.ext_getElem? fun j=>?_
       cases hk:ks[j]? with
       |none=>
        have D:=List.getElem?_eq_none_iff.mp hk
        rw[List.getElem?_eq_none_iff.mpr (by rw[List.length_map];lia),List.getElem?_eq_none_iff.mpr (by lia)]
       |some k=>
        obtain⟨t,ht⟩:=pos j k hk
        have tl:=(AGT ht).1
        rw[List.getElem?_map,eat j t k hk ht,jV j t k hk ht,if_pos tl,<-dv,List.getElem?_map]
      refine⟨.tab a ks es,rfl,?_,?_,?_⟩
      ·simp only[Dc.Dx]
       refine⟨trivial,Oa (by lia) fun j x e D O=>?_⟩
       obtain⟨k,hk⟩:∃k,ks[j]?=some k:=⟨_,AGS (by rw[mV];exact(AGT D).1)⟩
       obtain⟨t,ht⟩:=pos j k hk
       have e1:=zz t j k ht hk
       rw[D]at e1
       obtain⟨e',g1,g2⟩:=Dc.Lo dk t x e1
       rw[eat j t k hk ht,g1]at O
       cases O
       exact g2
      ·simp only[Dc.At]
       exact⟨.inl (by rw[qa,N,OY,ev]),esl.symm,knd,WM ep at'⟩
      ·simp only[Dc.addrs]
       exact(OZ ep).cons _)
    have sz2:Dc.AL ((R++g.zip ys).map (·.2))=Dc.AL (R.map (·.2))+Dc.AL xs:=by rw[List.map_append,Dc.Am,jR,Dc.GP yp]
    exact⟨Dc.AL ((R++g.zip ys).map (·.2)),by lia,R++g.zip ys,_,_,_,rfl,C2,by lia,rfl⟩
theorem TB:Al ["doc","step"] ["doc","step"] (AI IP):={}
theorem XW {f:Addr} {m:FuncData} (F:DN K "holds" "holds" IP f m) (T:Txt mg):BH P w K mg base Cs 1 f m ["doc","step"] Kb:=by
 refine F.ok TB (fun d H Q E h=>?_) (fun p A outer s H d Q E u h=>?_)
 ·obtain⟨v,t,k,rfl,g,hold,q⟩:=h
  rfl
 ·obtain⟨v,t,k,rfl,g,hold,q⟩:=h
  have nd:=TB.nd
  have y:=BQ u
  refine⟨_,(AD (Ap (Bd (AY (Bu:Bq _ _ (EH K)) rfl T.isinstance Ar (AA (pv 1) (AA (Bv (v:=.ty "str") rfl T.str iW rfl) AB)))) (AH (AQ (JT (AY (Bu:Bq _ _ (EH K)) rfl T.isinstance Ar (AA (pv 0) (AA (Bv (v:=.ty "dict") rfl T.dict Ce rfl) AB))) (Em (VC (QS y (pv 1) (pv 0))))))) AV)
   (AH (AQ (JT (AY (Bu:Bq _ _ (EH K)) rfl T.isinstance Ar (AA (pv 0) (AA (Bv (v:=.ty "list") rfl T.list DW rfl) AB))) (Em (VM hZ LR AG (pv 1) (AY Ag rfl T.len PySem.boot_len (AA (pv 0) AB)))))))),?_⟩
  cases k with
  |inl i=>
   refine⟨_,rfl,_,"str","int",rfl,rfl,.n (.int _),_,rfl,BK ?_⟩
   cases g with
   |int j=>exact⟨_,rfl,_,"list",_,rfl,rfl,.n (.int _),_,rfl,AU rfl q⟩
   |str x=>exact⟨_,rfl,_,"list",_,rfl,rfl,.n (.str _),_,rfl,AU rfl q⟩
   |bl b=>exact hold.elim
   |Av=>exact hold.elim
   |tup _ _=>exact hold.elim
   |BX h o r=>exact⟨_,rfl,_,"list",_,rfl,rfl,.n (.dK h),_,rfl,AU rfl q⟩
   |@lst a d c h r=>
    have B:=r.length
    refine⟨_,rfl,_,"list",_,rfl,rfl,.n (.lst h),_,rfl,Ab rfl ?_⟩
    refine⟨_,rfl,_,_,rfl,rfl,_,rfl,?_⟩
    by_cases z:(0:Int)<=i
    ·refine Ab (decide_eq_true z) ⟨_,rfl,a,_,rfl,.inl (.inl h),_,_,rfl,rfl,?_⟩
     have e:decide (i<(d.length:Int))=((Pt.lst c).Iz (Sum.inl i)).isSome:=by
      simp only[Pt.Iz]
      rw[if_pos z,B]
      by_cases h:i.toNat<c.length
      ·rw[AGS h];exact decide_eq_true (by lia)
      ·rw[List.getElem?_eq_none_iff.mpr (by lia)];exact decide_eq_false (by lia)
     rw[e]
     exact q
    ·refine AU (decide_eq_false z) ?_
     simp only[Pt.Iz]at q
     rw[if_neg z]at q
     exact q
  |inr x=>
   refine⟨_,rfl,_,"str","str",rfl,rfl,.n (.str _),_,rfl,Cr ?_⟩
   cases g with
   |int j=>exact⟨_,rfl,_,"dict",_,rfl,rfl,.n (.int _),_,rfl,AU rfl q⟩
   |str x=>exact⟨_,rfl,_,"dict",_,rfl,rfl,.n (.str _),_,rfl,AU rfl q⟩
   |bl b=>exact hold.elim
   |Av=>exact hold.elim
   |tup _ _=>exact hold.elim
   |lst h r=>exact⟨_,rfl,_,"dict",_,rfl,rfl,.n (.lst h),_,rfl,AU rfl q⟩
   |@BX a kvs l c h o r=>
    refine⟨_,rfl,_,"dict",_,rfl,rfl,.n (.dK h),_,rfl,Ab rfl ?_⟩
    refine⟨_,rfl,_,rfl,a,_,rfl,.inl ⟨_,Sum.inr x,h,rfl,rfl⟩,?_⟩
    have e:(BM kvs (Sum.inr x)).isSome=((Pt.BX l c).Iz (Sum.inr x)).isSome:=by
     rcases Val.Ex o r x with⟨w,C,k1,k2,_⟩|⟨k1,k2⟩
     ·rw[k1,show(Pt.BX l c).Iz (Sum.inr x)=some C from k2];rfl
     ·rw[k1,show(Pt.BX l c).Iz (Sum.inr x)=none from k2];rfl
    rw[e]
    exact q
theorem Kq:Al ["node"] ["node"] (AI Dp):={}
theorem Pp {f:Addr} {k:FuncData} (F:DN K "holder_in" "holder_in" Dp f k) (T:Txt mg):BH P w K mg base Cs 1 f k ["node"] SO:=by
 refine F.ok Kq (fun z H Q E h=>?_) (fun B A outer s H z Q E C h=>?_)
 ·obtain⟨G,v,t,n,rfl,l,m,a,q⟩:=h
  rfl
 ·obtain⟨G,v,t,n,rfl,l,m,a,q⟩:=h
  have nd:=Kq.nd
  have x:=BQ C
  refine⟨_,(AD (Ap (AO (Fg:EL _ _ (cF K false)) (Br K 0) (Aa (AA AR (AA AR AB))) rfl) (AH (AQ (Br K 0))) AV)
   (AH (AQ (A_ AB)))),?_⟩
  obtain⟨y,d,rest,rfl,D,I⟩:=m.node a
  have b:=D.up l
  refine⟨_,rfl,y,_,0,.str d,rfl,rfl,b,Bo,Ad,fun p J=>⟨p,_,rfl,.inr (Bf.of AF),rfl,rfl,_,rfl,?_⟩⟩
  have g:=AE.new (o:=.tup [.str "row",.str "table"]) J
  have i:=b.up g
  have c:Nu (.str d) [.str "row",.str "table"]=decide (d∈(["row","table"]:List Str)):=Dy d ["row","table"]
  rcases I with⟨L,M,e⟩|⟨hw,u,r,rfl,x⟩
  ·refine AU ?_ ⟨Nat.zero_le _,fun N j=>q _ _ (g.trans (AE.new j)) (.inr ⟨e,N,rfl,AF⟩)⟩
   rw[c]
   simp[L,M]
  ·refine Ab ?_ ⟨_,rfl,y,_,1,u,rfl,rfl,i,CI,q _ _ g (.inl x)⟩
   rw[c]
   rcases hw with rfl|rfl<;>decide
theorem HQ:Al ["node"] ["node"] (AI Co):={}
theorem GG {f:Addr} {X:FuncData} (F:DN K "inner_nodes" "inner_nodes" Co f X) (T:Txt mg) (k:Df P w K mg base "inner_of" ["doc"] 2 Jy) (b:Df P w K mg base "holder_in" ["node"] 1 SO):BH P w K mg base Cs 3 f X ["node"] KJ:=by
 obtain⟨z,B,l,m,o,r⟩:=k.ex
 obtain⟨u,x,c,d,g,i⟩:=b.ex
 refine F.ok HQ (fun Z H Q E h=>?_) (fun Gm A outer s H Z Q E J h=>?_)
 ·obtain⟨G,v,t,n,rfl,L,Y,y,q⟩:=h
  rfl
 ·obtain⟨G,v,t,n,rfl,L,Y,y,q⟩:=h
  have nd:=HQ.nd
  have hu:=BQ J
  have j:Ao 2 _:=J.mm
  have a:Ao 1 _:=J.mm
  refine⟨_,(AH (AQ (AK r j rfl o l m .nil AX (AA (AK i a rfl g c d .nil AX (AA (pv 0) AB)) AB)))),?_⟩
  refine⟨_,rfl,G,v,t,n,rfl,L,Y,y,fun w H1 C hw=>?_⟩
  have hold:=y.SM
  rcases hw with hw|⟨e,p0,rfl,M⟩
  ·exact⟨G,w,t.hold,rfl,L.trans C,hw,hold,fun p N D O R S U V I=>q p N D O (C.trans R) (C.free S) U V I⟩
  ·refine⟨H1,.ref p0,.lst [],rfl,AE.refl _,.lst (.inl M) .nil,Nat.zero_le _,fun p N D O R S U V I=>q p N D O (C.trans R) (C.free S) U ?_ (by rw[e];exact I)⟩
   have:D=[]:=I
   subst this
   cases V
   exact .nil
theorem Pq:Al ["holder","told"] ["holder","told"] (AI Fw):={}
theorem Ut {f:Addr} {I:FuncData} (F:DN K "filled" "filled" Fw f I) (T:Txt mg) (c:Df P w K mg base "steps_of" ["doc"] 1 Gw) (m:mg "zip"=none):BH P w K mg base Cs 2 f I ["holder","told"] KL:=by
 obtain⟨j,k,d,e,g,i⟩:=c.ex
 refine F.ok Pq (fun J H Q E h=>?_) (fun R A outer s H J Q E M h=>?_)
 ·cases h<;>(subst_vars;rfl)
 ·have nd:=Pq.nd
  have Z:=BQ M
  have b:Ao 1 _:=M.mm
  refine⟨_,(AD (Ap (Bd (AY Eb rfl T.isinstance Ar (AA (pv 0) (AA (Bv (v:=.ty "list") rfl T.list DW rfl) AB)))) (AH (AQ (BR Er rfl T.list DW (AA (pv 1) AB)))) AV)
   (AH (AQ (Om rfl rfl T.dict rfl m (AK i b rfl g d e .nil AX (AA (pv 0) AB)) (pv 1))))),?_⟩
  rcases h with⟨v,N,L,o,rfl,x,y,S,q⟩|⟨v,U,N,L,o,rfl,x,y,hold,z,B,q⟩
  ·cases x with
   |@lst a J _ h r=>
    refine⟨_,rfl,_,"list","list",rfl,rfl,.lst h,_,rfl,Cr ?_⟩
    exact⟨_,rfl,L,o,rfl,.inl (An.of y),fun p t=>q p _ (AE.new t) t AF⟩
  ·cases x with
   |@BX a kvs _ _ h V r=>
    refine⟨_,rfl,_,"list","dict",rfl,rfl,.dK h,_,rfl,BK ?_⟩
    refine⟨_,rfl,.ref a,.BX U N,rfl,.BX h V r,hold,fun p l H1 C np t st=>?_⟩
    obtain⟨D,rfl,u,X⟩:=st
    have G:=C _ _ y
    have O:D.length=o.length:=by rw[u.length_eq,z]
    refine⟨_,rfl,p,L,D,o,rfl,rfl,An.of t,An.of G,O,by rw[u.length_eq];have:=hold.2;omega,fun Y n=>?_⟩
    refine q Y D _ (C.trans (AE.new n)) (C.free n) u X ?_
    rw[AF]
    congr 2
    exact Fo O (u.nodup_iff.mpr B)
theorem Ih:Al ["holder","inner"] ["holder"] (AI DH):={}
theorem NO {f:Addr} {fd:FuncData} (F:DN K "inner_just" "inner_just" DH f fd) (T:Txt mg) (I:Df P w K mg base "inner_of" ["doc"] 2 Jy) (Z:Df P w K mg base "filled" ["holder","told"] 2 KL):BH P w K mg base Cs 3 f fd ["holder"] KN:=by
 obtain⟨jX,jY,J,L,M,N⟩:=I.ex
 obtain⟨ZU,ZV,ZW,ZX,ZY,ZZ⟩:=Z.ex
 refine F.ok Ih (fun vs H Q E h=>?_) (fun Gm A outer s H vs Q E hr h=>?_)
 ·obtain⟨U,v,t,cs,mk,rfl,hv,hh,hd,q⟩:=h
  rfl
 ·obtain⟨U,v,t,cs,mk,rfl,hv,hh,hd,q⟩:=h
  have nd:=Ih.nd
  have hu:=BQ hr
  have g:Ao 2 _:=hr.mm
  have O:Ao 2 _:=hr.mm
  refine⟨_,(AD (Ai 1 nd (AK N g rfl M J L .nil AX (AA (pv 0) AB)))
   (AD (Ap (Bd (AY (WX rfl) rfl T.any iX (AA (Ba (fv:=[]) (fs:=[]) rfl (.of (by rfl)) (Bg (pv 1)) (fun _ _ _ _=>BV) (fun C s0 U fp=>(CH Rh (Br K 0) AR (AS _)))) AB))) (AH (AQ CL)) AV)
   (AH (AQ (Aa (AA AR (AA (AK ZZ O rfl ZY ZW ZX .nil AX (AA (pv 0) (AA (Ba (fv:=[]) (fs:=[]) rfl (.of (by rfl)) (Bg (pv 1)) (fun _ _ _ _=>BV) (fun C s0 U fp=>(Br K 0))) AB))) AB))))))),?_⟩
  have hH:=hv.up Ey
  refine⟨_,rfl,nw U H,v,t,rfl,Ey,hv,hh.SM,fun p X us H1 s1 np hp vl kd=>?_⟩
  have eu:=hh.kids kd
  subst eu
  have lz:=hh.len
  have lec:X.length=cs.length:=by have:=vl.length;rw[List.length_map]at this;exact this
  have ex:∀{i:Nat} {H2:Hp},i<X.length->AE H1 H2->∃(a:Addr) (w:Str) (rest:List V) (c:Ak),X.getD i .Av=.ref a/\cs[i]?=some c/\Bf K H2 a (.str w::rest)/\((∃d u,c=.As d/\w="just"/\rest=[u]/\Val (nw U H) u d)∨(w≠"just"/\∀d,c≠.As d)):=fun{i H2} j S=>by
   obtain⟨x,hx⟩:∃x,X[i]?=some x:=⟨_,AGS j⟩
   obtain⟨tx,jZ,vx⟩:=vl.get hx
   rw[List.getElem?_map]at jZ
   cases hc:cs[i]? with
   |none=>rw[hc]at jZ;cases jZ
   |some c=>
    rw[hc]at jZ
    cases jZ
    obtain⟨a,w,rest,rfl,ht,k⟩:=vx.ak
    have RM:=(ht.up Ey).up (s1.trans S)
    refine⟨a,w,rest,c,by rw[List.getD_eq_getElem?_getD,hx];rfl,rfl,RM,?_⟩
    rcases k with⟨rfl,rfl,rfl⟩|⟨d,u,rfl,rfl,rfl,hu⟩|⟨xs,m,u,rfl,rfl,rfl,hu⟩|⟨ks,xs,ls,m,u,z,rfl,rfl,rfl,hu,hz⟩
    ·exact .inr ⟨by decide,fun d z=>nomatch z⟩
    ·exact .inl ⟨d,u,rfl,rfl,rfl,hu⟩
    ·exact .inr ⟨by decide,fun d z=>nomatch z⟩
    ·exact .inr ⟨by decide,fun d z=>nomatch z⟩
  have li:∀i,i<X.length->X[i]?=some (X.getD i .Av):=fun i j=>by rw[List.getD_eq_getElem?_getD,AGS j];rfl
  refine⟨_,rfl,p,rfl,⟨_,An.of hp⟩,?_⟩
  refine Dw (n:=X.length) (fun i=>X.getD i .Av) (fun i v=>∃c,cs[i]?=some c/\v=.bl c.gM) (Ah (by lia)) (fun i H2 j S=>⟨_,_,S.seq (An.of hp),li i j⟩) (fun i H2 v H' j S y=>?_) (fun H2 S=>⟨_,S.seq (An.of hp),Nat.le_refl _⟩) (fun i H2 R j S r=>?_) (fun D H2 vs hD S d2 lv ov=>?_)
  ·obtain⟨e,y⟩:=y
   have:=y _ (S.seq (An.of hp))
   rw[li i j]at this
   exact⟨(AGU this).symm,e⟩
  ·obtain⟨a,w,rest,c,e0,e2,RM,k⟩:=ex j S
   rw[e0]
   refine⟨_,rfl,a,_,0,_,rfl,rfl,RM,Bo,rfl,r _ H2 (AE.refl _) ⟨c,e2,?_⟩⟩
   rcases k with⟨d,u,rfl,rfl,rfl,hu⟩|⟨n1,n2⟩
   ·rfl
   ·have:c.gM=true:=by
     cases c with
     |As d=>exact absurd rfl (n2 d)
     |_=>rfl
    rw[this]
    simp[Tp,n1]
  ·obtain⟨bs,rfl,hbs⟩:=Yx (by lia) ov
   refine⟨D,bs,rfl,An.of d2,?_⟩
   rw[hbs]
   have sH2:=s1.trans S
   cases hj:Ak.EC cs with
   |none=>exact⟨_,rfl,Cr (q .Av H2 sH2 (.inl ⟨hj,rfl⟩))⟩
   |some ds=>
    have ecs:=Ak.Cn hj
    refine⟨_,rfl,BK ?_⟩
    have Po:=S _ _ hp
    refine⟨_,rfl,_,rfl,p,rfl,⟨_,An.of Po⟩,?_⟩
    refine Dw (n:=X.length) (fun i=>X.getD i .Av) (fun i v=>∃d,ds[i]?=some d/\Val (nw U H) v d) (Ah (by lia)) (fun i H3 j s3=>⟨_,_,s3.seq (An.of Po),li i j⟩) (fun i H3 v H' j s3 y=>?_) (fun H3 s3=>⟨_,s3.seq (An.of Po),Nat.le_refl _⟩) (fun i H3 R j s3 r=>?_) (fun D3 H3 us ja s3 d3 lu ou=>?_)
    ·obtain⟨e,y⟩:=y
     have:=y _ (s3.seq (An.of Po))
     rw[li i j]at this
     exact⟨(AGU this).symm,e⟩
    ·obtain⟨a,w,rest,c,e0,e2,RM,k⟩:=ex j (S.trans s3)
     rw[e0]
     rw[ecs,List.getElem?_map]at e2
     cases jJ:ds[i]? with
     |none=>rw[jJ]at e2;cases e2
     |some d'=>
      rw[jJ]at e2
      cases e2
      rcases k with⟨d,u,e3,rfl,rfl,hu⟩|⟨n1,n2⟩
      ·cases e3
       exact⟨_,rfl,a,_,1,u,rfl,rfl,RM,CI,r u H3 (AE.refl _) ⟨_,jJ,hu⟩⟩
      ·exact absurd rfl (n2 d')
    ·have lds:ds.length=X.length:=by rw[lec,ecs,List.length_map]
     have vlu:Aj (nw U H) us ds:=Aj.of (by lia) fun i v t h1 h2=>by
      obtain⟨d,g1,g2⟩:=ou i v h1
      rw[h2]at g1
      cases g1
      exact g2
     have B:=sH2.trans s3
     have fin:∀(p4:Addr) (G:Hp),AE H3 G->H3 p4=none->Val (nw U G) (.ref p4) (mk ds)->∀p5,G p5=none->Q (.ref p5) (upd G p5 (.tup [.str "just",.ref p4])):=fun p4 G Y n4 v4 p5 n5=>by
      refine q _ _ ((B.trans Y).trans (AE.new n5)) (.inr ⟨ds,hj,.tup (Bf.of ?_) (.cons (.str _) (.cons (v4.up ?_) .nil))⟩)
      ·rw[BB (hd p5 ((B.trans Y).free n5)),AF]
      ·exact CD (fun b h=>h) fun b o h1 h2=>by rw[AJ (fun z=>by rw[z,n5]at h2;cases h2)];exact h2
     have upV:∀{G:Hp} {v:V} {d:Pt},AE H3 G->Val (nw U H) v d->Val (nw U G) v d:=fun Y h=>h.up (CD (fun b h=>h) fun b o _ h2=>(B.trans Y) _ _ h2)
     have upL:∀{G:Hp} {v:List V} {d:List Pt},AE H3 G->Aj (nw U H) v d->Aj (nw U G) v d:=fun Y h=>h.up (CD (fun b h=>h) fun b o _ h2=>(B.trans Y) _ _ h2)
     have hH3:=hH.up B
     cases hh with
     |row _ z=>
      refine .row v _ D3 us rfl hH3 d3 (by lia) fun p4 G Y n4 h4=>⟨Ad,fun p5 n5=>fin p4 G Y n4 (.lst (.inl ?_) (upL Y vlu)) p5 n5⟩
      rw[BB (hd p4 (B.free n4))]
      exact h4
     |tab ss _ l nd z so=>
      refine .tab v _ _ D3 us rfl hH3 d3 ⟨by rw[List.length_map];exact l,z⟩ (by lia) nd fun p4 mX G Y n4 pm jb h4=>⟨Ad,fun p5 n5=>?_⟩
      have e:=EG jb so pm
      subst e
      have lsu:mX.length=us.length:=by lia
      refine fin p4 G Y n4 (.BX (kvs:=CO mX us) (.inl ?_) (CP lsu) (by rw[Eh lsu];exact upL Y vlu)) p5 n5
      rw[BB (hd p4 (B.free n4))]
      exact h4
theorem Pr:Al ["asks"] ["asks"] (AI Fx):={}
theorem Uu {f:Addr} {j:FuncData} (F:DN K "is_open" "is_open" Fx f j) (T:Txt mg):BH P w K mg base Cs 1 f j ["asks"] XD:=by
 refine F.ok Pr (fun n H Q E h=>?_) (fun t A outer s H n Q E x h=>?_)
 ·obtain⟨v,b,rfl,k,q⟩:=h
  rfl
 ·obtain⟨v,b,rfl,k,q⟩:=h
  have nd:=Pr.nd
  have D:=BQ x
  refine⟨_,(AH (AQ (JT (CH (Fg:EL _ _ (cF K false)) (Br K 0) (Aa (AA AR (AA AR AB))) rfl) (Em (Az (r:=MX K) GL (pv 0) (Rb MP AG) (fun _ _=>rfl)))))),?_⟩
  obtain⟨i,g,rest,rfl,l,y⟩:=k.ak
  refine⟨_,rfl,i,_,0,.str g,rfl,rfl,l,Bo,Ad,fun p B=>⟨p,_,rfl,.inr (Bf.of AF),rfl,rfl,_,rfl,?_⟩⟩
  have c:=AE.new (o:=.tup [.str "row",.str "table"]) B
  have e:=l.up c
  have a:Nu (.str g) [.str "row",.str "table"]=decide (g∈(["row","table"]:List Str)):=Dy g ["row","table"]
  rcases y with⟨rfl,rfl,rfl⟩|⟨d,u,rfl,rfl,rfl,_⟩|⟨C,m,u,rfl,rfl,rfl,_⟩|⟨G,C,I,m,u,z,rfl,rfl,rfl,_⟩
  ·exact AU (by rw[a];decide) (q _ c)
  ·exact AU (by rw[a];decide) (q _ c)
  ·exact Ab (by rw[a];decide) ⟨_,rfl,1,rfl,i,_,_,_,rfl,rfl,e,Gh [.str "row",u] (.bl m),q _ c⟩
  ·exact Ab (by rw[a];decide) ⟨_,rfl,1,rfl,i,_,_,_,rfl,rfl,e,Gh [.str "table",u,z] (.bl m),q _ c⟩
theorem Kr:Al ["asks"] ["asks"] (AI Dq):={}
theorem Pu {n o:Addr} {f:Addr} {p:FuncData} (F:DN K "good_form" "good_form" Dq f p) (T:Txt mg) (c:Df P w K mg base "folded" ["root","inner","join"] 6 (SQ n o)) (x:mg "inner_nodes"=some (.ref n)) (y:mg "good_part"=some (.ref o)):BH P w K mg base Cs 7 f p ["asks"] SR:=by
 obtain⟨j,k,d,e,g,i⟩:=c.ex
 refine F.ok Kr (fun z H Q E h=>?_) (fun B A outer s H z Q E r h=>?_)
 ·obtain⟨G,v,a,rfl,t,u,l,m,q⟩:=h
  rfl
 ·obtain⟨G,v,a,rfl,t,u,l,m,q⟩:=h
  have nd:=Kr.nd
  have C:=BQ r
  have b:Ao 6 _:=r.mm
  refine⟨_,(AH (AQ (AK i b rfl g d e .nil AX (AA (pv 0) (AA (I_ (v:=.ref n) rfl x rfl) (AA (I_ (v:=.ref o) rfl y rfl) AB)))))),?_⟩
  exact⟨_,rfl,G,v,a,rfl,t,u,l,m,q⟩
theorem Ks:Al ["asks","told"] ["asks","told"] (AI Ds):={}
theorem Px {aA:Addr} {f:Addr} {fd:FuncData} (F:DN K "good_part" "good_part" Ds f fd) (T:Txt mg) (J:Df P w K mg base "copy_of" ["doc"] 2 Js) (M:Df P w K mg base "filled" ["holder","told"] 2 KL) (t:Df P w K mg base "good_row" ["cells","more"] 4 Lv) (c:Df P w K mg base "good_table" ["names","lacking","more"] 4 Lw) (mA:mg "ANY"=some (.ref aA)) (hA:Ys K aA ["any"]=true):BH P w K mg base Cs 5 f fd ["asks","told"] KQ:=by
 obtain⟨mY,mZ,N,O,R,S⟩:=J.ex
 obtain⟨ZU,ZV,U,V,X,Y⟩:=M.ex
 obtain⟨jc,jd,x,y,B,C⟩:=t.ex
 obtain⟨eB,eC,g,i,l,n⟩:=c.ex
 refine F.ok Ks (fun vs H Q E h=>?_) (fun Gm A outer s H vs Q E hr h=>?_)
 ·obtain⟨G,H0,v,a0,L,ws,as,cs,rfl,sG,hv,Z,Uq,hL,nL,hd,ma,me,mf,q⟩:=h
  rfl
 ·obtain⟨G,H0,v,a0,L,ws,as,cs,rfl,sG,hv,Z,Uq,hL,nL,hd,ma,me,mf,q⟩:=h
  have nd:=Ks.nd
  have hu:=BQ hr
  have D:Ao 2 _:=hr.mm
  have I:Ao 2 _:=hr.mm
  have r:Ao 4 _:=hr.mm
  have a:Ao 4 _:=hr.mm
  refine⟨_,(AD (Ap (AO BD (Br K 0) AR (AS _)) (AH (AQ (I_ (v:=.ref aA) rfl mA rfl))) AV)
   (AD (Ap (AO BD (Br K 0) AR (AS _)) (AH (AQ (Aa (AA AR (AA (AK S D rfl R N O .nil AX (AA (Br K 0) AB)) AB))))) AV)
   (AD (Ap (AO BD (Br K 0) AR (AS _)) (AH (AQ (AK C r rfl B x y .nil AX (AA (pv 1) (AA (Br K 0) AB))))) AV)
   (AH (AQ (AK n a rfl l g i .nil AX (AA (AK Y I rfl X U V .nil AX (AA (Br K 0) (AA (pv 1) AB))) (AA (Br K 0) (AA (Br K 0) AB))))))))),?_⟩
  obtain⟨t0,w0,rest,rfl,ht0,k⟩:=hv.ak
  have ht:=ht0.up sG
  have le:=me.length
  have lw:=mf.length
  rw[List.length_map]at lw
  refine⟨_,rfl,t0,_,0,_,rfl,rfl,ht,Bo,rfl,_,rfl,?_⟩
  rcases k with⟨rfl,rfl,rfl⟩|⟨d,u,rfl,rfl,rfl,hu⟩|⟨xs,m,u,rfl,rfl,rfl,hu⟩|⟨ks,xs,ls,m,u,z,rfl,rfl,rfl,hu,hz⟩
  ·exact Ab (by decide+kernel) (q (.ref aA) .any H (AE.refl H) (.tup (Bf.ofK (ws:=["any"]) hA _) (.cons (.str _) .nil)) .any)
  ·refine AU (by decide+kernel) ⟨_,rfl,t0,_,0,_,rfl,rfl,ht,Bo,rfl,_,rfl,Ab (by decide+kernel) ?_⟩
   simp only[Ak.CF]at Z
   simp only[Ak.wt]at Uq
   refine⟨_,rfl,t0,_,1,_,rfl,rfl,ht,CI,Oo rfl (hu.up sG) Z Uq fun w H1 s1 vw=>⟨Ad,fun p hp=>?_⟩⟩
   refine q _ (.As d) _ (s1.trans (AE.new hp)) (.tup (Bf.of (by rw[BB (hd p (s1.free hp)),AF])) (.cons (.str _) (.cons (vw.up (CD hd fun b o _ h=>AE.new hp _ _ h)) .nil))) (.As d)
  ·refine AU (by decide+kernel) ⟨_,rfl,t0,_,0,_,rfl,rfl,ht,Bo,rfl,_,rfl,AU (by decide+kernel) ?_⟩
   refine⟨_,rfl,t0,_,0,_,rfl,rfl,ht,Bo,rfl,_,rfl,Ab (by decide+kernel) ?_⟩
   have ea:as=xs:=ma
   subst ea
   simp only[Ak.wt]at Uq
   have:=Ak.Dj as
   have:=Ak.Cz as
   exact⟨_,rfl,_,rfl,t0,_,2,_,rfl,rfl,ht,at2,H0,L,ws,cs,m,rfl,hL,mf,by lia,hd,nL,fun w H1 s1 vw=>q w _ H1 s1 vw (.row me)⟩
  ·refine AU (by decide+kernel) ⟨_,rfl,t0,_,0,_,rfl,rfl,ht,Bo,rfl,_,rfl,AU (by decide+kernel) ?_⟩
   refine⟨_,rfl,t0,_,0,_,rfl,rfl,ht,Bo,rfl,_,rfl,AU (by decide+kernel) ?_⟩
   simp only[Ak.Kd]at ma
   obtain⟨ss,pm,so,e⟩:=ma
   simp only[Ak.CF]at Z
   obtain⟨o1,o2,o3,o4,o5,o6,o7⟩:=Z
   have la:as.length=ss.length:=by have:=congrArg List.length e;simpa using this.symm
   have lks:=pm.length_eq
   refine⟨_,rfl,t0,_,1,_,rfl,rfl,ht,CI,_,rfl,.tab u ks _ L ws rfl (hu.up sG) hL ⟨by rw[Ak.AZ,List.length_map];exact o1,by lia⟩ (by lia) o2 fun p mX H1 s1 np qb jb hp=>?_⟩
   have es:=EG jb so (qb.trans pm.symm)
   subst es
   have XX:=ht.up s1
   refine⟨_,rfl,t0,_,2,_,rfl,rfl,XX,at2,_,rfl,t0,_,3,_,rfl,rfl,XX,BA (j:=3) rfl,G,H0,p,mX,ws,cs,z,ls,m,rfl,hp,mf.up (CD (fun b h=>h) fun b o _ h=>s1 _ _ h),by lia,qb.nodup_iff.mpr o2,by lia,jb,(fun b h=>hd b (s1.free h)),hd p np,(hz.up sG).up s1,o5,fun w H2 s2 vw=>q w _ H2 (s1.trans s2) vw (.tab qb jb e me)⟩
theorem MH:Al ["cells","more","just"] ["cells","more"] (AI Ek):={}
theorem RN {f:Addr} {J:FuncData} (F:DN K "good_row" "good_row" Ek f J) (T:Txt mg) (c:Df P w K mg base "inner_just" ["holder"] 3 KN):BH P w K mg base Cs 4 f J ["cells","more"] Lv:=by
 obtain⟨l,n,d,g,i,j⟩:=c.ex
 refine F.ok MH (fun X H Q E h=>?_) (fun Y A outer s H X Q E M h=>?_)
 ·obtain⟨v,L,Z,k,m,rfl,N,u,D,G,O,q⟩:=h
  rfl
 ·obtain⟨v,L,Z,k,m,rfl,N,u,D,G,O,q⟩:=h
  have nd:=MH.nd
  have hu:=BQ M
  have a:Ao 3 _:=M.mm
  refine⟨_,(AD (Ai 2 nd (AK j a rfl i d g .nil AX (AA (pv 0) AB)))
   (AD (Ap (PW.pt (pw_or (Bd (pv 1)) (pw_or1 (AO JU (pv 2) CL (AS _))))) (AH (AQ (Aa (AA AR (AA (pv 0) (AA (pv 1) AB)))))) AV)
   (AH (AQ (pv 2))))),?_⟩
  have len:=u.length
  rw[List.length_map]at len
  have R:Val (nw v H) (.ref L) (.lst (k.map Ak.pt)):=.lst (.inl (by rw[BB O];exact N)) u
  refine⟨_,rfl,v,.ref L,_,k,.lst,rfl,R,.row k (by omega),G,fun w C B hw=>?_⟩
  have up:∀{S:Hp},AE C S->Val (nw v S) (.ref L) (.lst (k.map Ak.pt)):=fun s2=>R.up (CD (fun b h=>h) fun b o _ h=>(B.trans s2) _ _ h)
  have r:∀p,C p=none->Val (nw v (upd C p (.tup [.str "row",.ref L,.bl m]))) (.ref p) (Ak.row k m).pt:=fun p t=>by
   simp only[Ak.pt]
   rw[Ak.AZ]
   exact .tup (Bf.of (by rw[BB (G p (B.free t)),AF])) (.cons (.str _) (.cons (up (AE.new t)) (.cons (.bl m) .nil)))
  have U:∀{x y z:V},[x,y,z].length<=sizeLine:=Ah (show 3<=1000 by decide)
  refine⟨_,rfl,_,rfl,?_⟩
  cases m with
  |true=>exact Cr (Cr ⟨_,rfl,_,rfl,U,fun p t=>q _ _ (B.trans (AE.new t)) (r p t)⟩)
  |false=>
   rcases hw with⟨I,rfl⟩|⟨ds,I,hw⟩
   ·have e:Ak.B_ k false=Ak.row k false:=by unfold Ak.B_;rw[if_neg (by simp),I]
    rw[e]at q
    exact BK ⟨_,rfl,rfl,_,rfl,Cr ⟨_,rfl,_,rfl,U,fun p t=>q _ _ (B.trans (AE.new t)) (r p t)⟩⟩
   ·have e:Ak.B_ k false=Ak.As (.lst ds):=by unfold Ak.B_;rw[if_neg (by simp),I]
    rw[e]at q
    have nn:w≠.Av:=fun z=>by rw[z]at hw;cases hw
    exact BK ⟨_,rfl,rfl,_,rfl,AU (decide_eq_false nn) ⟨_,rfl,q w C B hw⟩⟩
theorem Ii:Al ["names","lacking","more","just"] ["names","lacking","more"] (AI DI):={}
theorem NP {f:Addr} {Z:FuncData} (F:DN K "good_table" "good_table" DI f Z) (T:Txt mg) (d:Df P w K mg base "inner_just" ["holder"] 3 KN):BH P w K mg base Cs 4 f Z ["names","lacking","more"] Lw:=by
 obtain⟨t,u,g,i,j,k⟩:=d.ex
 refine F.ok Ii (fun vs H Q E h=>?_) (fun Gm A outer s H vs Q E hr h=>?_)
 ·obtain⟨G,M,L,n,ws,r,z,U,m,rfl,hL,D,hlen,N,O,R,S,nL,hz,X,q⟩:=h
  rfl
 ·obtain⟨G,M,L,n,ws,r,z,U,m,rfl,hL,D,hlen,N,O,R,S,nL,hz,X,q⟩:=h
  have nd:=Ii.nd
  have hu:=BQ hr
  have c:Ao 3 _:=hr.mm
  refine⟨_,(AD (Ap (Bd (pv 2)) (AH (AQ (Aa (AA AR (AA (pv 0) (AA (BR Er rfl T.list DW (AA (pv 1) AB)) (AA Gb AB))))))) AV)
   (AD (Ai 3 nd (AK k c rfl j g i .nil AX (AA (pv 0) AB)))
   (AD (Ap (AO JU (pv 3) CL (AS _)) (AH (AQ (Aa (AA AR (AA (pv 0) (AA (A_ AB) (AA Gb AB))))))) AV)
   (AH (AQ (pv 3)))))),?_⟩
  have len:=D.length
  rw[List.length_map]at len
  have vL:Val (nw M H) (.ref L) (.BX n (r.map Ak.pt)):=.BX (kvs:=CO n ws) (.inl (by rw[BB nL];exact hL)) (CP hlen) (by rw[Eh hlen];exact D)
  have up:∀{H2:Hp},AE H H2->Val (nw M H2) (.ref L) (.BX n (r.map Ak.pt)):=fun s2=>vL.up (CD (fun b h=>h) fun b o _ h=>s2 _ _ h)
  have tl:∀{x y z w:V},[x,y,z,w].length<=sizeLine:=Ah (show 4<=1000 by decide)
  have v:∀{I:Hp} {B:Addr} {zs:List Str} {m:Bool},AE H I->H B=none->I B=some (.lst (zs.map V.str))->∀p,I p=none->Val (nw M (upd I p (.tup [.str "table",.ref L,.ref B,.bl m]))) (.ref p) (Ak.tab n r zs m).pt:=fun{I B zs m} J n2 h2 p C=>by
   simp only[Ak.pt]
   rw[Ak.AZ]
   have sp:=AE.new (o:=.tup [.str "table",.ref L,.ref B,.bl m]) C
   exact .tup (Bf.of (by rw[BB (S p (J.free C)),AF])) (.cons (.str _) (.cons (up (J.trans sp)) (.cons (.lst (.inl (by rw[BB (S B n2)];exact sp _ _ h2)) (Ov zs)) (.cons (.bl m) .nil))))
  cases m with
  |true=>
   cases hz with
   |@lst a vs _ ha ra=>
    have ev:=E' ra
    subst ev
    refine⟨_,rfl,_,rfl,Cr ⟨_,rfl,_,rfl,a,_,rfl,.inl (.inl ha),fun B l=>⟨tl,fun p C=>?_⟩⟩⟩
    exact q _ _ ((AE.new l).trans (AE.new C)) (v (AE.new l) l AF p C)
  |false=>
   refine⟨_,rfl,_,rfl,BK ?_⟩
   refine⟨_,rfl,M,.ref L,_,r,.BX n,rfl,vL,.tab n r (by omega) N O R,S,fun w I J hw=>?_⟩
   rcases hw with⟨Y,rfl⟩|⟨ds,Y,hw⟩
   ·have e:Ak.B' n r U false=Ak.tab n r [] false:=by unfold Ak.B';rw[if_neg (by simp),Y]
    rw[e]at q
    exact⟨_,rfl,rfl,_,rfl,Cr ⟨_,rfl,Nat.zero_le _,fun B l=>⟨tl,fun p C=>q _ _ ((J.trans (AE.new l)).trans (AE.new C)) (v (zs:=[]) (J.trans (AE.new l)) (J.free l) AF p C)⟩⟩⟩
   ·have e:Ak.B' n r U false=Ak.As (.BX n ds):=by unfold Ak.B';rw[if_neg (by simp),Y]
    rw[e]at q
    have nn:w≠.Av:=fun z=>by rw[z]at hw;cases hw
    exact⟨_,rfl,rfl,_,rfl,AU (decide_eq_false nn) ⟨_,rfl,q w I J hw⟩⟩
theorem Ij:Al ["asks","path","found","step"] ["asks","path"] (AI DJ):={}
theorem NQ {f:Addr} {fd:FuncData} (F:DN K "found_asks" "found_asks" DJ f fd) (T:Txt mg) (I:Df P w K mg base "holds" ["doc","step"] 1 Kb):BH P w K mg base Cs 2 f fd ["asks","path"] PL:=by
 obtain⟨qc,qd,J,L,M,N⟩:=I.ex
 refine F.ok Ij (fun vs H Q E h=>?_) (fun Gm A outer s H vs Q E hr h=>?_)
 ·obtain⟨v,a,p,ks,rfl,hv,X,hs,Uq,hp,q1,q2⟩:=h
  rfl
 ·obtain⟨v,a,p,ks,rfl,hv,X,hs,Uq,hp,q1,q2⟩:=h
  have nd:=Ij.nd
  have hu:=BQ hr
  have y:Ao 1 _:=hr.mm
  refine⟨_,(AD (Ai 2 nd (pv 0))
   (AD (CM PassesOwn.never rfl (VH (pv 1)) (C_ 3 nd) (AD (Ap (PW.pt (pw_or (AO BD (Br K 2) AR (AS _)) (pw_or1 (MM (Bd (AK N y rfl M J L .nil AX (AA (Br K 2) (AA (pv 3) AB)))))))) (AH (AQ CL)) AV)
   (AH (Ap (AO BD (Br K 2) AR (AS _)) (AH (Ai 2 nd (Aa (AA AR (AA (FQ (Az (r:=Bp K) Ae (Br K 2) (pv 3) (fun _ _=>rfl)) (Bw hu (Br K 2) (pv 3) (fun _ _=>rfl))) AB))))) (AH (Ai 2 nd (FQ (Az (r:=Bp K) Ae (Br K 2) (pv 3) (fun _ _=>rfl)) (Bw hu (Br K 2) (pv 3) (fun _ _=>rfl)))))))))
   (AH (AQ (pv 2))))),?_⟩
  have Y:=hp
  refine⟨_,rfl,_,rfl,p,rfl,⟨_,Y⟩,YF (K:=K) (xs:=ks.map kV) (fun i σ G=>∃(Z:V) (b:Ak) (o:Option V),σ=[some v,some (.ref p),some Z,o]/\a.sub (ks.take i)=some b/\Val G Z b.pt/\AE H G) ⟨v,a,none,rfl,rfl,hv,AE.refl _⟩ (fun i σ G _ ⟨_,_,_,_,_,_,s⟩=>Y.up s) ?_ ?_⟩
  ·rintro i x σ G hx ⟨Z,b,o,rfl,hb,vb,O⟩
   rw[List.getElem?_map]at hx
   cases hk:ks[i]? with
   |none=>rw[hk]at hx;cases hx
   |some k=>
    rw[hk]at hx
    cases hx
    obtain⟨bG,bs,bw,_⟩:=Ak.KY X hs hb
    have st:=Ak.W_ hb hk
    have no:b.De k=none->Q .Av G:=fun e=>q2 (Ak.ZE (st.trans e)) G O
    obtain⟨q,w0,rest,rfl,g,kinds⟩:=vb.ak
    rcases kinds with⟨rfl,rfl,rfl⟩|⟨d,u,rfl,rfl,rfl,l⟩|⟨xs,m,u,rfl,rfl,rfl,l⟩|⟨ns,xs,ls,m,u,z,rfl,rfl,rfl,l,hz⟩
    ·exact⟨_,rfl,q,_,0,_,rfl,rfl,g,Bo,rfl,_,rfl,Ab (by decide+kernel) (no (by cases k<;>rfl))⟩
    ·simp only[Ak.CF]at bG
     simp only[Ak.wt]at bw
     refine⟨_,rfl,q,_,0,_,rfl,rfl,g,Bo,rfl,_,rfl,AU (by decide+kernel) ?_⟩
     refine⟨_,rfl,q,_,1,u,rfl,rfl,g,CI,_,rfl,u,d,k,rfl,l,UN bG (by lia),?_⟩
     cases t:d.Iz k with
     |none=>exact⟨_,rfl,Cr (no (by simp only[Ak.De];rw[t];rfl))⟩
     |some e=>
      obtain⟨w,R,nt⟩:=l.dU t
      have n:Ak.sub a (ks.take (i+1))=some (.As e):=st.trans (by simp only[Ak.De];rw[t];rfl)
      refine⟨_,rfl,BK ?_⟩
      refine⟨_,rfl,q,_,0,_,rfl,rfl,g,Bo,rfl,_,rfl,Ab (by decide+kernel) ?_⟩
      have vj:∀{pT:Addr} (h:G pT=none),Val (upd G pT (.tup [.str "just",w])) (.ref pT) (Ak.As e).pt:=fun h=>.tup (.of AF) (.cons (.str _) (.cons (R.up (AE.new h)) .nil))
      cases nt with
      |pl a2 xs2 j B C x2 D=>exact .inl ⟨_,rfl,q,_,1,u,rfl,rfl,g,CI,_,rfl,a2,_,_,_,B,x2,.inl C,BA D,Ad,fun pT hT=>⟨_,_,_,rfl,n,vj hT,O.trans (AE.new hT)⟩⟩
      |nm a2 kvs B C D=>exact .inr ⟨_,rfl,q,_,1,u,rfl,rfl,g,CI,_,rfl,a2,w,B,.inl ⟨_,k,C,rfl,D.symm⟩,Ad,fun pT hT=>⟨_,_,_,rfl,n,vj hT,O.trans (AE.new hT)⟩⟩
    ·have t:=Ak.ZF (xs:=xs) (m:=m) (k:=k)
     obtain⟨e,S⟩:∃e,(Ak.row xs m).De k=e:=⟨_,rfl⟩
     rw[S]at t
     have hold:Dz (.lst (Ak.CY xs)):=by
      have:=Ak.Dj xs
      have:=Ak.Cz xs
      simp only[Ak.wt]at bw
      simp only[Dz,Ak.AZ,List.length_map]
      lia
     refine⟨_,rfl,q,_,0,_,rfl,rfl,g,Bo,rfl,_,rfl,AU (by decide+kernel) ?_⟩
     refine⟨_,rfl,q,_,1,u,rfl,rfl,g,CI,_,rfl,u,_,k,rfl,l,hold,?_⟩
     rw[t]
     cases U:e with
     |none=>exact⟨_,rfl,Cr (no (S.trans U))⟩
     |some c=>
      rw[U]at t
      obtain⟨w,R,nt⟩:=l.dU t
      have n:=st.trans (S.trans U)
      refine⟨_,rfl,BK ?_⟩
      refine⟨_,rfl,q,_,0,_,rfl,rfl,g,Bo,rfl,_,rfl,AU (by decide+kernel) ?_⟩
      cases nt with
      |pl a2 xs2 j B C x2 D=>exact .inl ⟨_,rfl,q,_,1,u,rfl,rfl,g,CI,_,rfl,a2,_,_,_,B,x2,.inl C,BA D,_,_,_,rfl,n,R,O⟩
      |nm a2 kvs B C D=>exact .inr ⟨_,rfl,q,_,1,u,rfl,rfl,g,CI,_,rfl,a2,w,B,.inl ⟨_,k,C,rfl,D.symm⟩,_,_,_,rfl,n,R,O⟩
    ·have t:=Ak.ZH (ks:=ns) (ls:=ls) (xs:=xs) (m:=m) (k:=k)
     obtain⟨e,S⟩:∃e,(Ak.tab ns xs ls m).De k=e:=⟨_,rfl⟩
     rw[S]at t
     have hold:Dz (.BX ns (Ak.CY xs)):=by
      simp only[Ak.CF]at bG
      simp only[Dz,Ak.AZ,List.length_map]
      lia
     refine⟨_,rfl,q,_,0,_,rfl,rfl,g,Bo,rfl,_,rfl,AU (by decide+kernel) ?_⟩
     refine⟨_,rfl,q,_,1,u,rfl,rfl,g,CI,_,rfl,u,_,k,rfl,l,hold,?_⟩
     rw[t]
     cases U:e with
     |none=>exact⟨_,rfl,Cr (no (S.trans U))⟩
     |some c=>
      rw[U]at t
      obtain⟨w,R,nt⟩:=l.dU t
      have n:=st.trans (S.trans U)
      refine⟨_,rfl,BK ?_⟩
      refine⟨_,rfl,q,_,0,_,rfl,rfl,g,Bo,rfl,_,rfl,AU (by decide+kernel) ?_⟩
      cases nt with
      |pl a2 xs2 j B C x2 D=>exact .inl ⟨_,rfl,q,_,1,u,rfl,rfl,g,CI,_,rfl,a2,_,_,_,B,x2,.inl C,BA D,_,_,_,rfl,n,R,O⟩
      |nm a2 kvs B C D=>exact .inr ⟨_,rfl,q,_,1,u,rfl,rfl,g,CI,_,rfl,a2,w,B,.inl ⟨_,k,C,rfl,D.symm⟩,_,_,_,rfl,n,R,O⟩
  ·rintro σ G ⟨Z,b,o,rfl,hb,vb,O⟩
   rw[List.length_map,List.take_length]at hb
   exact⟨_,rfl,q1 Z b G hb O vb⟩
theorem TC:Al ["asks","step"] ["asks","step"] (AI IQ):={}
theorem XY {f:Addr} {M:FuncData} (F:DN K "tells" "tells" IQ f M) (T:Txt mg) (b:Df P w K mg base "holds" ["doc","step"] 1 Kb):BH P w K mg base Cs 2 f M ["asks","step"] Sh:=by
 obtain⟨r,t,c,g,i,j⟩:=b.ex
 refine F.ok TC (fun X H Q E h=>?_) (fun Y A outer s H X Q E N h=>?_)
 ·obtain⟨v,o,B,C,m,n,rfl,O,p,q⟩:=h
  rfl
 ·obtain⟨v,o,B,C,m,n,rfl,O,p,q⟩:=h
  have nd:=TC.nd
  have R:=BQ N
  have a:Ao 1 _:=N.mm
  refine⟨_,(AH (AQ (Nh (AK j a rfl i c g .nil AX (AA (Br K 0) (AA (pv 1) AB))) (Em (JT (CH BD (Br K 0) AR (AS _)) (Em (CH (Fg:EL _ _ (cF K false)) (pv 1) (Br K 0) rfl))))))),?_⟩
  obtain⟨D,w0,rest,rfl,G,Z⟩:=O.ak
  rcases Z with⟨e,_⟩|⟨d,u,e,_⟩|⟨I,m',u,e,_⟩|⟨qe,I,ls',m',u,z,e,rfl,rfl,R,J⟩
  ·cases e
  ·cases e
  ·cases e
  cases e
  have hold:Dz (.BX o (Ak.CY B)):=by
   simp only[Ak.CF]at p
   simp only[Dz,Ak.AZ,List.length_map]
   lia
  obtain⟨l,vl,rfl,S,rl⟩:=J.Mq
  rw[E' rl]at S
  refine⟨_,rfl,D,_,1,u,rfl,rfl,G,CI,_,rfl,u,_,Sum.inr n,rfl,R,hold,?_⟩
  have e1:((Pt.BX o (Ak.CY B)).Iz (Sum.inr n)).isSome=decide (n∈o):=by
   show(lk o (Ak.CY B) n).isSome=_
   rw[Bool.eq_iff_iff,decide_eq_true_iff]
   constructor
   ·intro h
    obtain⟨x,L⟩:=Option.isSome_iff_exists.mp h
    exact(Jx L).1
   ·intro h
    obtain⟨x,L⟩:=JI hold.1 h
    rw[L]
    rfl
  rw[e1]
  have k:AM.DB o C n=(decide (n∈o)||decide (n∈C)):=rfl
  rw[k]at q
  refine⟨_,rfl,?_⟩
  cases U:decide (n∈o)with
  |true=>
   rw[U,Bool.true_or]at q
   exact Cr q
  |false=>
   rw[U,Bool.false_or]at q
   refine BK ⟨_,rfl,D,_,0,_,rfl,rfl,G,Bo,rfl,_,rfl,Ab (by decide+kernel) ⟨_,rfl,_,rfl,D,_,2,_,rfl,rfl,G,at2,l,_,rfl,.inl (.inl S),rfl,(by rw[List.all_eq_true];intro z J;obtain⟨y,_,rfl⟩:=List.mem_map.mp J;rfl),?_⟩⟩
   show Q (.bl (Nu (.str n) (C.map V.str))) H
   rw[Dy]
   exact q
theorem Ik:Al ["makes","asks"] ["makes","asks"] (AI DK):={}
theorem NR {fI:Addr} {f:Addr} {fd:FuncData} (F:DN K "good_makes" "good_makes" DK f fd) (T:Txt mg) (z:Df P w K mg base "gathered" ["root","inner"] 4 (M' fI)) (c:Df P w K mg base "is_good_part" ["makes","asks"] 4 XF) (mI:mg "inner_nodes"=some (.ref fI)):BH P w K mg base Cs 5 f fd ["makes","asks"] Sl:=by
 obtain⟨O,U,B,G,I,J⟩:=z.ex
 obtain⟨L,M,d,g,j,k⟩:=c.ex
 refine F.ok Ik (fun vs H Q E h=>?_) (fun Gm A outer s H vs Q E hr h=>?_)
 ·obtain⟨v,u,m,a,rfl,hv,X,hz,mh,aok,asr,aw9,q⟩:=h
  rfl
 ·obtain⟨v,u,m,a,rfl,hv,X,hz,mh,aok,asr,aw9,q⟩:=h
  have nd:=Ik.nd
  have hu:=BQ hr
  have o:Ao 4 _:=hr.mm
  have b:Ao 4 _:=hr.mm
  refine⟨_,(AH (AQ (AY (OK rfl) rfl T.all ab (AA (Ba (fv:=["asks"]) (fs:=[1]) rfl (.of (by rfl)) (Bg (AK J o rfl I B G .nil AX (AA (pv 0) (AA (I_ (v:=.ref fI) rfl mI rfl) AB)))) (fun _ _ _ _=>BV) (fun C s0 H0 fp=>(AK k b rfl j d g .nil AX (AA (pv 0) (AA (pv 1) AB))))) AB)))),?_⟩
  refine⟨_,rfl,H,v,m.pt,m.size,rfl,AE.refl H,hv,m.nd X,hz,fun p Y l gL H1 s1 np hp vl bf l9=>?_⟩
  obtain⟨ms,rfl,oL,eg⟩:=AM.PK (A:=a) X bf
  have le:=vl.length
  rw[List.length_map]at le l9 eg
  rw[List.take_length,List.drop_length]at eg
  simp only[List.all_nil,Bool.and_true]at eg
  refine⟨p,rfl,⟨_,An.of hp⟩,?_⟩
  have ix:∀{i:Nat},i<Y.length->Y[i]?=some (Y.getD i .Av):=fun{i} h=>by rw[List.getD_eq_getElem?_getD,AGS h];rfl
  have ixm:∀{i:Nat},i<Y.length->∃x,ms[i]?=some x/\Val H (Y.getD i .Av) x.pt:=fun{i} h=>by
   obtain⟨t,h1,h2⟩:=vl.get (ix h)
   rw[List.getElem?_map]at h1
   cases Z:ms[i]? with
   |none=>rw[Z]at h1;cases h1
   |some x=>rw[Z]at h1;cases h1;exact⟨x,rfl,h2⟩
  refine Dw (n:=Y.length) (fun i=>Y.getD i .Av) (fun i y=>∃x,ms[i]?=some x/\y=.bl (AM.one a x)) (CT (by omega)) (fun i H2 hi N=>⟨_,_,N.seq (An.of hp),ix hi⟩) (fun i H2 y H' hi N yl=>?_) (fun H2 N=>⟨_,N.seq (An.of hp),Nat.le_refl _⟩) (fun i H2 R hi N r=>?_) (fun D H2 ys hD N d2 ly oy=>?_)
  ·obtain⟨e,yl⟩:=yl
   have:=yl _ (N.seq (An.of hp))
   rw[ix hi]at this
   exact⟨(AGU this).symm,e⟩
  ·obtain⟨x,Z,vx⟩:=ixm hi
   have S:=s1.trans N
   exact⟨_,rfl,_,rfl,_,u,x,a,rfl,vx.up S,AM.Bx oL x (AGV Z),mh.up S,aok,asr,aw9,fun H3 s3=>r _ H3 s3 ⟨x,Z,rfl⟩⟩
  ·have ey:ys=(ms.map (AM.one a)).map V.bl:=by
    refine List.ext_getElem? fun i=>?_
    rw[List.getElem?_map,List.getElem?_map]
    cases hy:ys[i]? with
    |none=>
     have:=List.getElem?_eq_none_iff.mp hy
     rw[List.getElem?_eq_none (by lia)]
     rfl
    |some y=>
     obtain⟨x,Z,rfl⟩:=oy i y hy
     rw[Z]
     rfl
   subst ey
   refine⟨D,_,rfl,An.of d2,?_⟩
   have e:(ms.map (AM.one a)).all id=ms.all (AM.one a):=by rw[List.all_map];rfl
   rw[e,<-eg]
   exact q H2 (s1.trans N)
theorem HR:Al ["makes","asks"] ["makes","asks"] (AI Cp):={}
theorem LN {f:Addr} {fd:FuncData} (F:DN K "is_good_part" "is_good_part" Cp f fd) (T:Txt mg) (C:Df P w K mg base "found_asks" ["asks","path"] 2 PL) (n:Df P w K mg base "is_good_rest" ["makes","found"] 3 XE):BH P w K mg base Cs 4 f fd ["makes","asks"] XF:=by
 obtain⟨Z,eD,g,i,j,k⟩:=C.ex
 obtain⟨R,S,r,t,y,B⟩:=n.ex
 refine F.ok HR (fun vs H Q E h=>?_) (fun Gm A outer s H vs Q E hr h=>?_)
 ·obtain⟨v,u,m,a,rfl,hv,O,U,L,M,X,q⟩:=h
  rfl
 ·obtain⟨v,u,m,a,rfl,hv,O,U,L,M,X,q⟩:=h
  have nd:=HR.nd
  have hu:=BQ hr
  have c:Ao 2 _:=hr.mm
  have l:Ao 3 _:=hr.mm
  refine⟨_,(AD (Ap (AO BD (Br K 0) AR (AS _)) (AH (AQ Gb)) AV)
   (AD (Ap (AO BD (Br K 0) AR (AS _)) (AH (AQ (CH MS (AK k c rfl j g i .nil AX (AA (pv 1) (AA (Br K 0) AB))) CL (AS _)))) AV)
   (AH (AQ (Nh (CH JU (Br K 0) CL (AS _)) (Em (AK B l rfl y r t .nil AX (AA (pv 0) (AA (AK k c rfl j g i .nil AX (AA (pv 1) (AA (Br K 0) AB))) AB))))))))),?_⟩
  obtain⟨N,w0,rest,rfl,Y,cs⟩:=hv.jI
  refine⟨_,rfl,N,_,0,.str w0,rfl,rfl,Y,Bo,rfl,_,rfl,?_⟩
  rcases cs with⟨p,x,rfl,rfl,rfl,hx⟩|⟨d,x,rfl,rfl,rfl,hx⟩|⟨xs,o,x,z,rfl,rfl,rfl,hx,hz⟩|⟨ns,xs,o,x,z,rfl,rfl,rfl,hx,hz⟩
  ·refine AU (by decide+kernel) ⟨_,rfl,N,_,0,_,rfl,rfl,Y,Bo,rfl,_,rfl,Ab (by decide+kernel) ?_⟩
   obtain⟨pa,rfl,hp⟩:=hx.path
   refine⟨_,rfl,_,rfl,N,_,1,_,rfl,rfl,Y,CI,u,a,pa,p,rfl,U,L,M,X,hp,fun w b H1 e I vb=>⟨rfl,?_⟩,fun e H1 I=>⟨rfl,?_⟩⟩
   ·have D:=q H1 I
    have ne:decide (w=V.Av)=false:=by
     obtain⟨t1,_,_,rfl,_⟩:=vb.ak
     rfl
    rw[ne]
    simp only[AM.one,e]at D
    exact D
   ·have D:=q H1 I
    simp only[AM.one,e]at D
    exact D
  ·exact Ab (by decide+kernel) (q H (AE.refl H))
  ·have kind:(∃J o',AM.row xs o=.row J o')∨∃ks J o',AM.row xs o=.tab ks J o':=.inl ⟨_,_,rfl⟩
   have G:=fun p=>AM.ZL a xs p
   refine AU (by decide+kernel) ⟨_,rfl,N,_,0,_,rfl,rfl,Y,Bo,rfl,_,rfl,AU (by decide+kernel) ?_⟩
   refine⟨_,rfl,N,_,2,z,rfl,rfl,Y,at2,rfl,_,rfl,?_⟩
   cases o with
   |none=>
    cases hz
    exact Ab rfl (q H (AE.refl H))
   |some p=>
    obtain⟨pa,rfl,hp⟩:=Val.path hz
    refine AU rfl ⟨_,rfl,_,rfl,_,rfl,N,_,2,_,rfl,rfl,Y,at2,u,a,pa,p,rfl,U,L,M,X,hp,fun w b H1 e I vb=>?_,fun e H1 I=>?_⟩
    ·refine⟨.ref N,w,_,some b,rfl,hv.up I,O,kind,.inr ⟨b,rfl,vb,(Ak.KY L M e).1⟩,fun H2 s2=>?_⟩
     have D:=q H2 (I.trans s2)
     rw[G,e]at D
     exact D
    ·refine⟨.ref N,.Av,_,none,rfl,hv.up I,O,kind,.inl ⟨rfl,rfl⟩,fun H2 s2=>?_⟩
     have D:=q H2 (I.trans s2)
     rw[G,e]at D
     exact D
  ·have kind:(∃J o',AM.tab ns xs o=.row J o')∨∃ks J o',AM.tab ns xs o=.tab ks J o':=.inr ⟨_,_,_,rfl⟩
   have G:=fun p=>AM.ZM a ns xs p
   refine AU (by decide+kernel) ⟨_,rfl,N,_,0,_,rfl,rfl,Y,Bo,rfl,_,rfl,AU (by decide+kernel) ?_⟩
   refine⟨_,rfl,N,_,2,z,rfl,rfl,Y,at2,rfl,_,rfl,?_⟩
   cases o with
   |none=>
    cases hz
    exact Ab rfl (q H (AE.refl H))
   |some p=>
    obtain⟨pa,rfl,hp⟩:=Val.path hz
    refine AU rfl ⟨_,rfl,_,rfl,_,rfl,N,_,2,_,rfl,rfl,Y,at2,u,a,pa,p,rfl,U,L,M,X,hp,fun w b H1 e I vb=>?_,fun e H1 I=>?_⟩
    ·refine⟨.ref N,w,_,some b,rfl,hv.up I,O,kind,.inr ⟨b,rfl,vb,(Ak.KY L M e).1⟩,fun H2 s2=>?_⟩
     have D:=q H2 (I.trans s2)
     rw[G,e]at D
     exact D
    ·refine⟨.ref N,.Av,_,none,rfl,hv.up I,O,kind,.inl ⟨rfl,rfl⟩,fun H2 s2=>?_⟩
     have D:=q H2 (I.trans s2)
     rw[G,e]at D
     exact D
theorem HS:Al ["makes","found"] ["makes","found"] (AI Cq):={}
theorem LO {f:Addr} {fd:FuncData} (F:DN K "is_good_rest" "is_good_rest" Cq f fd) (T:Txt mg) (j:Df P w K mg base "is_open" ["asks"] 1 XD) (N:Df P w K mg base "tells" ["asks","step"] 2 Sh):BH P w K mg base Cs 3 f fd ["makes","found"] XE:=by
 obtain⟨mi,mj,l,t,x,B⟩:=j.ex
 obtain⟨qf,qg,O,S,U,X⟩:=N.ex
 refine F.ok HS (fun vs H Q E h=>?_) (fun Gm A outer s H vs Q E hr h=>?_)
 ·obtain⟨v,f2,m,ob,rfl,hv,Be,hm,ho,q⟩:=h
  rfl
 ·obtain⟨v,f2,m,ob,rfl,hv,Be,hm,ho,q⟩:=h
  have nd:=HS.nd
  have hu:=BQ hr
  have g:Ao 1 _:=hr.mm
  have G:Ao 2 _:=hr.mm
  refine⟨_,(AD (Ap (PW.pt (pw_or (AO JU (pv 1) CL (AS _)) (pw_or (AO Rh (Br K 1) (Br K 0) (AS _)) (pw_or1 (MM (Bd (AK B g rfl x l t .nil AX (AA (pv 1) AB)))))))) (AH (AQ Gb)) AV)
   (AH (AQ (Nh (CH BD (Br K 0) AR (AS _)) (Em (AY (OK rfl) rfl T.all ab (AA (Ml (Ba (fv:=["found"]) (fs:=[1]) rfl (.of (by rfl)) (JH (Br K 0)) (fun _ _ _ _=>BV) (fun C s0 H0 fp=>(AK X G rfl U O S .nil AX (AA (pv 1) (AA (pv 0) AB)))))) AB))))))),?_⟩
  rcases ho with⟨rfl,rfl⟩|⟨b,rfl,hb,YA⟩
  ·refine⟨_,rfl,rfl,_,rfl,Ab rfl (Ab rfl ?_)⟩
   have:=q H (AE.refl H)
   rcases hm with⟨xs,o,rfl⟩|⟨I,xs,o,rfl⟩<;>exact this
  obtain⟨t0,w0,rest,rfl,ht,cs⟩:=hv.jI
  obtain⟨t1,w1,AAM,rfl,XX,ml⟩:=hb.ak
  refine⟨_,rfl,rfl,_,rfl,AU rfl ?_⟩
  refine⟨_,rfl,t1,_,0,.str w1,rfl,rfl,XX,Bo,_,rfl,t0,_,0,.str w0,rfl,rfl,ht,Bo,rfl,_,rfl,?_⟩
  have q0:=q H (AE.refl H)
  rcases cs with⟨p,u,rfl,_⟩|⟨d,u,rfl,_⟩|⟨xs,o,u,z,rfl,rfl,rfl,hu,hz⟩|⟨c,xs,o,u,z,rfl,rfl,rfl,hu,hz⟩
  ·rcases hm with⟨_,_,e⟩|⟨_,_,_,e⟩<;>cases e
  ·rcases hm with⟨_,_,e⟩|⟨_,_,_,e⟩<;>cases e
  ·rcases ml with⟨rfl,rfl,rfl⟩|⟨d,u1,rfl,rfl,rfl,_⟩|⟨Y,m,u1,rfl,rfl,rfl,_⟩|⟨I,Y,M,m,u1,z1,rfl,rfl,rfl,_,_⟩
   ·exact Ab (by decide+kernel) (Ab rfl q0)
   ·exact Ab (by decide+kernel) (Ab rfl q0)
   ·refine AU (by decide+kernel) ⟨_,rfl,_,_,rfl,hb,fun H1 Z=>⟨_,rfl,?_⟩⟩
    have q1:=q H1 Z
    cases m with
    |false=>exact Ab rfl q1
    |true=>exact AU rfl ⟨_,rfl,t0,_,0,_,rfl,rfl,ht.up Z,Bo,rfl,_,rfl,Ab (by decide+kernel) q1⟩
   ·exact Ab (by decide+kernel) (Ab rfl q0)
  ·rcases ml with⟨rfl,rfl,rfl⟩|⟨d,u1,rfl,rfl,rfl,_⟩|⟨Y,m,u1,rfl,rfl,rfl,_⟩|⟨I,Y,M,m,u1,z1,rfl,rfl,rfl,hu1,hz1⟩
   ·exact Ab (by decide+kernel) (Ab rfl q0)
   ·exact Ab (by decide+kernel) (Ab rfl q0)
   ·exact Ab (by decide+kernel) (Ab rfl q0)
   ·refine AU (by decide+kernel) ⟨_,rfl,_,_,rfl,hb,fun H1 Z=>⟨_,rfl,?_⟩⟩
    have q1:=fun H2 s2=>q H2 (Z.trans s2)
    cases m with
    |false=>exact Ab rfl (q1 H1 (AE.refl _))
    |true=>
     refine AU rfl ⟨_,rfl,t0,_,0,_,rfl,rfl,ht.up Z,Bo,rfl,_,rfl,AU (by decide+kernel) ?_⟩
     cases hu with
     |@BX a kvs _ _ ha dF ra=>
      have ha:=ha.up (Z _)
      have kl:kvs.length=c.length:=by have:=congrArg List.length dF;simpa using this
      have ACw:c.length<64:=by simp only[AM.ok]at Be;exact Be.2.2.1
      have je:∀(i:Nat) k v,kvs[i]?=some (k,v)->i<c.length/\k=Sum.inr (c.getD i ""):=fun i k v e=>by
       have J:=(AGT e).1
       rw[kl]at J
       refine⟨J,?_⟩
       have e2:=congrArg (fun z=>z[i]?) dF
       simp only[List.getElem?_map,e,AGS J]at e2
       have e2:k=Sum.inr c[i]:=by simpa using e2
       rw[e2,List.getD_eq_getElem?_getD,AGS J]
       rfl
      refine⟨a,kvs,ha,fun o2 Hf F=>⟨_,rfl,t0,_,1,.ref a,rfl,rfl,Bf.Hy (ht.up Z) (.Cg F),CI,a,o2,_,rfl,F.at_,?_⟩⟩
      have hbf:Val Hf (.ref t1) (Ak.tab I Y M true).pt:=(hb.up Z).Hy (.Cg F)
      refine Hr (n:=c.length) (fun i=>.str (c.getD i "")) (fun i=>.bl (AM.DB I M (c.getD i ""))) (fun _=>true) (Ah (by omega)) (fun i D Y J L=>⟨by rw[AJ (Au F.at_ L)];exact F.at_,by rw[kl];exact J⟩) (fun i D Y v H' J L y=>?_)
       (fun D Y L=>⟨by rw[AJ (Au F.at_ L)];exact F.at_,kl.symm⟩) (fun i D Y R J L r=>by exact r) (fun i D zs R J L _ r=>?_) (fun D L=>?_)
      ·obtain⟨e,k,w',e1,e2⟩:=y
       rw[(je i k w' e1).2]at e2
       exact⟨e2,e⟩
      ·exact⟨_,rfl,_,rfl,_,I,Y,M,true,_,rfl,hbf.up (AE.new L),YA,r⟩
      ·have hD0:=F.free L
       refine⟨by rw[AJ (Au F.at_ L)];exact F.at_,?_⟩
       have s2:=F.back (AE.new (o:=.lst ((List.filter (fun _=>true) (List.range c.length)).map fun i=>V.bl (AM.DB I M (c.getD i "")))) L)
       have fD:back a H1 (upd Hf D (.lst ((List.filter (fun _=>true) (List.range c.length)).map fun i=>V.bl (AM.DB I M (c.getD i ""))))) D=some (.lst ((c.map (AM.DB I M)).map V.bl)):=by
        rw[Fl hD0.2,AF]
        congr 2
        rw[List.filter_eq_self.mpr fun _ _=>rfl,List.map_map]
        refine List.ext_getElem (by simp) fun i h1 h2=>?_
        simp only[List.getElem_map,List.getElem_range,Function.comp]
        have J:i<c.length:=by simpa using h1
        rw[List.getD_eq_getElem?_getD,AGS J]
        rfl
       refine⟨D,c.map (AM.DB I M),rfl,An.of fD,?_⟩
       have e:(c.map (AM.DB I M)).all id=c.all (AM.DB I M):=by rw[List.all_map];rfl
       rw[e]
       exact q1 _ s2
theorem XZ:Al ["_law_script","_law_k"] ["_law_script","_law_k"] (AI MD):={}
theorem Za {f:Addr} {d:FuncData} (F:DN K "_law_cell" "_law_cell" MD f d) (T:Txt mg):BH P w K mg base Cs 1 f d ["_law_script","_law_k"] (Vo K):=by
 refine F.ok XZ (fun g H Q E h=>?_) (fun i A outer s H g Q E j h=>?_)
 ·obtain⟨a,b,k,rfl,c,q⟩:=h
  rfl
 ·obtain⟨a,b,k,rfl,c,q⟩:=h
  have nd:=XZ.nd
  have n:=BQ j
  refine⟨_,(AD (Ap (AO LR (pv 1) (AY Ag rfl T.len PySem.boot_len (AA (pv 0) AB)) (AS _)) (AH (AQ (AN Aq (Az (r:=Bp K) Ae (pv 0) (pv 1) (fun _ _=>rfl)) (AN GK AG (AN QL AG AG))))) AV)
   (AH (AQ (AN By AG (AN GK AG (pv 1)))))),?_⟩
  refine⟨_,rfl,_,rfl,a,_,rfl,.inl c,_,_,rfl,rfl,_,rfl,?_⟩
  refine Vc (fun e=>?_) (fun e=>?_)
  ·have l:k<b.length:=by
    have:=of_decide_eq_true e
    rw[List.length_map]at this
    omega
   have m:(b.map V.int)[k]?=some (.int b[k]):=by rw[List.getElem?_map,AGS l];rfl
   exact⟨_,rfl,_,rfl,a,_,_,_,rfl,rfl,c,BA m,_,_,rfl,rfl,⟨by decide,by decide,by decide⟩,_,_,rfl,rfl,.inl ⟨by decide,by decide⟩,_,_,rfl,rfl,(by show(0:Int)<_;decide),q _ (Int.emod_nonneg _ (by decide))⟩
  ·exact⟨_,rfl,_,_,rfl,rfl,.inl ⟨by decide,by decide⟩,_,_,rfl,rfl,q _ (by omega)⟩
theorem bQ:Al ["_law_cell_here","_law_k","_law_number","_law_j"] ["_law_cell_here","_law_k"] (AI RH):={}
theorem eE {f:Addr} {n:FuncData} (F:DN K "_law_mix" "_law_mix" RH f n) (T:Txt mg):BH P w K mg base Cs 1 f n ["_law_cell_here","_law_k"] Vs:=by
 refine F.ok bQ (fun p H Q E h=>?_) (fun r A outer s H p Q E t h=>?_)
 ·obtain⟨c,k,rfl,u,q⟩:=h
  rfl
 ·obtain⟨c,k,rfl,u,q⟩:=h
  have nd:=bQ.nd
  have v:=BQ t
  refine⟨_,(AD (Ap (PW.pt (pw_and (AO BD (AN Aq (pv 0) AG) AG (AS _)) (pw_and1 (AO h_ (pv 0) (AN GK AG (AN QL AG AG)) (AS _))))) (AD (Ai 2 nd (AN Bh (pv 0) AG))
   (AD (CM PassesOwn.never rfl (BJ rfl T.range (AA (pv 1) AB)) (C_ 3 nd) (AH (Ai 2 nd (AN Bh (pv 2) AG))))
   (AH (AQ (AN Aq (pv 2) AG))))) AV)
   (AD (Ai 2 nd (AN Aq (AN GK (AN By (pv 0) AG) AG) AG))
   (AD (Ai 2 nd (AN Aq (AN By (pv 2) (AN GK (AN By (pv 1) AG) AG)) AG))
   (AD (Ai 2 nd (AN Aq (AN GK (pv 2) (pv 2)) AG))
   (AD (Ai 2 nd (AN Aq (AN GK (AN By (pv 2) AG) (AN By (AN Bh (pv 2) AG) AG)) AG))
   (AH (AQ (AN Bh (pv 2) AG)))))))),?_⟩
  have lo:∀x:Int,-(2 ^ 64)<x % 2305843009213693951/\x % 2305843009213693951<2 ^ 64:=fun x=>by
   have b:=Int.emod_nonneg x (show(2305843009213693951:Int)≠0 by decide)
   have d:=Int.emod_lt_of_pos x (show(0:Int)<2305843009213693951 by decide)
   constructor<;>omega
  have lo1:∀x:Int,-(2 ^ 64)<x % 999999999999999989+1/\x % 999999999999999989+1<2 ^ 64:=fun x=>by
   have b:=Int.emod_nonneg x (show(999999999999999989:Int)≠0 by decide)
   have d:=Int.emod_lt_of_pos x (show(0:Int)<999999999999999989 by decide)
   constructor<;>omega
  have o:¬(c % 4=0/\4*10 ^ 60<=c)->Q (.int ((OR c k+1)*(OR c k/1000003+7) % 2305843009213693951/7919)) H:=fun h=>by
   have e:T_ c k=_:=if_neg h
   rw[e]at q
   exact q
  refine⟨_,rfl,_,_,rfl,rfl,(by show(0:Int)<_;decide),rfl,_,rfl,?_⟩
  refine Vc (fun b=>?_) (fun b=>?_)
  ·refine⟨_,rfl,_,_,rfl,rfl,⟨by decide,by decide,by decide⟩,_,_,rfl,rfl,.inl ⟨by decide,by decide⟩,_,_,rfl,rfl,_,rfl,?_⟩
   have c4:c % 4=0:=V.int.inj (of_decide_eq_true b)
   refine Vc (fun d=>?_) (fun d=>?_)
   ·have g:4*10 ^ 60<=c:=of_decide_eq_true d
    have e:T_ c k=_:=if_pos ⟨c4,g⟩
    rw[e]at q
    refine⟨_,rfl,_,_,rfl,rfl,⟨by decide,by decide⟩,?_⟩
    refine⟨_,rfl,_,rfl,by omega,by omega,Ci (lo:=0) (fun i j l=>∃(m:Option V),j=[some (.int c),some (.int (k:Int)),some (.int (Vq i (c/4))),m]/\l=H) ⟨none,rfl,rfl⟩ ?_ ?_⟩
    ·rintro i j l y ⟨m,rfl,rfl⟩
     exact⟨_,rfl,_,_,rfl,rfl,⟨by decide,by decide⟩,_,rfl,rfl⟩
    ·rintro j l ⟨m,rfl,rfl⟩
     rw[Int.toNat_natCast]
     exact⟨_,rfl,_,_,rfl,rfl,(by show(0:Int)<_;decide),q⟩
   ·have a:¬(c % 4=0/\4*10 ^ 60<=c):=fun z=>d (decide_eq_true z.2)
    refine⟨_,rfl,_,_,rfl,rfl,_,_,rfl,rfl,.inr ⟨by decide,by decide⟩,_,_,rfl,rfl,(by show(0:Int)<_;decide),?_⟩
    refine⟨_,rfl,_,rfl,_,_,rfl,rfl,_,_,rfl,rfl,.inr ⟨by decide,by decide⟩,_,_,rfl,rfl,_,_,rfl,rfl,(by show(0:Int)<_;decide),?_⟩
    refine⟨_,rfl,_,rfl,_,_,rfl,rfl,.inl (lo _),_,_,rfl,rfl,(by show(0:Int)<_;decide),?_⟩
    refine⟨_,rfl,_,_,rfl,rfl,_,rfl,_,_,rfl,rfl,⟨by decide,by decide⟩,_,_,rfl,rfl,_,_,rfl,rfl,.inl (lo1 _),_,_,rfl,rfl,(by show(0:Int)<_;decide),?_⟩
    exact⟨_,rfl,_,_,rfl,rfl,⟨by decide,by decide⟩,o a⟩
  ·refine BK ?_
   have a:¬(c % 4=0/\4*10 ^ 60<=c):=fun z=>b (decide_eq_true (congrArg V.int z.1))
   refine⟨_,rfl,_,_,rfl,rfl,_,_,rfl,rfl,.inr ⟨by decide,by decide⟩,_,_,rfl,rfl,(by show(0:Int)<_;decide),?_⟩
   refine⟨_,rfl,_,rfl,_,_,rfl,rfl,_,_,rfl,rfl,.inr ⟨by decide,by decide⟩,_,_,rfl,rfl,_,_,rfl,rfl,(by show(0:Int)<_;decide),?_⟩
   refine⟨_,rfl,_,rfl,_,_,rfl,rfl,.inl (lo _),_,_,rfl,rfl,(by show(0:Int)<_;decide),?_⟩
   refine⟨_,rfl,_,_,rfl,rfl,_,rfl,_,_,rfl,rfl,⟨by decide,by decide⟩,_,_,rfl,rfl,_,_,rfl,rfl,.inl (lo1 _),_,_,rfl,rfl,(by show(0:Int)<_;decide),?_⟩
   exact⟨_,rfl,_,_,rfl,rfl,⟨by decide,by decide⟩,o a⟩
theorem Zb {f:Addr} {a:FuncData} (F:DN K "_law_mix" "_law_mix" RH f a) (T:Txt mg):BH P w K mg base Cs 1 f a ["_law_cell_here","_law_k"] EE:=(eE F T).imp fun _ _ _ _ h=>Vt h
theorem TF:Al ["_law_cell_here","_law_letters","_law_word","_law_k","_law_at","_law_first"] ["_law_cell_here"] (AI IS):={}
theorem Xa {f:Addr} {fd:FuncData} (F:DN K "_law_names" "_law_names" IS f fd) (T:Txt mg) (U:Df P w K mg base "_law_mix" ["_law_cell_here","_law_k"] 1 EE):BH P w K mg base Cs 2 f fd ["_law_cell_here"] Pd:=by
 obtain⟨Py,Pz,k,l,o,p⟩:=U.ex
 refine F.ok TF (fun G H Q E h=>?_) (fun Gm A outer s H G Q E hr h=>?_)
 ·obtain⟨c,rfl,q⟩:=h
  rfl
 ·obtain⟨c,rfl,q⟩:=h
  have nd:=TF.nd
  have hu:=BQ hr
  have d:Ao 1 _:=hr.mm
  refine⟨_,(AD (En (i:=1) nd rfl (Or.inr rfl) AR)
   (AD (En (i:=2) nd rfl (Or.inr rfl) AR)
   (AD (CM PassesOwn.never rfl (BJ rfl T.range (AA AG AB)) (C_ 3 nd) (AH (En (i:=2) nd rfl (Or.inr rfl) (AN Eo (AN Eo (pv 2) (Az QO (pv 1) (AN Aq (AK p d rfl o k l .nil AX (AA (pv 0) (AA (pv 3) AB))) AG) (fun _ _=>rfl))) (Az QO (pv 1) (AN Aq (AN Bh (AK p d rfl o k l .nil AX (AA (pv 0) (AA (pv 3) AB))) AG) AG) (fun _ _=>rfl))))))
   (AD (En (i:=4) nd rfl (Or.inr rfl) (AN Aq (AK p d rfl o k l .nil AX (AA (pv 0) (AA AG AB))) AG))
   (AD (En (i:=5) nd rfl (Or.inr rfl) (AK p d rfl o k l .nil AX (AA (pv 0) (AA AG AB))))
   (AD (Ap (AO BD (AN Aq (pv 5) AG) AG (AS _)) (AH (AQ (Ba (fv:=["_law_word","_law_first"]) (fs:=[2,5]) rfl (.of (by rfl)) (BJ rfl T.range (AA AG AB)) (fun _ _ _ _=>BV) (fun C s0 H0 fp=>(DR Me (pv 1) Ep (Dh (AN By (AN By (pv 0) AG) (AN Aq (AN Bh (pv 2) AG) AG)))))))) AV)
   (AH (AQ (Ba (fv:=["_law_word","_law_letters","_law_at","_law_first"]) (fs:=[2,1,4,5]) rfl (.of (by rfl)) (BJ rfl T.range (AA AG AB)) (fun _ _ _ _=>BV) (fun C s0 H0 fp=>(AN Eo (AN Eo (DR Me (pv 1) Ep (Dh (pv 3))) (Az QO (pv 2) (AN Aq (AN By (AN Bh (pv 4) AG) (pv 0)) AG) (fun _ _=>rfl))) (DR Me (pv 1) (Dh (AN By (pv 3) AG)) Ep)))))))))))),?_⟩
  have gen:∀(G:List V),(∀(j:Nat) v,G[j]?=some v->∃y:Str,v=.str y)->∃ys:List Str,G=ys.map V.str:=by
   intro G
   induction G with
   |nil=>exact fun _=>⟨[],rfl⟩
   |cons v r ih=>
    intro h
    obtain⟨y,rfl⟩:=h 0 v rfl
    obtain⟨ys,rfl⟩:=ih fun j v a=>h (j+1) v (by simpa using a)
    exact⟨y::ys,rfl⟩
  refine⟨4,rfl,by decide,by decide,Ci (lo:=0) (n:=4) (fun i σ u=>∃(W:Str) (ok:Option V),σ=[some (.int c),some (.str af),some (.str W),ok,none,none]/\u=H/\(sgn W).length=2*i/\(sgn W).all aY=true) ⟨"",none,rfl,rfl,rfl,rfl⟩ ?_ ?_⟩
  ·rintro i σ u J ⟨W,ok,rfl,rfl,wl,X⟩
   have N:W.length=2*i:=by rw[<-Jh];exact wl
   refine⟨_,rfl,_,rfl,_,rfl,_,rfl,c,i,by simp,by lia,fun D _ _=>?_⟩
   obtain⟨t,x,hl⟩:=Qc (D % 26) (Gr _).1 (Gr _).2
   have l1:(W++(⟨#[t]⟩:Str)).length<=8:=by rw[Str.length_append];show _+1<=8;lia
   refine⟨_,_,rfl,rfl,(by show(0:Int)<_;decide),af,_,t,rfl,rfl,by rw[Mg];decide,x,_,_,rfl,rfl,Nat.le_of_lt (BG (by show W.length+1<=1000;lia)),_,rfl,_,rfl,_,rfl,c,i,by simp,by lia,fun O _ _=>?_⟩
   obtain⟨Y,Z,jf⟩:=Qc (O/26 % 26) (Gr _).1 (Gr _).2
   refine⟨_,_,rfl,rfl,⟨by decide,by decide⟩,_,_,rfl,rfl,(by show(0:Int)<_;decide),af,_,Y,rfl,rfl,by rw[Mg];decide,Z,_,_,rfl,rfl,Nat.le_of_lt (BG (by show(W++(⟨#[t]⟩:Str)).length+1<=1000;lia)),_,_,rfl,rfl,?_,?_⟩
   ·rw[Bz,Bz,List.length_append,List.length_append,wl]
    show 2*i+1+1=2*(i+1)
    lia
   ·rw[Bz,Bz]
    show(sgn W++[t]++[Y]).all aY=true
    simp[hl,jf,X]
  ·rintro σ u ⟨W,ok,rfl,rfl,I,X⟩
   have I:(sgn W).length=8:=I
   have N:W.length=8:=by rw[<-Jh];exact I
   refine⟨_,rfl,c,4,rfl,by decide,fun D _ _=>⟨_,_,rfl,rfl,(by show(0:Int)<_;decide),?_⟩⟩
   have b1:=Cw D (n:=8) (by decide)
   obtain⟨CI,L⟩:∃z:Nat,D % 8=(z:Int):=⟨(D % 8).toNat,by lia⟩
   have b2:CI<8:=by lia
   refine⟨_,rfl,c,5,rfl,by decide,fun O r20 _=>?_⟩
   refine⟨_,rfl,_,_,rfl,rfl,(by show(0:Int)<_;decide),rfl,_,rfl,?_⟩
   refine Vc (fun _=>?_) (fun _=>?_)
   ·have m5:=Cw (O/3) (n:=5) (by decide)
    obtain⟨b,B⟩:∃z:Int,z=O/3 % 5:=⟨_,rfl⟩
    rw[<-B]at m5
    refine⟨4,rfl,by decide,by decide,Dw (n:=4) (fun i=>.int (0+(i:Int))) (fun i v=>∃y:Str,v=.str y/\Cb y=true/\((sgn y).length:Int)=(i:Int)+1+b/\∃n,sgn y=(sgn W).take n) (by decide) (fun i H2 J s2=>J) (fun i H2 v H' J s2 y=>⟨y.2,y.1⟩) (fun H2 s2=>Nat.le_refl _) (fun i u R J s3 r=>?_) (fun D3 u G M s3 d3 lv ov=>?_)⟩
    ·refine⟨_,rfl,_,rfl,_,_,rfl,rfl,_,rfl,_,_,rfl,rfl,⟨by decide,by decide⟩,_,_,rfl,rfl,(by show(0:Int)<_;decide),_,_,rfl,rfl,_,rfl,W,rfl,by rw[N];decide,r _ u (AE.refl u) ⟨_,rfl,?_,?_,?_⟩⟩
     ·rw[<-B]
      obtain⟨n,hn⟩:∃n:Nat,0+(i:Int)+1+b=(n:Int):=⟨(0+(i:Int)+1+b).toNat,by lia⟩
      show ON (sgn (Txt.slice W none (some (0+(i:Int)+1+b))))=true
      rw[hn,Ck,Hs]
      refine OQ ?_ ?_ (OP X n)
      ·rw[List.length_take,I];lia
      ·rw[List.length_take,I];lia
     ·rw[<-B]
      obtain⟨n,hn⟩:∃n:Nat,0+(i:Int)+1+b=(n:Int):=⟨(0+(i:Int)+1+b).toNat,by lia⟩
      rw[hn,Ck,Hs,List.length_take,I]
      lia
     ·rw[<-B]
      obtain⟨n,hn⟩:∃n:Nat,0+(i:Int)+1+b=(n:Int):=⟨(0+(i:Int)+1+b).toNat,by lia⟩
      rw[hn,Ck,Hs]
      exact⟨n,rfl⟩
    ·obtain⟨S,rfl⟩:=gen G fun j v a=>let⟨y,e,_⟩:=ov j v a;⟨y,e⟩
     have g:∀(j:Nat) y,S[j]?=some y->Cb y=true/\((sgn y).length:Int)=(j:Int)+1+b/\∃n,sgn y=(sgn W).take n:=fun j y a=>by
      obtain⟨y',e,h1,h2⟩:=ov j (.str y) (by rw[List.getElem?_map,a];rfl)
      cases e
      exact⟨h1,h2⟩
     refine q D3 S u s3 M ⟨d3,by rw[<-lv,List.length_map],OS (fun j y=>((sgn y).length:Int)=(j:Int)+1+b) (fun j y a=>(g j y a).2.1) fun i j y hij _ p1 p2=>by lia,fun y hy=>?_⟩ (fun ha hz=>?_)
     ·obtain⟨j,a,rfl⟩:=List.mem_iff_getElem.mp hy
      exact(g j _ (AGS a)).1
     ·obtain⟨j,a⟩:=List.getElem?_of_mem ha
      obtain⟨j2,gR⟩:=List.getElem?_of_mem hz
      obtain⟨_,_,n,e⟩:=g j _ a
      obtain⟨_,_,n2,e2⟩:=g j2 _ gR
      exact jK e e2
   ·obtain⟨AC_,AC'⟩:∃z:Int,z=D % 8:=⟨_,rfl⟩
    obtain⟨b,B⟩:∃z:Int,z=O/3:=⟨_,rfl⟩
    refine⟨4,rfl,by decide,by decide,Dw (n:=4) (fun i=>.int (0+(i:Int))) (fun i v=>∃y:Str,v=.str y/\Cb y=true/\(sgn y)[CI]?=Vi[((b+(i:Int)) % 26).toNat]?/\(sgn y).length=8) (by decide) (fun i H2 J s2=>J) (fun i H2 v H' J s2 y=>⟨y.2,y.1⟩) (fun H2 s2=>Nat.le_refl _) (fun i u R J s3 r=>?_) (fun D3 u G M s3 d3 lv ov=>?_)⟩
    ·obtain⟨t,x,hl⟩:=Qc ((O/3+(0+(i:Int))) % 26) (Gr _).1 (Gr _).2
     have l1:(Txt.slice W none (some (D % 8))).length<=8:=by rw[<-N];exact Txt.slice_le W _ _
     have l2:(Txt.slice W (some (D % 8+1)) none).length<=8:=by rw[<-N];exact Txt.slice_le W _ _
     have l3:(Txt.slice W none (some (D % 8))++(⟨#[t]⟩:Str)).length<=9:=by rw[Str.length_append];show _+1<=9;lia
     refine⟨_,rfl,_,rfl,_,rfl,W,rfl,by rw[N];decide,_,rfl,_,rfl,_,_,rfl,rfl,⟨by decide,by decide⟩,_,rfl,_,_,rfl,rfl,_,_,rfl,rfl,(by show(0:Int)<_;decide),af,_,t,rfl,rfl,by rw[Mg];decide,x,_,_,rfl,rfl,?_,_,rfl,_,rfl,_,_,rfl,rfl,_,rfl,W,rfl,by rw[N];decide,_,_,rfl,rfl,?_,r _ u (AE.refl u) ⟨_,rfl,?_,?_,?_⟩⟩
     ·exact Nat.le_of_lt (BG (by show(Txt.slice W none (some (D % 8))).length+1<=1000;lia))
     ·exact Nat.le_of_lt (BG (by lia))
     ·show ON (sgn (Txt.slice W none (some (D % 8))++⟨#[t]⟩++Txt.slice W (some (D % 8+1)) none))=true
      have e1:(CI:Int)+1=((CI+1:Nat):Int):=by lia
      rw[Bz,Bz,Ck,Ck,L,e1,Hs,OO]
      have ec:sgn ⟨#[t]⟩=[t]:=rfl
      rw[ec]
      refine OQ ?_ ?_ ?_
      ·simp only[List.length_append,List.length_take,List.length_drop,I,List.length_singleton];lia
      ·simp only[List.length_append,List.length_take,List.length_drop,I,List.length_singleton];lia
      ·rw[List.all_append,List.all_append,OP X,Vj X]
       simp[hl]
     ·rw[Bz,Bz,Ck,L,Hs]
      have ec:sgn ⟨#[t]⟩=[t]:=rfl
      rw[ec]
      have lt:((sgn W).take CI).length=CI:=by rw[List.length_take,I];lia
      rw[List.getElem?_append_left (by rw[List.length_append,lt,List.length_singleton];lia),List.getElem?_append_right (by rw[lt];exact Nat.le_refl _),lt,Nat.sub_self]
      rw[<-B]at x
      have hb:=Gr (b+(0+(i:Int)))
      obtain⟨m,hm⟩:∃m:Nat,(b+(0+(i:Int))) % 26=(m:Int):=⟨((b+(0+(i:Int))) % 26).toNat,by lia⟩
      have hz:(b+(i:Int)) % 26=(m:Int):=by rw[<-hm,Int.zero_add]
      rw[hz,Int.toNat_natCast]
      rw[hm]at x
      obtain⟨j',g1,g2,g3,_⟩:=JC x
      have:j'=m:=by
       have AC0:m<(sgn af).length:=by show m<Vi.length;rw[Mh];lia
       have q1:QN (sgn af).length (m:Int)=some m:=by
        unfold QN
        rw[if_pos (by lia),if_pos (by lia),Int.toNat_natCast]
       have:=(Gg q1).1
       rw[this]at g1
       exact(AGU g1).symm
      rw[this]at g2
      exact g2.symm
     ·have e1:(CI:Int)+1=((CI+1:Nat):Int):=by lia
      rw[Bz,Bz,Ck,Ck,L,e1,Hs,OO]
      have ec:sgn ⟨#[t]⟩=[t]:=rfl
      rw[ec]
      simp only[List.length_append,List.length_take,List.length_drop,I,List.length_singleton]
      lia
    ·obtain⟨S,rfl⟩:=gen G fun j v a=>let⟨y,e,_⟩:=ov j v a;⟨y,e⟩
     have g:∀(j:Nat) y,S[j]?=some y->Cb y=true/\(sgn y)[CI]?=Vi[((b+(j:Int)) % 26).toNat]?/\(sgn y).length=8:=fun j y a=>by
      obtain⟨y',e,h1,h2⟩:=ov j (.str y) (by rw[List.getElem?_map,a];rfl)
      cases e
      exact⟨h1,h2⟩
     have l4:S.length=4:=by rw[<-lv,List.length_map]
     refine q D3 S u s3 M ⟨d3,l4,OS (fun j y=>(sgn y)[CI]?=Vi[((b+(j:Int)) % 26).toNat]?) (fun j y a=>(g j y a).2.1) fun i j y hij a p1 p2=>?_,fun y hy=>?_⟩ (fun ha _=>?_)
     ·rw[p1]at p2
      have nl:Vi.Nodup:=by decide+kernel
      have hb:=(Gr (b+(i:Int)))
      have hb2:=(Gr (b+(j:Int)))
      have h1:((b+(i:Int)) % 26).toNat<Vi.length:=by rw[Mh];lia
      have:=(List.getElem?_inj h1 nl).mp p2
      lia
     ·obtain⟨j,a,rfl⟩:=List.mem_iff_getElem.mp hy
      exact(g j _ (AGS a)).1
     ·obtain⟨j,a⟩:=List.getElem?_of_mem ha
      have:=(g j _ a).2.2
      rw[show(sgn "a").length=1 from rfl]at this
      cases this
theorem bR:Al ["_law_cell_here","_law_k","_law_names_here","_law_number","_law_small","_law_some"] ["_law_cell_here","_law_k","_law_names_here"] (AI Um):={}
theorem eF {f:Addr} {fd:FuncData} (F:DN K "_law_doc" "_law_doc" Um f fd) (T:Txt mg) (U:Df P w K mg base "_law_mix" ["_law_cell_here","_law_k"] 1 EE):BH P w K mg base Cs 2 f fd ["_law_cell_here","_law_k","_law_names_here"] KA:=by
 obtain⟨Py,Pz,X,Y,Z,Kt⟩:=U.ex
 refine F.ok bR (fun vs H Q E h=>?_) (fun Gm A outer s H vs Q E hr h=>?_)
 ·obtain⟨c,k,n,ys,rfl,hk,l,q⟩:=h
  rfl
 ·obtain⟨c,k,n,ys,rfl,hk,l,q⟩:=h
  have nd:=bR.nd
  have hu:=BQ hr
  have D:Ao 1 _:=hr.mm
  refine⟨_,(AD (Ai 3 nd (AK Kt D rfl Z X Y .nil AX (AA (pv 0) (AA (pv 1) AB))))
   (AD (Ai 4 nd (AN Aq (AN Bh (pv 3) AG) AG))
   (AD (Ai 5 nd (A_ (AA (AN GH (pv 4) AG) (AA (DR Me AR (Dh (pv 4)) Ep) (AA (A_ AB) (AA Dv (AA (AN By (AN QL AG AG) (pv 3)) (AA (A_ (AA (pv 4) AB)) (AA (A_ (AA (A_ AB) (AA AR AB))) (AA (JG (FP (Az (r:=Bp K) Ae (pv 2) (AN Aq (pv 4) AG) (fun _ _=>rfl)) AG JF) rfl rfl (by simp) (by simp)) AB))))))))))
   (AD (Ai 5 nd (AN FO (pv 5) (A_ (AA (JG (FP (Az (r:=Bp K) Ae (pv 2) AG (fun _ _=>rfl)) (A_ AB) (FP (Az (r:=Bp K) Ae (pv 2) AG (fun _ _=>rfl)) AR JF)) rfl rfl (by simp) (by simp)) (AA (pv 4) (AA AR (AA (A_ (AA (pv 4) (AA Dv AB))) AB)))))))
   (AH (AQ (Az (r:=Bp K) Ae (pv 5) (AN Aq (pv 3) AG) (fun _ _=>rfl)))))))),?_⟩
  have get:∀j:Nat,j<4->∃y,Ja (ys.map V.str) (j:Int)=some (.str y)/\ys[j]?=some y/\Cb y=true:=fun j hj=>⟨ys[j]'(by rw[l.len];exact hj),BA (by rw[List.getElem?_map,AGS (by rw[l.len];exact hj)];rfl),AGS (by rw[l.len];exact hj),l.nb _ (List.getElem_mem _)⟩
  obtain⟨d,a0,g0,b0⟩:=get 0 (by decide)
  obtain⟨g,a1,g1,b1⟩:=get 1 (by decide)
  have n12:g≠d:=fun z=>by
   rw[z,<-g0]at g1
   have:=(List.getElem?_inj (by rw[l.len];decide) l.nd).mp g1
   lia
  refine⟨_,rfl,_,rfl,c,k,rfl,hk,fun r _ _=>?_⟩
  refine⟨_,rfl,_,_,rfl,rfl,⟨by decide,by decide⟩,_,_,rfl,rfl,(by show(0:Int)<_;decide),?_⟩
  have m5:=Cw (r/12) (n:=5) (by decide)
  obtain⟨e,he⟩:∃e:Nat,r/12 % 5=(e:Int):=⟨(r/12 % 5).toNat,by lia⟩
  have e5:e<5:=by lia
  rw[he]
  obtain⟨x,hx⟩:∃x,x=Txt.slice "abcde" (some (e:Int)) none:=⟨_,rfl⟩
  have lx:x.length<=100:=by
   have:=Txt.slice_le "abcde" (some (e:Int)) none
   rw[<-hx]at this
   exact Nat.le_trans this (by decide)
  obtain⟨C,az,gz,bz⟩:∃y,Ja (ys.map V.str) ((e:Int) % 4)=some (.str y)/\True/\Cb y=true:=by
   obtain⟨y,h1,_,h2⟩:=get (e % 4) (Nat.mod_lt _ (by decide))
   exact⟨y,by rw[<-h1];rfl,trivial,h2⟩
  refine⟨_,rfl,_,_,rfl,rfl,_,rfl,_,rfl,"abcde",rfl,by decide,?_⟩
  rw[<-hx]
  refine⟨Nat.zero_le _,fun p1 hp1=>?_⟩
  obtain⟨H2,a,t1,f1⟩:=BZ (o:=.lst []) hp1
  rw[a];clear a
  refine fun p2 Po=>?_
  obtain⟨H3,a,t2,f2⟩:=BZ (o:=.dK []) Po
  rw[a];clear a
  have t12:=t1.trans t2
  refine⟨_,_,rfl,rfl,⟨by decide,by decide,by decide⟩,_,rfl,_,_,rfl,rfl,?_⟩
  obtain⟨gr,hgr⟩:∃gr:Int,gr=(10:Int) ^ (30:Int).toNat+r:=⟨_,rfl⟩
  rw[<-hgr]
  refine⟨_,rfl,Ax,fun p3 gS=>?_⟩
  obtain⟨H4,a,t3,f3⟩:=BZ (o:=.lst [.int (e:Int)]) gS
  rw[a];clear a
  have t13:=t12.trans t3
  refine⟨Nat.zero_le _,fun p4 mU=>?_⟩
  obtain⟨H5,a,t4,f4⟩:=BZ (o:=.lst []) mU
  rw[a];clear a
  have t14:=t13.trans t4
  refine⟨Ad,fun p5 hp5=>?_⟩
  obtain⟨H6,a,t5,f5⟩:=BZ (o:=.lst [.ref p4,.str "b"]) hp5
  rw[a];clear a
  have G:=t14.trans t5
  refine fun m I=>?_
  have t6:=AE.new (o:=.dK []) I
  refine⟨_,rfl,_,rfl,_,_,rfl,rfl,(by show(0:Int)<_;decide),n,_,_,_,rfl,rfl,An.of ((G.trans t6) _ _ l.at_),az,AF,[(Sum.inr C,.int 1)],rfl,by simp,?_⟩
  have m6:CN [] [((Sum.inr C:Key),V.int 1)]=[(Sum.inr C,.int 1)]:=rfl
  rw[m6]
  have J:AE H6 (upd (upd H6 m (.dK [])) m (.dK [(Sum.inr C,.int 1)])):=t6.put I
  have f6:upd (upd H6 m (.dK [])) m (.dK [(Sum.inr C,.int 1)]) m=some (.dK [(Sum.inr C,.int 1)]):=AF
  generalize upd (upd H6 m (.dK [])) m (.dK [(Sum.inr C,.int 1)])=H7 at J f6⊢
  have t16:=G.trans J
  refine⟨Ah (show 8<=1000 by decide),fun L hL=>?_⟩
  obtain⟨H8,a,tL,fL⟩:=BZ (o:=.lst [.int ((e:Int)-2),.str x,.ref p1,.ref p2,.int gr,.ref p3,.ref p5,.ref m]) hL
  rw[a];clear a
  have i:=t16.trans tL
  refine⟨_,rfl,fun u O=>?_⟩
  obtain⟨HA,a,t9,f9⟩:=BZ (o:=.dK []) O
  rw[a];clear a
  refine⟨_,rfl,n,_,_,_,rfl,rfl,An.of ((i.trans t9) _ _ l.at_),a1,Nat.zero_le _,fun b R=>?_⟩
  have tA:=AE.new (o:=.lst []) R
  have fA:upd HA b (.lst []) b=some (.lst []):=AF
  refine⟨_,rfl,n,_,_,_,rfl,rfl,An.of (((i.trans t9).trans tA) _ _ l.at_),a0,tA _ _ f9,[(Sum.inr g,.ref b),(Sum.inr d,.str "a")],rfl,by simp,?_⟩
  have m9:CN [] [((Sum.inr g:Key),V.ref b),(Sum.inr d,.str "a")]=[(Sum.inr g,.ref b),(Sum.inr d,.str "a")]:=Et _ _ (by
   have:(Sum.inr g:Key)≠Sum.inr d:=fun z=>n12 (Sum.inr.inj z)
   simpa using this)
  rw[m9]
  have n9A:b≠u:=Ne.symm (Au f9 R)
  have B:AE H8 (upd (upd HA b (.lst [])) u (.dK [(Sum.inr g,.ref b),(Sum.inr d,.str "a")])):=(t9.trans tA).put O
  have f9':upd (upd HA b (.lst [])) u (.dK [(Sum.inr g,.ref b),(Sum.inr d,.str "a")]) u=some (.dK [(Sum.inr g,.ref b),(Sum.inr d,.str "a")]):=AF
  have fA':upd (upd HA b (.lst [])) u (.dK [(Sum.inr g,.ref b),(Sum.inr d,.str "a")]) b=some (.lst []):=by rw[AJ n9A];exact fA
  have nA0:H b=none:=i.free (t9.free R)
  generalize upd (upd HA b (.lst [])) u (.dK [(Sum.inr g,.ref b),(Sum.inr d,.str "a")])=HB at B f9' fA'⊢
  have t19:=i.trans B
  refine⟨_,rfl,_,rfl,fun pB hpB=>?_⟩
  obtain⟨HC,a,tB,fB⟩:=BZ (o:=.dK []) hpB
  rw[a];clear a
  have t1B:=t19.trans tB
  refine⟨Ad,fun pC hpC=>?_⟩
  obtain⟨HD,a,tC,fC⟩:=BZ (o:=.lst [.int (e:Int),.ref pB]) hpC
  rw[a];clear a
  have t1C:=t1B.trans tC
  refine⟨Ah (show 4<=1000 by decide),fun M hM=>?_⟩
  obtain⟨HE,a,tM,fM⟩:=BZ (o:=.lst [.ref u,.int (e:Int),.str "",.ref pC]) hM
  rw[a];clear a
  have t1M:=t1C.trans tM
  refine⟨L,M,_,_,rfl,rfl,(((B.trans tB).trans tC).trans tM) _ _ fL,fM,Ah (show 12<=1000 by decide),fun N hN=>?_⟩
  obtain⟨HF,a,tN,fN⟩:=BZ (o:=.lst ([.int ((e:Int)-2),.str x,.ref p1,.ref p2,.int gr,.ref p3,.ref p5,.ref m]++[.ref u,.int (e:Int),.str "",.ref pC])) hN
  rw[a];clear a
  have mb:=Cw r (n:=12) (by decide)
  obtain⟨v,hv,mv⟩:=Cd (xs:=([V.int ((e:Int)-2),.str x,.ref p1,.ref p2,.int gr,.ref p3,.ref p5,.ref m]++[V.ref u,.int (e:Int),.str "",.ref pC]:List V)) mb.1 (by exact mb.2)
  refine⟨_,rfl,_,rfl,_,_,rfl,rfl,(by show(0:Int)<_;decide),N,_,_,_,rfl,rfl,An.of fN,hv,?_⟩
  have z:=t1M.trans tN
  have sC:=tM.trans tN
  have sB:=tC.trans sC
  have s9:=tB.trans sB
  have sL:=B.trans s9
  have s6:=tL.trans sL
  have s5:=J.trans s6
  have s4:=t5.trans s5
  have s3:=t4.trans s4
  have s2:=t3.trans s3
  have s1:=t2.trans s2
  have new:∀{p:Addr} {o:HO},H p=none->HF p=some o->nw H HF p=some o:=fun h1 h2=>by rw[BB h1];exact h2
  have v1:=new hp1 (s1 _ _ f1)
  have v2:=new (t1.free Po) (s2 _ _ f2)
  have v3:=new (t12.free gS) (s3 _ _ f3)
  have v4:=new (t13.free mU) (s4 _ _ f4)
  have v5:=new (t14.free hp5) (s5 _ _ f5)
  have v6:=new (G.free I) (s6 _ _ f6)
  have v9:=new (i.free O) (s9 _ _ f9')
  have vA:=new nA0 (s9 _ _ fA')
  have vB:=new (t19.free hpB) (sB _ _ fB)
  have vC:=new (t1B.free hpC) (sC _ _ fC)
  have k:∀t:Pt,Small H HF v t->Q v HF:=fun t h=>q v t HF z h
  simp only[List.cons_append,List.nil_append,List.mem_cons,List.not_mem_nil,or_false]at mv
  have one:∀{P:Pt->Prop} {x:Pt},P x->∀y∈[x],P y:=fun h y hy=>by rw[List.mem_singleton.mp hy];exact h
  have S:∀{P:Pt->Prop} {x y:Pt},P x->P y->∀z∈[x,y],P z:=fun h1 h2 z hz=>by
   rcases List.mem_cons.mp hz with rfl|hz
   ·exact h1
   ·rw[List.mem_singleton.mp hz];exact h2
  rcases mv with rfl|rfl|rfl|rfl|rfl|rfl|rfl|rfl|rfl|rfl|rfl|rfl
  ·exact k _ ⟨.int _,.one (.int _),trivial,by simp[Pt.size],by simp[Pt.deep]⟩
  ·exact k _ ⟨.str _,.one (.str _),lx,by simp[Pt.size],by simp[Pt.deep]⟩
  ·exact k _ ⟨.lst (.inl v1) .nil,.one .nil,trivial,by simp[Pt.size,Pt.AL],by simp[Pt.deep,Pt.AW]⟩
  ·exact k _ ⟨.BX (ks:=[]) (.inl v2) rfl .nil,.one .emp,by simp[Pt.doc,Pt.ER],by simp[Pt.size,Pt.AL],by simp[Pt.deep,Pt.AW]⟩
  ·exact k _ ⟨.int _,.one (.int _),trivial,by simp[Pt.size],by simp[Pt.deep]⟩
  ·exact k _ ⟨.lst (.inl v3) (.cons (.int _) .nil),.row (one (.int _)),by simp[Pt.doc,Pt.ER],by simp[Pt.size,Pt.AL],by simp[Pt.deep,Pt.AW]⟩
  ·exact k _ ⟨.lst (.inl v5) (.cons (.lst (.inl v4) .nil) (.cons (.str _) .nil)),.row (S .nil (.str _)),by simp only[Pt.doc,Pt.ER,and_true,true_and];decide,by simp[Pt.size,Pt.AL],by simp[Pt.deep,Pt.AW]⟩
  ·exact k _ ⟨.BX (ks:=[C]) (.inl v6) rfl (.cons (.int _) .nil),.tab (one (.int _)),by simp[Pt.doc,Pt.ER,bz],by simp[Pt.size,Pt.AL],by simp[Pt.deep,Pt.AW]⟩
  ·exact k _ ⟨.BX (ks:=[g,d]) (.inl v9) rfl (.cons (.lst (.inl vA) .nil) (.cons (.str _) .nil)),.tab (S .nil (.str _)),by
    simp only[Pt.doc,Pt.ER,and_true,true_and]
    refine⟨rfl,by simpa using n12,?_,by simp,by decide⟩
    intro k hk
    simp only[List.mem_cons,List.not_mem_nil,or_false]at hk
    rcases hk with rfl|rfl
    ·exact b1
    ·exact b0,by simp[Pt.size,Pt.AL],by simp[Pt.deep,Pt.AW]⟩
  ·exact k _ ⟨.int _,.one (.int _),trivial,by simp[Pt.size],by simp[Pt.deep]⟩
  ·exact k _ ⟨.str _,.one (.str _),by simp only[Pt.doc];decide,by simp[Pt.size],by simp[Pt.deep]⟩
  ·exact k _ ⟨.lst (.inl vC) (.cons (.int _) (.cons (.BX (ks:=[]) (.inl vB) rfl .nil) .nil)),.row (S (.int _) .emp),by simp[Pt.doc,Pt.ER],by simp[Pt.size,Pt.AL],by simp[Pt.deep,Pt.AW]⟩
theorem Xb:Al ["_law_thing"] ["_law_thing"] (AI Kk):={}
theorem Zc {n:Nat} {f:Addr} {fd:FuncData} (F:DN K "_law_copy" "_law_copy" Kk f fd) (T:Txt mg) (Xc:Df P w K mg base "_law_copy" ["_law_thing"] n (JK n)):BH P w K mg base Cs (n+1) f fd ["_law_thing"] (JK (n+1)):=by
 obtain⟨jg,jh,B,G,I,J⟩:=Xc.ex
 refine F.ok Xb (fun vs H Q E h=>?_) (fun Gm A outer s H vs Q E hr h=>?_)
 ·obtain⟨v,t,rfl,hv,S,U,q⟩:=h
  rfl
 ·obtain⟨v,t,rfl,hv,S,U,q⟩:=h
  have nd:=Xb.nd
  have V:=BQ hr
  have m:Ao n _:=hr.mm
  refine⟨_,(AD (Ap (Bd (AY (Bu:Bq _ _ (EH K)) rfl T.isinstance Ar (AA (pv 0) (AA (Bv (v:=.ty "list") rfl T.list DW rfl) AB)))) (AH (AQ (Ba (fv:=[]) (fs:=[]) rfl (.of (by rfl)) (Bg (pv 0)) (fun _ _ _ _=>BV) (fun C s0 H0 fp=>(AK J m rfl I B G .nil AX (AA (pv 0) AB)))))) AV)
   (AD (Ap (Bd (AY (Bu:Bq _ _ (EH K)) rfl T.isinstance Ar (AA (pv 0) (AA (Bv (v:=.ty "tuple") rfl T.tuple Rr rfl) AB)))) (AH (AQ (BR LA rfl T.tuple Rr (AA (Ba (fv:=[]) (fs:=[]) rfl (.of (by rfl)) (VH (pv 0)) (fun _ _ _ _=>BV) (fun C s0 H0 fp=>(AK J m rfl I B G .nil AX (AA (pv 0) AB)))) AB)))) AV)
   (AD (Ap (Bd (AY (Bu:Bq _ _ (EH K)) rfl T.isinstance Ar (AA (pv 0) (AA (Bv (v:=.ty "dict") rfl T.dict Ce rfl) AB)))) (AH (AQ (BR (DX rfl) rfl T.dict Ce (AA (Ml (Ba (fv:=["_law_thing"]) (fs:=[0]) rfl (.of (by rfl)) (JH (pv 0)) (fun _ _ _ _=>BV) (fun C s0 H0 fp=>(Aa (AA (pv 0) (AA (AK J m rfl I B G .nil AX (AA (Bw V (pv 1) (pv 0) (fun _ _=>rfl)) AB)) AB)))))) AB)))) AV)
   (AH (AQ (pv 0)))))),?_⟩
  cases hv with
  |int i=>exact⟨_,rfl,_,"list","int",rfl,rfl,.n (.int i),_,rfl,BK ⟨_,rfl,_,"tuple","int",rfl,rfl,.n (.int i),_,rfl,BK ⟨_,rfl,_,"dict","int",rfl,rfl,.n (.int i),_,rfl,BK ⟨_,rfl,q _ H (AE.refl H) (.int i)⟩⟩⟩⟩
  |str i=>exact⟨_,rfl,_,"list","str",rfl,rfl,.n (.str i),_,rfl,BK ⟨_,rfl,_,"tuple","str",rfl,rfl,.n (.str i),_,rfl,BK ⟨_,rfl,_,"dict","str",rfl,rfl,.n (.str i),_,rfl,BK ⟨_,rfl,q _ H (AE.refl H) (.str i)⟩⟩⟩⟩
  |bl i=>exact⟨_,rfl,_,"list","bool",rfl,rfl,.n (.bl i),_,rfl,BK ⟨_,rfl,_,"tuple","bool",rfl,rfl,.n (.bl i),_,rfl,BK ⟨_,rfl,_,"dict","bool",rfl,rfl,.n (.bl i),_,rfl,BK ⟨_,rfl,q _ H (AE.refl H) (.bl i)⟩⟩⟩⟩
  |Av=>exact⟨_,rfl,_,"list","NoneType",rfl,rfl,.n .Av,_,rfl,BK ⟨_,rfl,_,"tuple","NoneType",rfl,rfl,.n .Av,_,rfl,BK ⟨_,rfl,_,"dict","NoneType",rfl,rfl,.n .Av,_,rfl,BK ⟨_,rfl,q _ H (AE.refl H) .Av⟩⟩⟩⟩
  |@lst a vs L h r=>
   refine⟨_,rfl,_,"list","list",rfl,rfl,.n (.lst h),_,rfl,Cr ?_⟩
   simp only[Pt.nice]at S
   simp only[Pt.deep]at U
   have lv:=r.length
   refine⟨_,rfl,a,rfl,⟨_,.inl h⟩,?_⟩
   refine Gx none L.length (fun i=>vs.getD i .Av) (fun i g d=>g=L.take i) (by lia) (fun D M=>rfl) (fun i g d D N s M c=>c) (fun l z=>nomatch z) (fun i g d O s c=>⟨_,_,.inl (h.up (s.same _)),AGS (by lia)⟩) (fun i g d v H' O s c y=>?_) (fun g d s c=>⟨_,.inl (h.up (s.same _)),by lia⟩) (fun i g d R O s c lu k=>?_) (fun D d N g M s d2 lu vl c=>?_)
   ·obtain⟨e,y⟩:=y
    refine⟨?_,e⟩
    have:=y _ (.inl (h.up (s.same _)))
    rw[List.getD_eq_getElem?_getD,this]
    rfl
   ·obtain⟨u,V⟩:∃u,L[i]?=some u:=⟨_,AGS O⟩
    obtain⟨x,hx,vx⟩:=r.get' V
    have Y:=AGV V
    have dx:=Pt.BI Y
    have ev:vs.getD i .Av=x:=by rw[List.getD_eq_getElem?_getD,hx];rfl
    rw[ev]
    refine⟨_,rfl,x,u,rfl,vx.up s.same,Pt.Fn S.2 u Y,by lia,fun w H3 s3 v3=>k w u H3 (.of s3) v3 ?_⟩
    rw[c,List.take_add_one,V]
    rfl
   ·rw[List.take_length]at c
    subst c
    exact q _ d s.same (.lst (.inl (by rw[BB M];exact d2)) vl)
  |@tup a vs L h r=>
   refine⟨_,rfl,_,"list","tuple",rfl,rfl,.t h,_,rfl,BK ⟨_,rfl,_,"tuple","tuple",rfl,rfl,.t h,_,rfl,Cr ?_⟩⟩
   simp only[Pt.nice]at S
   simp only[Pt.deep]at U
   have lv:=r.length
   refine⟨_,rfl,a,rfl,⟨_,h⟩,?_⟩
   refine Gx none L.length (fun i=>vs.getD i .Av) (fun i g d=>g=L.take i) (by lia) (fun D M=>rfl) (fun i g d D N s M c=>c) (fun l z=>nomatch z) (fun i g d O s c=>⟨_,_,h.up s.same,AGS (by lia)⟩) (fun i g d v H' O s c y=>?_) (fun g d s c=>⟨_,h.up s.same,by lia⟩) (fun i g d R O s c lu k=>?_) (fun D d N g M s d2 lu vl c=>?_)
   ·obtain⟨e,y⟩:=y
    refine⟨?_,e⟩
    have:=y _ (h.up s.same)
    rw[List.getD_eq_getElem?_getD,this]
    rfl
   ·obtain⟨u,V⟩:∃u,L[i]?=some u:=⟨_,AGS O⟩
    obtain⟨x,hx,vx⟩:=r.get' V
    have Y:=AGV V
    have dx:=Pt.BI Y
    have ev:vs.getD i .Av=x:=by rw[List.getD_eq_getElem?_getD,hx];rfl
    rw[ev]
    refine⟨_,rfl,x,u,rfl,vx.up s.same,Pt.Fn S.2 u Y,by lia,fun w H3 s3 v3=>k w u H3 (.of s3) v3 ?_⟩
    rw[c,List.take_add_one,V]
    rfl
   ·rw[List.take_length]at c
    subst c
    refine⟨D,N,rfl,.inl ⟨An.of d2,fun p Z=>?_⟩⟩
    have ZS:=s.same.free Z
    exact q _ _ (s.same.trans (AE.new Z)) (.tup (Bf.of (by rw[BB ZS,AF])) (vl.up (CD (fun b h=>h) fun b e h1 X=>by rw[AJ (fun z=>by rw[z,Z]at X;cases X)];exact X)))
  |@BX a kvs ks L h hk r=>
   refine⟨_,rfl,_,"list","dict",rfl,rfl,.n (.dK h),_,rfl,BK ⟨_,rfl,_,"tuple","dict",rfl,rfl,.n (.dK h),_,rfl,BK ⟨_,rfl,_,"dict","dict",rfl,rfl,.n (.dK h),_,rfl,Cr ?_⟩⟩⟩
   simp only[Pt.nice]at S
   simp only[Pt.deep]at U
   obtain⟨nl,bO,n9,S⟩:=S
   have kl:kvs.length=ks.length:=by have:=congrArg List.length hk;simpa using this
   refine⟨a,_,h,fun o Hf F=>⟨_,rfl,a,o,_,rfl,F.at_,?_⟩⟩
   refine UO none L.length (fun i=>.str (ks.getD i "")) ks (fun i g d=>g=L.take i) (by lia) (fun D M=>rfl) (fun i g d D N s M c=>c) (fun l z=>nomatch z) (fun i g d O s c=>⟨s.same _ _ F.at_,by lia⟩) (fun i g d v H' O s c y=>?_) (fun g d s c=>⟨s.same _ _ F.at_,by lia⟩) (fun i g d R O s c lu k=>?_) (fun D d qs N g M s d2 lq lu tt vl c=>?_)
   ·obtain⟨e,k,w',e1,e2⟩:=y
    rw[(WY hk e1).2]at e2
    exact⟨e2,e⟩
   ·obtain⟨x,u,g1,g2,g3⟩:=Qj hk r bO (i:=i) (by lia)
    have Y:=AGV g2
    have dx:=Pt.BI Y
    have qh:FI H d:=F.rd.trans s.same.r
    refine⟨_,rfl,_,rfl,_,rfl,a,x,rfl,.inl ⟨kvs,Sum.inr (ks.getD i ""),qh a _ h,rfl,g1.symm⟩,x,u,rfl,g3.Hy ((LI.Cg F).trans (.of s.same)),Pt.Fn S u Y,by lia,fun w H3 s3 v3=>⟨Ad,fun t ht=>k w u H3 t (.of s3) v3 ?_ ht⟩⟩
    rw[c,List.take_add_one,g2]
    rfl
   ·refine⟨s.same _ _ F.at_,?_⟩
    rw[List.take_length]at c
    subst c
    have sb:=F.back s.same
    have ba:∀b,b≠a->back a H d b=d b:=fun b hb=>Fl hb
    have Da:D≠a:=(F.free M).2
    have lw:=vl.length
    have el:ks.length=N.length:=by lia
    refine⟨D,qs,CO ks N,rfl,An.of (by rw[ba D Da];exact d2),by rw[EJ el];lia,fun j k v e=>?_,by rw[EJ el];lia,fun p Z=>?_⟩
    ·obtain⟨x,h1,X,h3⟩:=Mt e
     obtain⟨t,ht⟩:∃t,qs[j]?=some t:=⟨_,AGS (by have:=(AGT h1).1;lia)⟩
     obtain⟨g2,g3⟩:=tt j t v ht X
     refine⟨t,ht,?_⟩
     rw[ba t (F.free g3).2,g2,h3,List.getD_eq_getElem?_getD,h1]
     rfl
    ·rw[Fo el bO]
     have ji:H p=none:=sb.free Z
     have qP:Aj (nw H (upd (back a H d) p (.dK (CO ks N)))) N g:=vl.up (CD (fun b h=>(F.free h).1) fun b e h1 X=>by
      have hb:=(F.free h1).2
      have nb:b≠p:=fun z=>by rw[z]at X hb;rw[ba p hb,X]at Z;cases Z
      rw[AJ nb,ba b hb]
      exact X)
     exact q _ _ (sb.trans (AE.new Z)) (.BX (.inl (by rw[BB ji,AF])) (CP el) (by rw[Eh el];exact qP))
theorem P_ {f:Addr} {a:FuncData} (F:DN K "_law_copy" "_law_copy" Kk f a) (T:Txt mg) (b:Binds K a ["_law_thing"] []) (m:mg "_law_copy"=some (.ref f)):∀n:Nat,BH P w K mg base Cs n f a ["_law_thing"] (JK n)
 |0=>Jl (fun vs H Q E h=>by obtain⟨v,t,_,_,_,c,_⟩:=h;have:=Pt.FW t;omega)
 |n+1=>Zc F T (Df.mk' F b m (P_ F T b m n))
theorem Xd:Al ["_law_cells","_law_deep","_law_names_here","_law_cell_here","_law_kind","_law_more","_law_told_here","_law_lacking","_law_k","_law_way"] ["_law_cells","_law_deep","_law_names_here"] (AI Kl):={}
theorem Zd {n:Nat} {f:Addr} {fd:FuncData} (F:DN K "_law_asks" "_law_asks" Kl f fd) (T:Txt mg) (Ku:Df P w K mg base "_law_mix" ["_law_cell_here","_law_k"] 1 EE) (eG:Df P w K mg base "_law_doc" ["_law_cell_here","_law_k","_law_names_here"] 2 KA) (Xe:Df P w K mg base "_law_asks" ["_law_cells","_law_deep","_law_names_here"] n (Mu n)):BH P w K mg base Cs (n+1) f fd ["_law_cells","_law_deep","_law_names_here"] (Mu (n+1)):=by
 obtain⟨Py,Pz,O,S,U,X⟩:=Ku.ex
 obtain⟨fDoc,qi,eI,eJ,eK,eM⟩:=eG.ex
 obtain⟨jk,jl,TH,TJ,TL,TM⟩:=Xe.ex
 refine F.ok Xd (fun vs H Q E h=>?_) (fun Gm A outer s H vs Q E hr h=>?_)
 ·obtain⟨l,d,nm,M,ys,rfl,hd,hl,lc,nl,hn,q⟩:=h
  rfl
 ·obtain⟨l,d,nm,M,ys,rfl,hd,hl,lc,nl,hn,q⟩:=h
  have nd:=Xd.nd
  have hu:=BQ hr
  have L:Ao 1 _:=hr.mm
  have Xf:Ao 2 _:=hr.mm
  have Y:Ao n _:=hr.mm
  refine⟨_,(AD (Ap (AO (QZ (Ao.JY hr)) (pv 0) (A_ AB) (AS _)) (AH (AQ (Aa (AA AR AB)))) AV)
   (AD (Ai 3 nd (FQ (FF PySem.F.plainAttrs_list PySem.F.slot_list_pop PySem.F.type_list_pop Nz (pv 0) (AA AG AB)) (OE (pv 0) AG ⟨rfl,rfl,rfl,rfl⟩)))
   (AD (Ai 4 nd (AN Aq (AK X L rfl U O S .nil AX (AA (pv 3) (AA AG AB))) AG))
   (AD (Ai 5 nd (CH BD (AN Aq (AK X L rfl U O S .nil AX (AA (pv 3) (AA AG AB))) AG) AG (AS _)))
   (AD (Ap (PW.pt (pw_or (AO BD (pv 4) AG (AS _)) (pw_or1 (PW.pt (pw_and (AO BD (pv 1) AG (AS _)) (pw_and1 (AO LS (pv 4) AG (AS _)))))))) (AH (AQ (Aa (AA AR AB)))) AV)
   (AD (Ap (AO LR (pv 4) AG (AS _)) (AH (AQ (Aa (AA AR (AA (AK eM Xf rfl eK eI eJ .nil AX (AA (pv 3) (AA AG (AA (pv 2) AB)))) AB))))) AV)
   (AD (Ap (AO LR (pv 4) AG (AS _)) (AH (AQ (Aa (AA AR (AA (Ba (fv:=["_law_cells","_law_names_here","_law_deep"]) (fs:=[0,2,1]) rfl (.of (by rfl)) (BJ rfl T.range (AA (AN Aq (AK X L rfl U O S .nil AX (AA (pv 3) (AA AG AB))) AG) AB)) (fun _ _ _ _=>BV) (fun C s0 H0 fp=>(AK TM Y rfl TL TH TJ .nil AX (AA (pv 1) (AA (AN GH (pv 3) AG) (AA (pv 2) AB)))))) (AA (pv 5) AB)))))) AV)
   (AD (Ai 6 nd Dv)
   (AD (Ai 7 nd (A_ AB))
   (AD (CM PassesOwn.never rfl (BJ rfl T.range (AA AG AB)) (C_ 8 nd) (AD (Ai 9 nd (AN Aq (AN Bh (AK X L rfl U O S .nil AX (AA (pv 3) (AA AG AB))) (Az (r:=Bp K) Ae (A_ (AA AG (AA AG (AA AG (AA AG AB))))) (pv 8) (fun _ _=>rfl))) AG))
   (AD (Ap (AO LS (pv 9) AG (AS _)) (AH (Gk hu (pv 6) (Az (r:=Bp K) Ae (pv 2) (pv 8) (fun _ _=>rfl)) (AK TM Y rfl TL TH TJ .nil AX (AA (pv 0) (AA (AN GH (pv 1) AG) (AA (pv 2) AB)))) rfl)) AV)
   (AH (Ap (AO BD (pv 9) AG (AS _)) (AH (DL (FF PySem.F.plainAttrs_list PySem.F.slot_list_append PySem.F.type_list_append Fh (pv 7) (AA (Az (r:=Bp K) Ae (pv 2) (pv 8) (fun _ _=>rfl)) AB)))) AV)))))
   (AH (AQ (Aa (AA AR (AA (pv 6) (AA (AY (Mx rfl:Bq _ _ (Ql K)) rfl T.sorted Ed (AA (pv 7) AB)) (AA (pv 5) AB))))))))))))))))),?_⟩
  have hl0:H l≠none:=by rw[hl];exact fun z=>nomatch z
  refine⟨_,rfl,Nat.zero_le _,fun pe Uv=>⟨l,pe,_,rfl,rfl,An.of ((AE.new Uv) _ _ hl),An.of AF,_,rfl,?_⟩⟩
  have se:=AE.new (o:=.lst []) Uv
  generalize upd H pe (.lst [])=H1 at se⊢
  have Xz:=se _ _ hl
  cases M with
  |nil=>
   refine Cr ⟨Ax,fun p B=>?_⟩
   have ZS:=se.free B
   have lp:l≠p:=fun z=>by rw[<-z,Xz]at B;cases B
   exact q _ .any [] _ (.of (se.trans (AE.new B))) (by rw[AJ lp];exact Xz) (Nat.le_refl _) (.tup (Bf.of (by rw[BB ZS,AF])) (.cons (.str _) .nil)) trivial (by simp[Ak.size]) (by simp[Ak.deep]) trivial
  |cons c M=>
   refine BK ?_
   refine .inl ⟨_,rfl,.inl ⟨rfl,_,An.of Xz⟩,l,_,0,0,.int c,rfl,rfl,Xz,by decide,by decide,(Gg (by unfold QN;rw[if_pos (by decide),if_pos (by simp)];rfl)).1,rfl,?_⟩
   have u:Bt (some l) H (upd H1 l (.lst (M.map V.int))):=(Bt.of se).put
   have J:upd H1 l (.lst (M.map V.int)) l=some (.lst (M.map V.int)):=AF
   show QF _ _ _ _ (upd H1 l (.lst (M.map V.int)))
   generalize upd H1 l (.lst (M.map V.int))=H2 at u J⊢
   have hn2:=hn.but u nl
   simp only[List.length_cons]at lc q
   have up2:∀{Z H4:Hp} {v:V} {t:Pt},Val (nw H2 Z) v t->(∀b o,Z b=some o->H4 b=some o)->Val (nw H H4) v t:=fun h s=>h.up (CD (fun b h=>u.GB b h) fun b e _ h=>s b e h)
   refine⟨_,rfl,c,0,rfl,by decide,fun r0 _ _=>⟨_,_,rfl,rfl,(by show(0:Int)<_;decide),?_⟩⟩
   have m8:=Cw r0 (n:=8) (by decide)
   generalize r0 % 8=kd at m8⊢
   refine⟨_,rfl,c,2,rfl,by decide,fun r2 _ _=>⟨_,_,rfl,rfl,(by show(0:Int)<_;decide),rfl,?_⟩⟩
   generalize decide (V.int (r2 % 2)=V.int 1)=mo
   dsimp only[BP]
   have jm:∀p,H2 p=none->Q (.ref p) (upd H2 p (.tup [.str "any"])):=fun p B=>by
    have lp:l≠p:=fun z=>by rw[<-z,J]at B;cases B
    exact q _ .any M _ (u.trans (.of (AE.new B))) (by rw[AJ lp];exact J) (by lia) (.tup (Bf.of (by rw[BB (u.GB p B),AF])) (.cons (.str _) .nil)) trivial (by simp[Ak.size]) (by simp[Ak.deep]) trivial
   refine Vw (t:=MN _ _ _) (fun H5=>H2=H5/\(d=0->kd<=2)) (fun H5 ⟨e5,hk⟩=>?_) (fun key=>?_)
   rotate_left
   ·refine⟨_,rfl,rfl,_,rfl,Bj (fun _=>Cr ⟨Ax,jm⟩) (fun _=>⟨_,rfl,rfl,_,rfl,Bj (fun h2=>?_) (fun h2=>?_)⟩)⟩
    ·refine⟨_,rfl,_,_,rfl,rfl,_,rfl,Bj (fun _=>⟨Ax,jm⟩) (fun h3=>key H2 ⟨rfl,fun _=>?_⟩)⟩
     have:=of_decide_eq_false h3
     lia
    ·refine BK (key H2 ⟨rfl,fun z=>?_⟩)
     have:=of_decide_eq_false h2
     subst z
     exact absurd rfl this
   subst e5
   refine⟨_,rfl,_,_,rfl,rfl,_,rfl,Bj (fun _=>?_) (fun h3=>?_)⟩
   ·refine⟨_,rfl,_,rfl,c,1,nm,ys,rfl,by decide,hn2,fun v t Z s3 sm=>⟨Ad,fun p B=>?_⟩⟩
    have Po:=s3.free B
    have lp:l≠p:=fun z=>by rw[<-z,J]at Po;cases Po
    refine q _ (.As t) M _ (u.trans (.of (s3.trans (AE.new B)))) (by rw[AJ lp];exact s3 _ _ J) (by lia) (.tup (Bf.of (by rw[BB (u.GB p Po),AF])) (.cons (.str _) (.cons (up2 sm.val (AE.new B)) .nil))) ?_ (by simp[Ak.size]) (by simp[Ak.deep]) trivial
    simp only[Ak.ok]
    exact⟨sm.sm,sm.doc,by have:=sm.size;lia⟩
   have h3:=of_decide_eq_false h3
   obtain⟨d',rfl⟩:∃d',d=d'+1:=⟨d-1,by lia⟩
   have ed:(((d'+1:Nat):Int)-1)=(d':Int):=by lia
   refine⟨_,rfl,_,_,rfl,rfl,_,rfl,Bj (fun _=>?_) (fun _=>?_)⟩
   ·refine⟨_,rfl,c,1,rfl,by decide,fun r1 _ _=>⟨_,_,rfl,rfl,(by show(0:Int)<_;decide),?_⟩⟩
    have m4:=Cw r1 (n:=4) (by decide)
    obtain⟨k4,qj⟩:∃k:Nat,r1 % 4=(k:Int):=⟨(r1 % 4).toNat,by lia⟩
    have qk:k4<4:=by lia
    rw[qj]
    refine⟨k4,rfl,by lia,by lia,?_⟩
    refine Gx (some l) k4 (fun i=>.int (0+(i:Int))) (fun i us Z=>∃(N:List Ak) (g:List Int),us=Ak.CY N/\Z l=some (.lst (g.map V.int))/\g.length<=M.length/\Ak.DD N/\Ak.AL N<=i+4*(M.length-g.length)/\Ak.AW N<=d'+1/\Ak.IA N)
     (by lia) (fun D hD=>⟨[],M,rfl,by rw[AJ (fun z=>by rw[<-z,J]at hD;cases hD)];exact J,Nat.le_refl _,trivial,by simp[Ak.AL],by simp[Ak.AW],trivial⟩) (fun i us Z D ws bt hD ⟨N,g,h1,h2,h3⟩=>⟨N,g,h1,by rw[AJ (fun z=>by rw[<-z,J]at hD;cases hD)];exact h2,h3⟩)
     (fun l' z=>by cases z;rw[J];exact fun z=>nomatch z) (fun i us Z hi s iv=>hi) (fun i us Z v H' hi s iv y=>⟨y.2,y.1⟩) (fun us Z s iv=>Nat.le_refl _) (fun i us Z R hi bt ⟨N,g,e1,e2,e3,e4,e5,e6,e7⟩ lu k=>?_) (fun D Z ws us hD bt d2 lu vl ⟨N,g,e1,e2,e3,e4,e5,e6,e7⟩=>?_)
    ·refine⟨_,rfl,_,rfl,_,_,rfl,rfl,_,rfl,l,d',nm,g,ys,by rw[ed];rfl,by lia,e2,by lia,nl,hn2.but bt nl,fun v a gT H4 mq hl4 le4 v4 ok4 sz4 dp4 fw4=>k v a.pt H4 mq v4 ⟨N++[a],gT,?_,hl4,by lia,Ak.CQ e4 (Ak.JL ok4),?_,?_,Ak.EI e7 ⟨fw4,trivial⟩⟩⟩
     ·rw[Ak.Cf,e1];rfl
     ·rw[Ak.Am,Ak.Fp];lia
     ·rw[Ak.Bi,Ak.Fq];lia
    ·refine⟨_,rfl,Dg,fun p B=>?_⟩
     have Po:=bt.GB p B
     have pD:D≠p:=fun z=>by rw[<-z,d2]at B;cases B
     have lp:l≠p:=fun z=>by rw[<-z,e2]at B;cases B
     subst e1
     refine q _ (.row N mo) g _ ((u.trans bt).trans (.of (AE.new B))) (by rw[AJ lp];exact e2) (by lia) (.tup (Bf.of (by rw[BB (u.GB p Po),AF])) (.cons (.str _) (.cons (.lst (.inl (by rw[BB (u.GB D hD),AJ pD];exact d2)) (vl.up (CD (fun b h=>u.GB b h) fun b e _ h=>AE.new B b e h))) (.cons (.bl _) .nil)))) e4 ?_ ?_ e7
     ·simp only[Ak.size];lia
     ·simp only[Ak.deep];lia
   ·refine fun p6 Ze=>?_
    obtain⟨Z,eH,t6,f6⟩:=BZ (o:=.dK []) Ze
    rw[eH];clear eH
    refine⟨Nat.zero_le _,fun p7 gU=>?_⟩
    have t7:=AE.new (o:=.lst []) gU
    have f7:upd Z p7 (.lst []) p7=some (.lst []):=AF
    have jn:=t7 _ _ f6
    generalize upd Z p7 (.lst [])=H4 at t7 f7 jn⊢
    have mq:Bt (some l) H H4:=u.trans (.of (t6.trans t7))
    have T0:F_ H H4 l p6 p7 ys (d'+1) M.length 0 H4 [] [] [] M []:={
     n6:=u.GB p6 Ze
     n7:=u.GB p7 (t6.free gU)
     o6:=by rw[jn];exact fun z=>nomatch z
     o7:=by rw[f7];exact fun z=>nomatch z
     ne:=fun z=>by rw[z,f7]at jn;cases jn
     hl:=hl0
     h4:=mq.GB
     bt:=mq
     dm:=fun b h=>h
     e6:=jn
     e7:=f7
     el:=(t6.trans t7) _ _ J
     le:=Nat.le_refl _
     lw:=rfl
     la:=rfl
     vl:=.nil
     ok:=trivial
     fw:=trivial
     lm:=Nat.le_refl _
     sz:=by simp[Ak.AL]
     dp:=by simp[Ak.AW]
     ik:=fun k h=>nomatch h
     il:=fun k h=>nomatch h
     nk:=.nil
     dj:=fun k h=>nomatch h
     l4:=Nat.le_refl _
     m4:=Nat.le_refl _
     nl:=.nil}
    refine⟨4,rfl,by decide,by decide,Ci (lo:=0) (n:=4) (fun i σ Hi=>∃(ks:List Str) (N:List Ak) (ls:List Str) (g:List Int) (ws:List V) (o8 o9:Option V),σ=[some (.ref l),some (.int ((d'+1:Nat):Int)),some (.ref nm),some (.int c),some (.int kd),some (.bl mo),some (.ref p6),some (.ref p7),o8,o9]/\F_ H H4 l p6 p7 ys (d'+1) M.length i Hi ks N ls g ws)
     ⟨[],[],[],M,[],none,none,rfl,T0⟩ ?_ ?_⟩
    ·rintro i σ Hi hi ⟨ks,N,ls,g,ws,o8,o9,rfl,TI⟩
     obtain⟨y,hy⟩:∃y,ys[i]?=some y:=⟨_,AGS (by rw[hn.len];exact hi)⟩
     have ay:Ja (ys.map V.str) (0+(i:Int))=some (.str y):=by
      have e0:(0:Int)+(i:Int)=(i:Int):=by lia
      rw[e0]
      exact BA (by rw[List.getElem?_map,hy];rfl)
     obtain⟨v4,eO,jo⟩:=Cd (xs:=[V.int 1,V.int 4,V.int 16,V.int 64]) (i:=0+(i:Int)) (by lia) (by simp only[List.length_cons,List.length_nil];lia)
     have vb:∃m:Int,v4=.int m/\0<m/\m<1073741824:=by
      simp only[List.mem_cons,List.not_mem_nil,or_false]at jo
      rcases jo with rfl|rfl|rfl|rfl
      ·exact⟨_,rfl,by decide,by decide⟩
      ·exact⟨_,rfl,by decide,by decide⟩
      ·exact⟨_,rfl,by decide,by decide⟩
      ·exact⟨_,rfl,by decide,by decide⟩
     obtain⟨m,rfl,gW,gX⟩:=vb
     refine⟨_,rfl,c,1,rfl,by decide,fun r1 _ _=>⟨Ah (show 4<=1000 by decide),fun pl dB=>⟨_,rfl,pl,_,_,_,rfl,rfl,An.of AF,eO,_,_,rfl,rfl,⟨gW,gX⟩,_,_,rfl,rfl,(by show(0:Int)<_;decide),?_⟩⟩⟩
     have I:=TI.up (AE.new (o:=.lst [V.int 1,V.int 4,V.int 16,V.int 64]) dB)
     generalize upd Hi pl (.lst [V.int 1,V.int 4,V.int 16,V.int 64])=Hj at I⊢
     clear TI
     generalize r1/m % 4=wy
     have ql:=hn.but I.bt nl
     dsimp only[BP]
     refine⟨_,rfl,_,_,rfl,rfl,_,rfl,Bj (fun h1=>?_) (fun h1=>?_)⟩
     ·have h1:=of_decide_eq_true h1
      refine⟨_,rfl,_,rfl,_,_,rfl,rfl,_,rfl,l,d',nm,g,ys,by rw[ed];rfl,by lia,I.el,by have:=I.le;lia,nl,ql,fun v a gT H5 mu qm le5 v5 jq mx my fw5=>?_⟩
      obtain⟨g1,g2,TI2⟩:=I.asked hy hn.nd mu qm le5 v5 jq mx my fw5
      have l4:=I.l4
      refine⟨_,rfl,_,rfl,_,rfl,nm,_,_,_,rfl,rfl,An.of (ql.but mu nl).at_,ay,p6,_,rfl,.inl ⟨_,Sum.inr y,g1,rfl,BG (by rw[EJ I.lw];lia),rfl⟩,?_⟩
      rw[g2]
      refine⟨_,rfl,rfl,_,rfl,AU (decide_eq_false fun z=>?_) ⟨_,_,_,_,_,_,_,rfl,TI2⟩⟩
      have:=V.int.inj z
      lia
     ·refine⟨_,rfl,rfl,_,rfl,Bj (fun _=>?_) (fun _=>⟨_,_,_,_,_,_,_,rfl,I.weak⟩)⟩
      have m4:=I.m4
      exact⟨_,rfl,.inl ⟨rfl,_,An.of I.e7⟩,_,rfl,_,rfl,nm,_,_,_,rfl,rfl,An.of ql.at_,ay,p7,_,_,rfl,rfl,I.e7,BG (by rw[List.length_map];lia),_,_,_,_,_,_,_,rfl,I.pf hy hn.nd⟩
    ·rintro σ Hi ⟨ks,N,ls,g,ws,o8,o9,rfl,TI⟩
     have l4:=TI.l4
     have m4:=TI.m4
     refine⟨_,rfl,_,rfl,p7,ls,rfl,An.of TI.e7,by lia,fun p8 ss H5 np8 s5 f8 pm so8=>⟨_,rfl,Ah (show 4<=1000 by decide),fun p B=>?_⟩⟩
     have mT:=s5.free B
     have ZS:=TI.bt.GB p mT
     have p8p:p8≠p:=fun z=>by rw[<-z,f8]at B;cases B
     have h8:H p8=none:=TI.bt.GB p8 np8
     have lp:l≠p:=fun z=>hl0 (by rw[z];exact ZS)
     have p6p:p6≠p:=fun z=>by have:=s5 _ _ TI.e6;rw[z,B]at this;cases this
     have s6:=s5.trans (AE.new (o:=.tup [.str "table",.ref p6,.ref p8,.bl mo]) B)
     refine q _ (.tab ks N ss mo) g _ (TI.bt.trans (.of s6)) (s6 _ _ TI.el) (by have:=TI.le;lia) (.tup (Bf.of (by rw[BB ZS,AF])) (.cons (.str _) (.cons (.BX (.inl (by rw[BB TI.n6];exact s6 _ _ TI.e6)) (CP TI.lw) ?_) (.cons (.lst (.inl (by rw[BB h8,AJ p8p];exact f8)) ?_) (.cons (.bl _) .nil))))) ?_ ?_ ?_ ?_
     ·rw[Eh TI.lw]
      exact TI.vl.up (CD (fun b h=>TI.h4 b h) fun b e _ h=>s6 _ _ h)
     ·have gen:∀{G:Hp} (ls:List Str),Aj G (ls.map V.str) (ls.map Pt.str):=by
       intro G ls
       induction ls with
       |nil=>exact .nil
       |cons x r ih=>exact .cons (.str x) ih
      exact gen ss
     ·simp only[Ak.ok]
      exact⟨TI.la,TI.nk,fun k hk=>let⟨j,_,h2⟩:=TI.ik k hk;hn.nb k (AGV h2),by lia,⟨by rw[pm.length_eq];lia,pm.nodup_iff.mpr TI.nl,so8⟩,fun x hx=>TI.dj x (pm.mem_iff.mp hx),TI.ok⟩
     ·have:=TI.sz
      have:=TI.le
      simp only[Ak.size];lia
     ·have:=TI.dp
      simp only[Ak.deep];lia
     ·have:=TI.lm
      exact⟨by rw[pm.length_eq];exact this,TI.fw⟩
theorem P' {f:Addr} {d:FuncData} (F:DN K "_law_asks" "_law_asks" Kl f d) (T:Txt mg) (b:Binds K d ["_law_cells","_law_deep","_law_names_here"] []) (m:mg "_law_asks"=some (.ref f)) (a:Df P w K mg base "_law_mix" ["_law_cell_here","_law_k"] 1 EE) (c:Df P w K mg base "_law_doc" ["_law_cell_here","_law_k","_law_names_here"] 2 KA):∀n:Nat,BH P w K mg base Cs n f d ["_law_cells","_law_deep","_law_names_here"] (Mu n)
 |0=>Jl (fun vs H Q E h=>by obtain⟨_,_,_,_,_,_,e,_⟩:=h;omega)
 |n+1=>Zd F T a c (Df.mk' F b m (P' F T b m a c n))
theorem Xg:Al ["_law_asks_here","_law_path","_law_found","_law_k","_law_name"] ["_law_asks_here","_law_path"] (AI Km):={}
theorem Zf {n:Nat} {f:Addr} {fd:FuncData} (F:DN K "_law_told" "_law_told" Km f fd) (T:Txt mg) (Xh:Df P w K mg base "_law_told" ["_law_asks_here","_law_path"] n (HK n)):BH P w K mg base Cs (n+1) f fd ["_law_asks_here","_law_path"] (HK (n+1)):=by
 obtain⟨jr,js,R,S,U,X⟩:=Xh.ex
 refine F.ok Xg (fun vs H Q E h=>?_) (fun Gm A outer s H vs Q E hr h=>?_)
 ·obtain⟨G,v,a,p,ks,rfl,N,hv,Be,hs,Uq,hp,hl,Zg,q⟩:=h
  rfl
 ·obtain⟨G,v,a,p,ks,rfl,N,hv,Be,hs,Uq,hp,hl,Zg,q⟩:=h
  have nd:=Xg.nd
  have hu:=BQ hr
  have C:Ao n _:=hr.mm
  refine⟨_,(AD (Ai 2 nd (A_ (AA (Aa (AA (pv 1) (AA (pv 0) AB))) AB)))
   (AD (Ap (PW.pt (pw_and (AO BD (Br K 0) AR (AS _)) (pw_and1 (Bd (AY (Bu:Bq _ _ (EH K)) rfl T.isinstance Ar (AA (Br K 0) (AA (Bv (v:=.ty "list") rfl T.list DW rfl) AB))))))) (AH (CM PassesOwn.never rfl (BJ rfl T.range (AA (AY Ag rfl T.len PySem.boot_len (AA (Br K 0) AB)) AB)) (C_ 3 nd) (AH (DL (FF PySem.F.plainAttrs_list PySem.F.slot_list_extend PySem.F.type_list_extend Cj (pv 2) (AA (AK X C rfl U R S .nil AX (AA (Aa (AA AR (AA (Az (r:=Bp K) Ae (Br K 0) (pv 3) (fun _ _=>rfl)) AB))) (AA (AN CK (pv 1) (Aa (AA (pv 3) AB))) AB))) AB)))))) AV)
   (AD (Ap (PW.pt (pw_and (AO BD (Br K 0) AR (AS _)) (pw_and1 (Bd (AY (Bu:Bq _ _ (EH K)) rfl T.isinstance Ar (AA (Br K 0) (AA (Bv (v:=.ty "dict") rfl T.dict Ce rfl) AB))))))) (AH (CM PassesOwn.never rfl (Bg (AY (Cv rfl) rfl T.sorted Ed (AA (Br K 0) AB))) (C_ 4 nd) (AH (DL (FF PySem.F.plainAttrs_list PySem.F.slot_list_extend PySem.F.type_list_extend Cj (pv 2) (AA (AK X C rfl U R S .nil AX (AA (Aa (AA AR (AA (Bw hu (Br K 0) (pv 4) (fun _ _=>rfl)) AB))) (AA (AN CK (pv 1) (Aa (AA (pv 4) AB))) AB))) AB)))))) AV)
   (AD (Ap (AO BD (Br K 0) AR (AS _)) (AH (CM PassesOwn.never rfl (BJ rfl T.range (AA (AY Ag rfl T.len PySem.boot_len (AA (Br K 0) AB)) AB)) (C_ 3 nd) (AH (DL (FF PySem.F.plainAttrs_list PySem.F.slot_list_extend PySem.F.type_list_extend Cj (pv 2) (AA (AK X C rfl U R S .nil AX (AA (Az (r:=Bp K) Ae (Br K 0) (pv 3) (fun _ _=>rfl)) (AA (AN CK (pv 1) (Aa (AA (pv 3) AB))) AB))) AB)))))) AV)
   (AD (Ap (AO BD (Br K 0) AR (AS _)) (AH (CM PassesOwn.never rfl (Bg (AY (Cv rfl) rfl T.sorted Ed (AA (Br K 0) AB))) (C_ 4 nd) (AH (DL (FF PySem.F.plainAttrs_list PySem.F.slot_list_extend PySem.F.type_list_extend Cj (pv 2) (AA (AK X C rfl U R S .nil AX (AA (Bw hu (Br K 0) (pv 4) (fun _ _=>rfl)) (AA (AN CK (pv 1) (Aa (AA (pv 4) AB))) AB))) AB)))))) AV)
   (AH (AQ (pv 2)))))))),?_⟩
  obtain⟨c,w0,rest,rfl,eP,kinds⟩:=hv.ak
  have ZS:H p=some (.tup (ks.map kV)):=N _ _ hp
  refine⟨_,rfl,_,rfl,Ad,fun pT hT=>⟨Ax,fun D hD=>?_⟩⟩
  have sT:=AE.new (o:=.tup [.ref p,.ref c]) hT
  have fT:upd H pT (.tup [.ref p,.ref c]) pT=some (.tup [.ref p,.ref c]):=AF
  generalize upd H pT (.tup [.ref p,.ref c])=H1 at sT fT hD⊢
  have hTD:pT≠D:=fun z=>by rw[z,hD]at fT;cases fT
  have qp:=AE.new (o:=.lst [.ref pT]) hD
  have fD:upd H1 D (.lst [.ref pT]) D=some (.lst [.ref pT]):=AF
  have fT2:=qp _ _ fT
  generalize upd H1 D (.lst [.ref pT])=H2 at qp fD fT2⊢
  have t:=sT.trans qp
  have HD:H D=none:=sT.free hD
  have GD:G D=none:=N.free HD
  have oG:∀{l:Hp},AE G (JJ D (ov G H l)):=fun b o e=>by
   rw[FZ (fun z=>by rw[z,GD]at e;cases e)]
   exact DE _ _ e
  have T0:Fc (K:=K) G H a ks D [.ref pT] H2:=⟨t,fD,by simp,fun w hw=>by rw[List.mem_singleton.mp hw];exact⟨pT,p,.ref c,[],a,rfl,by rw[FZ hTD,GC N hT];exact fT2,by rw[List.append_nil];exact oG _ _ hp,rfl,hv.up oG⟩⟩
  have g:∀{l:Hp},AE H l->Bf K l c (.str w0::rest):=fun s=>eP.up (N.trans s)
  dsimp only[BP]
  have fin:∀(I:List V) (l:Hp),Fc (K:=K) G H a ks D I l->I.length<=a.wt->Q (.ref D) l:=fun I l T lw=>q D I l T.si HD T.hD T.ne lw fun w hw=>(T.ta w hw).up SG
  have wt1:=Ak.dC a
  have Zh:∀{k:Key} {b:Ak},a.De k=some b->b.CF/\b.GU/\ks.length+1+b.dp<=100/\b.dp+3<=n:=fun e=>by
   obtain⟨bG,Y,bw,bd⟩:=Ak.Wz Be hs e
   exact⟨bG,Y,by lia,by lia⟩
  rcases kinds with⟨rfl,rfl,rfl⟩|⟨d,u,rfl,rfl,rfl,Uw⟩|⟨xs,m,u,rfl,rfl,rfl,Uw⟩|⟨ns,xs,ls,m,u,z,rfl,rfl,rfl,Uw,hz⟩
  ·refine⟨_,rfl,c,_,0,_,rfl,rfl,g t,Bo,rfl,_,rfl,AU (by decide+kernel) (BK ?_)⟩
   refine⟨_,rfl,c,_,0,_,rfl,rfl,g t,Bo,rfl,_,rfl,AU (by decide+kernel) (BK ?_)⟩
   refine⟨_,rfl,c,_,0,_,rfl,rfl,g t,Bo,rfl,_,rfl,AU (by decide+kernel) ?_⟩
   refine⟨_,rfl,c,_,0,_,rfl,rfl,g t,Bo,rfl,_,rfl,AU (by decide+kernel) ?_⟩
   exact⟨_,rfl,fin _ _ T0 (by simp;lia)⟩
  ·have J:=Uq
   simp only[Ak.wt]at J
   have RO:d.doc:=Be
   have sj:∀{l:Hp} {x:V} {e:Pt} {pj:Addr},AE H l->l D≠none->l pj=none->Val G x e->Val (JJ D (ov G H (upd l pj (.tup [.str "just",x])))) (.ref pj) (Ak.As e).pt:=fun{l x e pj} s hd hj vx=>.tup (.of (by rw[FZ (fun z=>hd (by rw[<-z];exact hj)),GC N (s.free hj),AF])) (.cons (.str _) (.cons (vx.up oG) .nil))
   refine⟨_,rfl,c,_,0,_,rfl,rfl,g t,Bo,rfl,_,rfl,Ab (by decide+kernel) ?_⟩
   refine⟨_,rfl,c,_,1,_,rfl,rfl,g t,CI,_,"list",_,rfl,rfl,(Uw.up (N.trans t)).ty,_,rfl,?_⟩
   cases Uw with
   |@lst a1 M Z B r1=>
    refine Ab rfl ?_
    have Xi:M.length=(Z.map Ak.As).length:=by rw[List.length_map];exact r1.length
    have lt:=Pt.Dj Z
    simp only[Pt.size]at J
    have l2:(Z.map Ak.As).length=Z.length:=by rw[List.length_map]
    have wj:=Ak.KZ (xs:=Z)
    have eQ:∀(i:Nat) x,M[i]?=some x->∃b,(Z.map Ak.As)[i]?=some b/\∃e,b=.As e/\Val G x e:=fun i x O=>by
     obtain⟨e,h1,h2⟩:=r1.get O
     exact⟨.As e,by rw[List.getElem?_map,h1];rfl,e,rfl,h2⟩
    have qq:∀(i:Nat) b,(Z.map Ak.As)[i]?=some b->(Ak.As (.lst Z)).De (.inl (i:Int))=some b:=fun i b h=>by
     simp only[Ak.De,Pt.Iz,if_pos (Int.natCast_nonneg i),Int.toNat_natCast]
     rw[List.getElem?_map]at h
     exact h
    refine⟨_,rfl,c,_,1,_,rfl,rfl,g t,CI,a1,_,rfl,.inl (.inl (B.up ((N.trans t) _))),M.length,rfl,by lia,by lia,?_⟩
    refine Ci (lo:=0) (n:=M.length) (fun i σ l=>∃(I:List V) (o:Option V),σ=[some (.ref c),some (.ref p),some (.ref D),o,none]/\Fc (K:=K) G H (.As (.lst Z)) ks D I l/\I.length<=1+Ak.E_ ((Z.map Ak.As).take i)) ⟨_,_,rfl,T0,by simp⟩ ?_ ?_
    ·rintro i σ l hi ⟨I,o,rfl,T,lw⟩
     have e0:(0:Int)+(i:Int)=(i:Int):=by lia
     rw[e0]
     obtain⟨x,O⟩:∃x,M[i]?=some x:=⟨_,AGS hi⟩
     obtain⟨b,hb,vx⟩:=eQ i x O
     have eb:=qq i b hb
     obtain⟨bG,Y,bl,bd⟩:=Zh eb
     obtain⟨z1,z2⟩:=Ak.HH hb
     dsimp only[BP]
     obtain⟨e,rfl,vx⟩:=vx
     have nD:l D≠none:=by rw[T.hD];exact fun z=>nomatch z
     refine⟨_,rfl,.inl ⟨rfl,_,An.of T.hD⟩,_,rfl,c,_,1,_,rfl,rfl,g T.si,CI,_,rfl,a1,_,_,_,rfl,rfl,.inl (B.up ((N.trans T.si) _)),BA O,Ad,fun pj gY=>⟨_,rfl,_,rfl,Ax,fun pk NS=>HL (k:=.inl (i:Int)) N HD hp T eb (AE.new gY) (sj T.si nD gY vx) bG Y bl bd NS (by lia) fun H8 eR T' l' keep=>⟨eR,_,rfl,T',by lia⟩⟩⟩
    ·rintro σ l ⟨I,o,rfl,T,lw⟩
     rw[Xi,List.take_length]at lw
     refine⟨_,rfl,c,_,0,_,rfl,rfl,g T.si,Bo,rfl,_,rfl,Ab (by decide+kernel) ?_⟩
     refine⟨_,rfl,c,_,1,_,rfl,rfl,g T.si,CI,_,"dict","list",rfl,rfl,.n (.lst (B.up ((N.trans T.si) _))),_,rfl,AU rfl ?_⟩
     refine⟨_,rfl,c,_,0,_,rfl,rfl,g T.si,Bo,rfl,_,rfl,AU (by decide+kernel) ?_⟩
     refine⟨_,rfl,c,_,0,_,rfl,rfl,g T.si,Bo,rfl,_,rfl,AU (by decide+kernel) ?_⟩
     exact⟨_,rfl,fin _ _ T (by simp only[Ak.wt,Pt.size];lia)⟩
   |@BX a1 y ns Z B IV r1=>
    refine AU rfl ?_
    simp only[Pt.doc]at RO
    obtain⟨ol,Zi,_,o4,_⟩:=RO
    have kl:y.length=ns.length:=by have:=congrArg List.length IV;simpa using this
    have lt:=Pt.Dj Z
    simp only[Pt.size]at J
    have wj:=Ak.KZ (xs:=Z)
    refine⟨_,rfl,c,_,0,_,rfl,rfl,g t,Bo,rfl,_,rfl,Ab (by decide+kernel) ?_⟩
    refine⟨_,rfl,c,_,1,_,rfl,rfl,g t,CI,_,"dict","dict",rfl,rfl,.n (.dK (B.up ((N.trans t) _))),_,rfl,Ab rfl ?_⟩
    refine⟨_,rfl,c,_,1,_,rfl,rfl,g t,CI,a1,y,ns,rfl,B.up ((N.trans t) _),IV,by lia,fun L ss H3 nL s3 fL pm st=>?_⟩
    obtain⟨as,eS⟩:=Jz (xs:=Z.map Ak.As) (by rw[List.length_map];exact ol) (ss:=ss) fun k hk=>pm.mem_iff.mp hk
    have jt:ss.length=as.length:=by have:=congrArg List.length eS;simpa using this
    have pas:=Ak.KD (DO (by rw[List.length_map];exact ol) Zi pm eS)
    have LD:L≠D:=fun z=>by rw[z,fD]at nL;cases nL
    have eQ:∀(i:Nat) nm,ss[i]?=some nm->∃w b,as[i]?=some b/\BM y (Sum.inr nm)=some w/\(∃e,b=.As e/\Val G w e)/\(Ak.As (.BX ns Z)).De (.inr nm)=some b:=fun i nm h=>by
     obtain⟨b,hb⟩:∃b,as[i]?=some b:=⟨_,AGS (by have:=(AGT h).1;lia)⟩
     have e1:lk ns (Z.map Ak.As) nm=some b:=by
      have:=congrArg (fun z=>z[i]?) eS
      simp only[List.getElem?_map,h,hb]at this
      exact AGU this
     rw[GQ]at e1
     rcases Val.Ex IV r1 nm with⟨w,tx,k1,k2,vx⟩|⟨_,k2⟩
     ·have k2:lk ns Z nm=some tx:=k2
      rw[k2]at e1
      cases e1
      exact⟨w,_,hb,k1,⟨tx,rfl,vx⟩,by simp only[Ak.De,Pt.Iz];rw[k2];rfl⟩
     ·have k2:lk ns Z nm=none:=k2
      rw[k2]at e1
      cases e1
    refine⟨L,rfl,⟨_,An.of fL⟩,DQ (K:=K) (xs:=ss.map V.str) (fun i σ l=>∃(I:List V) (o:Option V),σ=[some (.ref c),some (.ref p),some (.ref D),none,o]/\l L=some (.lst (ss.map V.str))/\Fc (K:=K) G H (.As (.BX ns Z)) ks D I l/\I.length<=1+Ak.E_ (as.take i)) ⟨_,_,rfl,fL,T0.up s3,by simp⟩ (fun i σ l _ ⟨_,_,_,h,_⟩=>An.of h) ?_ ?_⟩
    ·rintro i x σ l O ⟨I,o,rfl,hL,T,lw⟩
     rw[List.getElem?_map]at O
     cases hk:ss[i]? with
     |none=>rw[hk]at O;cases O
     |some nm=>
      rw[hk]at O
      cases O
      obtain⟨w,b,hb,k1,vx,eb⟩:=eQ i nm hk
      obtain⟨bG,Y,bl,bd⟩:=Zh eb
      obtain⟨z1,z2⟩:=Ak.HH hb
      dsimp only[BP]
      obtain⟨e,rfl,vx⟩:=vx
      have nD:l D≠none:=by rw[T.hD];exact fun z=>nomatch z
      refine⟨_,rfl,.inl ⟨rfl,_,An.of T.hD⟩,_,rfl,c,_,1,_,rfl,rfl,g T.si,CI,_,rfl,a1,w,rfl,.inl ⟨y,Sum.inr nm,B.up ((N.trans T.si) _),rfl,k1.symm⟩,Ad,fun pj gY=>⟨_,rfl,_,rfl,Ax,fun pk NS=>HL (k:=.inr nm) N HD hp T eb (AE.new gY) (sj T.si nD gY vx) bG Y bl bd NS (by lia) fun H8 eR T' l' keep=>⟨eR,_,rfl,keep _ _ LD ((AE.new gY) _ _ hL),T',by lia⟩⟩⟩
    ·rintro σ l ⟨I,o,rfl,hL,T,lw⟩
     rw[List.length_map,jt,List.take_length]at lw
     refine⟨_,rfl,c,_,0,_,rfl,rfl,g T.si,Bo,rfl,_,rfl,AU (by decide+kernel) ?_⟩
     refine⟨_,rfl,c,_,0,_,rfl,rfl,g T.si,Bo,rfl,_,rfl,AU (by decide+kernel) ?_⟩
     exact⟨_,rfl,fin _ _ T (by simp only[Ak.wt,Pt.size];lia)⟩
   |int j=>
    refine AU rfl ?_
    refine⟨_,rfl,c,_,0,_,rfl,rfl,g t,Bo,rfl,_,rfl,Ab (by decide+kernel) ?_⟩
    refine⟨_,rfl,c,_,1,_,rfl,rfl,g t,CI,_,"dict","int",rfl,rfl,.n (.int j),_,rfl,AU rfl ?_⟩
    refine⟨_,rfl,c,_,0,_,rfl,rfl,g t,Bo,rfl,_,rfl,AU (by decide+kernel) ?_⟩
    refine⟨_,rfl,c,_,0,_,rfl,rfl,g t,Bo,rfl,_,rfl,AU (by decide+kernel) ?_⟩
    exact⟨_,rfl,fin _ _ T0 (by simp;lia)⟩
   |str j=>
    refine AU rfl ?_
    refine⟨_,rfl,c,_,0,_,rfl,rfl,g t,Bo,rfl,_,rfl,Ab (by decide+kernel) ?_⟩
    refine⟨_,rfl,c,_,1,_,rfl,rfl,g t,CI,_,"dict","str",rfl,rfl,.n (.str j),_,rfl,AU rfl ?_⟩
    refine⟨_,rfl,c,_,0,_,rfl,rfl,g t,Bo,rfl,_,rfl,AU (by decide+kernel) ?_⟩
    refine⟨_,rfl,c,_,0,_,rfl,rfl,g t,Bo,rfl,_,rfl,AU (by decide+kernel) ?_⟩
    exact⟨_,rfl,fin _ _ T0 (by simp;lia)⟩
   |bl j=>simp[Pt.doc]at RO
   |Av=>simp[Pt.doc]at RO
   |tup _ _=>simp[Pt.doc]at RO
  ·refine⟨_,rfl,c,_,0,_,rfl,rfl,g t,Bo,rfl,_,rfl,AU (by decide+kernel) (BK ?_)⟩
   refine⟨_,rfl,c,_,0,_,rfl,rfl,g t,Bo,rfl,_,rfl,AU (by decide+kernel) (BK ?_)⟩
   refine⟨_,rfl,c,_,0,_,rfl,rfl,g t,Bo,rfl,_,rfl,Ab (by decide+kernel) ?_⟩
   obtain⟨a1,M,rfl,B,r1⟩:=Uw.Mq
   have Xi:M.length=xs.length:=by rw[r1.length,Ak.AZ,List.length_map]
   have l1:=Ak.Dj xs
   have l2:=Ak.Cz xs
   have J:=Uq
   simp only[Ak.wt]at J
   have eQ:∀(i:Nat) x,M[i]?=some x->∃b,xs[i]?=some b/\Val G x b.pt:=fun i x O=>by
    obtain⟨e,h1,h2⟩:=r1.get O
    rw[Ak.AZ,List.getElem?_map]at h1
    cases hb:xs[i]? with
    |none=>rw[hb]at h1;cases h1
    |some b=>rw[hb]at h1;cases h1;exact⟨b,rfl,h2⟩
   have qq:∀(i:Nat) b,xs[i]?=some b->(Ak.row xs m).De (.inl (i:Int))=some b:=fun i b h=>by
    simp only[Ak.De,if_pos (Int.natCast_nonneg i),Int.toNat_natCast]
    exact h
   refine⟨_,rfl,c,_,1,_,rfl,rfl,g t,CI,a1,_,rfl,.inl (.inl (B.up ((N.trans t) _))),M.length,rfl,by lia,by lia,?_⟩
   refine Ci (lo:=0) (n:=M.length) (fun i σ l=>∃(I:List V) (o:Option V),σ=[some (.ref c),some (.ref p),some (.ref D),o,none]/\Fc (K:=K) G H (.row xs m) ks D I l/\I.length<=1+Ak.E_ (xs.take i)) ⟨_,_,rfl,T0,by simp⟩ ?_ ?_
   ·rintro i σ l hi ⟨I,o,rfl,T,lw⟩
    have e0:(0:Int)+(i:Int)=(i:Int):=by lia
    rw[e0]
    obtain⟨x,O⟩:∃x,M[i]?=some x:=⟨_,AGS hi⟩
    obtain⟨b,hb,vx⟩:=eQ i x O
    have eb:=qq i b hb
    obtain⟨bG,Y,bl,bd⟩:=Zh eb
    obtain⟨z1,z2⟩:=Ak.HH hb
    dsimp only[BP]
    refine⟨_,rfl,.inl ⟨rfl,_,An.of T.hD⟩,_,rfl,c,_,1,_,rfl,rfl,g T.si,CI,_,rfl,a1,_,_,_,rfl,rfl,.inl (B.up ((N.trans T.si) _)),BA O,_,rfl,_,rfl,Ax,fun pk NS=>HL (k:=.inl (i:Int)) N HD hp T eb (AE.refl _) (vx.up oG) bG Y bl bd NS (by lia) fun H8 eR T' l' keep=>⟨eR,_,rfl,T',by lia⟩⟩
   ·rintro σ l ⟨I,o,rfl,T,lw⟩
    rw[Xi,List.take_length]at lw
    refine⟨_,rfl,c,_,0,_,rfl,rfl,g T.si,Bo,rfl,_,rfl,AU (by decide+kernel) ?_⟩
    exact⟨_,rfl,fin _ _ T (by simp only[Ak.wt];lia)⟩
  ·refine⟨_,rfl,c,_,0,_,rfl,rfl,g t,Bo,rfl,_,rfl,AU (by decide+kernel) (BK ?_)⟩
   refine⟨_,rfl,c,_,0,_,rfl,rfl,g t,Bo,rfl,_,rfl,AU (by decide+kernel) (BK ?_)⟩
   refine⟨_,rfl,c,_,0,_,rfl,rfl,g t,Bo,rfl,_,rfl,AU (by decide+kernel) ?_⟩
   refine⟨_,rfl,c,_,0,_,rfl,rfl,g t,Bo,rfl,_,rfl,Ab (by decide+kernel) ?_⟩
   have J:=Uq
   simp only[Ak.wt]at J
   have ju:=Be
   simp only[Ak.CF]at ju
   obtain⟨ol,Zi,_,o4,_⟩:=ju
   obtain⟨a1,y,rfl,B,IV,r1⟩:=Uw.Qi
   have kl:y.length=ns.length:=by have:=congrArg List.length IV;simpa using this
   refine⟨_,rfl,c,_,1,_,rfl,rfl,g t,CI,a1,y,ns,rfl,B.up ((N.trans t) _),IV,by lia,fun L ss H3 nL s3 fL pm st=>?_⟩
   obtain⟨as,eS⟩:=Jz (xs:=xs) ol (ss:=ss) fun k hk=>pm.mem_iff.mp hk
   have jt:ss.length=as.length:=by have:=congrArg List.length eS;simpa using this
   have pas:=Ak.KD (DO ol Zi pm eS)
   have LD:L≠D:=fun z=>by rw[z,fD]at nL;cases nL
   have eQ:∀(i:Nat) nm,ss[i]?=some nm->∃w b,as[i]?=some b/\BM y (Sum.inr nm)=some w/\Val G w b.pt/\(Ak.tab ns xs ls m).De (.inr nm)=some b:=fun i nm h=>by
    obtain⟨b,hb⟩:∃b,as[i]?=some b:=⟨_,AGS (by have:=(AGT h).1;lia)⟩
    have e1:lk ns xs nm=some b:=by
     have:=congrArg (fun z=>z[i]?) eS
     simp only[List.getElem?_map,h,hb]at this
     exact AGU this
    rcases Val.Ex IV r1 nm with⟨w,tx,k1,k2,vx⟩|⟨_,k2⟩
    ·have k2:lk ns (Ak.CY xs) nm=some tx:=k2
     rw[Ak.AZ,GQ,e1]at k2
     cases k2
     exact⟨w,b,hb,k1,vx,e1⟩
    ·have k2:lk ns (Ak.CY xs) nm=none:=k2
     rw[Ak.AZ,GQ,e1]at k2
     cases k2
   refine⟨L,rfl,⟨_,An.of fL⟩,DQ (K:=K) (xs:=ss.map V.str) (fun i σ l=>∃(I:List V) (o:Option V),σ=[some (.ref c),some (.ref p),some (.ref D),none,o]/\l L=some (.lst (ss.map V.str))/\Fc (K:=K) G H (.tab ns xs ls m) ks D I l/\I.length<=1+Ak.E_ (as.take i)) ⟨_,_,rfl,fL,T0.up s3,by simp⟩ (fun i σ l _ ⟨_,_,_,h,_⟩=>An.of h) ?_ ?_⟩
   ·rintro i x σ l O ⟨I,o,rfl,hL,T,lw⟩
    rw[List.getElem?_map]at O
    cases hk:ss[i]? with
    |none=>rw[hk]at O;cases O
    |some nm=>
     rw[hk]at O
     cases O
     obtain⟨w,b,hb,k1,vx,eb⟩:=eQ i nm hk
     obtain⟨bG,Y,bl,bd⟩:=Zh eb
     obtain⟨z1,z2⟩:=Ak.HH hb
     dsimp only[BP]
     refine⟨_,rfl,.inl ⟨rfl,_,An.of T.hD⟩,_,rfl,c,_,1,_,rfl,rfl,g T.si,CI,_,rfl,a1,w,rfl,.inl ⟨y,Sum.inr nm,B.up ((N.trans T.si) _),rfl,k1.symm⟩,_,rfl,_,rfl,Ax,fun pk NS=>HL (k:=.inr nm) N HD hp T eb (AE.refl _) (vx.up oG) bG Y bl bd NS (by lia) fun H8 eR T' l' keep=>⟨eR,_,rfl,keep _ _ LD hL,T',by lia⟩⟩
   ·rintro σ l ⟨I,o,rfl,hL,T,lw⟩
    rw[List.length_map,jt,List.take_length]at lw
    exact⟨_,rfl,fin _ _ T (by simp only[Ak.wt];lia)⟩
theorem QA {f:Addr} {a:FuncData} (F:DN K "_law_told" "_law_told" Km f a) (T:Txt mg) (b:Binds K a ["_law_asks_here","_law_path"] []) (m:mg "_law_told"=some (.ref f)):∀n:Nat,BH P w K mg base Cs n f a ["_law_asks_here","_law_path"] (HK n)
 |0=>Jl (fun vs H Q E h=>by obtain⟨_,_,_,_,_,_,_,_,_,_,_,_,_,c,_⟩:=h;omega)
 |n+1=>Zf F T (Df.mk' F b m (QA F T b m n))
theorem bS:Al ["_law_path","_law_there","_law_names_here"] ["_law_path","_law_there"] (AI Uo):={}
theorem eT {f:Addr} {fd:FuncData} (F:DN K "_law_out" "_law_out" Uo f fd) (T:Txt mg):BH P w K mg base Cs 2 f fd ["_law_path","_law_there"] RG:=by
 refine F.ok bS (fun vs H Q E h=>?_) (fun Gm A outer s H vs Q E hr h=>?_)
 ·obtain⟨G,p,u,A,b,U,rfl,sG,hA,hp,I,jv,q⟩:=h
  rfl
 ·obtain⟨G,p,u,A,b,U,rfl,sG,hA,hp,I,jv,q⟩:=h
  have nd:=bS.nd
  have hu:=BQ hr
  refine⟨_,(AD (Ap (AO BD (Br K 1) AR (AS _)) (AH (AQ (Aa (AA AR (AA (Ba (fv:=["_law_path"]) (fs:=[0]) rfl (.of (by rfl)) (BJ rfl T.range (AA (AY Ag rfl T.len PySem.boot_len (AA (Br K 1) AB)) AB)) (fun _ _ _ _=>BV) (fun C s0 H0 fp=>(Aa (AA AR (AA (AN CK (pv 1) (Aa (AA (pv 0) AB))) AB))))) (AA (Az (r:=Bp K) Ae (A_ (AA CL (AA (pv 0) AB))) (BR LU rfl T.int aa (AA (Br K 1) AB)) (fun _ _=>rfl)) AB)))))) AV)
   (AD (Ap (AO BD (Br K 1) AR (AS _)) (AD (Ai 2 nd (BR (DX rfl) rfl T.dict Ce (AA (Ba (fv:=["_law_path"]) (fs:=[0]) rfl (.of (by rfl)) (dQ rfl T.reversed Qa (AA (AY (Cv rfl) rfl T.sorted Ed (AA (Br K 1) AB)) AB)) (fun _ _ _ _=>BV) (fun C s0 H0 fp=>(Aa (AA (pv 0) (AA (Aa (AA AR (AA (AN CK (pv 1) (Aa (AA (pv 0) AB))) AB))) AB))))) AB)))
   (AH (AQ (Aa (AA AR (AA (pv 2) (AA (Az (r:=Bp K) Ae (A_ (AA CL (AA (pv 0) AB))) (BR LU rfl T.int aa (AA (Br K 1) AB)) (fun _ _=>rfl)) AB))))))) AV)
   (AD (Ap (PW.pt (pw_and (AO BD (Br K 1) AR (AS _)) (pw_and1 (Bd (AY (Bu:Bq _ _ (EH K)) rfl T.isinstance Ar (AA (Br K 1) (AA (Bv (v:=.ty "list") rfl T.list DW rfl) AB))))))) (AH (AQ (Aa (AA AR (AA (Ba (fv:=["_law_path"]) (fs:=[0]) rfl (.of (by rfl)) (BJ rfl T.range (AA (AY Ag rfl T.len PySem.boot_len (AA (Br K 1) AB)) AB)) (fun _ _ _ _=>BV) (fun C s0 H0 fp=>(Aa (AA AR (AA (AN CK (pv 1) (Aa (AA (pv 0) AB))) AB))))) (AA CL AB)))))) AV)
   (AD (Ap (PW.pt (pw_and (AO BD (Br K 1) AR (AS _)) (pw_and1 (Bd (AY (Bu:Bq _ _ (EH K)) rfl T.isinstance Ar (AA (Br K 1) (AA (Bv (v:=.ty "dict") rfl T.dict Ce rfl) AB))))))) (AH (AQ (Aa (AA AR (AA (BR (DX rfl) rfl T.dict Ce (AA (Ml (Ba (fv:=["_law_there"]) (fs:=[1]) rfl (.of (by rfl)) (JH (Br K 1)) (fun _ _ _ _=>BV) (fun C s0 H0 fp=>(Aa (AA (pv 0) (AA (Aa (AA AR (AA (Bw hu (Br K 1) (pv 0) (fun _ _=>rfl)) AB))) AB)))))) AB)) (AA CL AB)))))) AV)
   (AH (AQ (Aa (AA AR (AA (pv 0) AB))))))))),?_⟩
  obtain⟨l20,YA,qr,bT,jx⟩:=hA.len I
  obtain⟨J,w0,rest,rfl,eP,kinds⟩:=jv.ak
  have B:=eP.up sG
  have ji:H p=some (.tup (U.map kV)):=sG _ _ hp
  have dG:∀b,H b=none->G b=none:=fun b h=>sG.free h
  have oG:∀{H':Hp},AE G (ov G H H'):=DE
  have Ux:(∀xs mm,b≠.row xs mm)->∀t,H t=none->Q (.ref t) (upd H t (.tup [.str "from",.ref p])):=fun nr t h=>by
   refine q _ (.Ic U) _ (AE.new h) ⟨.tup (.of (by rw[GC sG h,AF])) (.cons (.str _) (.cons (CU (.of (oG _ _ hp))) .nil)),by simp only[AM.ok];lia,by simp only[AM.good];rw[I];rfl,by simp only[AM.size];lia,by simp only[AM.deep];lia⟩ (fun xs mm e=>absurd e (nr xs mm))
  rcases kinds with⟨rfl,rfl,rfl⟩|⟨d,u,rfl,rfl,rfl,Uw⟩|⟨xs,m,u,rfl,rfl,rfl,Uw⟩|⟨ns,xs,ls,m,u,z,rfl,rfl,rfl,Uw,hz⟩
  ·refine⟨_,rfl,J,_,0,_,rfl,rfl,B,Bo,rfl,_,rfl,AU (by decide+kernel) ?_⟩
   refine⟨_,rfl,J,_,0,_,rfl,rfl,B,Bo,rfl,_,rfl,AU (by decide+kernel) ?_⟩
   refine⟨_,rfl,J,_,0,_,rfl,rfl,B,Bo,rfl,_,rfl,AU (by decide+kernel) (BK ?_)⟩
   refine⟨_,rfl,J,_,0,_,rfl,rfl,B,Bo,rfl,_,rfl,AU (by decide+kernel) (BK ?_)⟩
   exact⟨_,rfl,Ad,Ux (fun _ _ e=>nomatch e)⟩
  ·refine⟨_,rfl,J,_,0,_,rfl,rfl,B,Bo,rfl,_,rfl,AU (by decide+kernel) ?_⟩
   refine⟨_,rfl,J,_,0,_,rfl,rfl,B,Bo,rfl,_,rfl,AU (by decide+kernel) ?_⟩
   refine⟨_,rfl,J,_,0,_,rfl,rfl,B,Bo,rfl,_,rfl,Ab (by decide+kernel) ?_⟩
   refine⟨_,rfl,J,_,1,_,rfl,rfl,B,CI,_,"list",_,rfl,rfl,(Uw.up sG).ty,_,rfl,?_⟩
   have RO:d.doc:=YA
   simp only[Ak.wt]at bT
   simp only[Ak.dp]at jx
   cases Uw with
   |int j=>
    refine AU rfl ⟨_,rfl,J,_,0,_,rfl,rfl,B,Bo,rfl,_,rfl,Ab (by decide+kernel) ?_⟩
    exact⟨_,rfl,J,_,1,_,rfl,rfl,B,CI,_,"dict","int",rfl,rfl,.n (.int j),_,rfl,AU rfl ⟨_,rfl,Ad,Ux (fun _ _ e=>nomatch e)⟩⟩
   |str j=>
    refine AU rfl ⟨_,rfl,J,_,0,_,rfl,rfl,B,Bo,rfl,_,rfl,Ab (by decide+kernel) ?_⟩
    exact⟨_,rfl,J,_,1,_,rfl,rfl,B,CI,_,"dict","str",rfl,rfl,.n (.str j),_,rfl,AU rfl ⟨_,rfl,Ad,Ux (fun _ _ e=>nomatch e)⟩⟩
   |bl j=>simp[Pt.doc]at RO
   |Av=>simp[Pt.doc]at RO
   |tup _ _=>simp[Pt.doc]at RO
   |@lst a1 M ts NZ r1=>
    refine Ab rfl ?_
    have Xi:=r1.length
    have lt:=Pt.Dj ts
    simp only[Pt.size]at bT
    refine⟨_,rfl,J,_,1,_,rfl,rfl,B,CI,a1,_,rfl,.inl (.inl (NZ.up (sG _))),M.length,rfl,by lia,by lia,?_⟩
    rw[Int.toNat_natCast]
    refine NG G none M.length (fun i=>.int (0+(i:Int))) (fun i c a=>c=(List.range i).map fun j=>(AM.Ic (U++[.inl (j:Int)])).pt) (by lia) (fun D hD=>rfl) (fun i c a D Z X hD g=>g) (fun l z=>nomatch z) (fun i c a Y s g=>Y) (fun i c a v H' Y s g y=>⟨y.2,y.1⟩) (fun c a s g=>Nat.le_refl _) (fun i c a R Y X g lu k=>?_) (fun D a Z c hD X d2 lu vl g=>?_)
    ·have s3:=X.same
     have e0:(0:Int)+(i:Int)=(i:Int):=by lia
     rw[e0]
     refine⟨_,rfl,_,rfl,Ax,fun pk NS=>Kf (k:=.inl (i:Int)) (fun b h=>dG b (s3.free h)) (s3 _ _ ji) (by lia) NS fun t H4 s4 nt v4=>k _ _ H4 (.of s4) v4 ?_⟩
     rw[g,List.range_succ,List.map_append]
     rfl
    ·have s3:=X.same
     have eU:c=AM.CY (AM.Ff U ((List.range M.length).map fun(j:Nat)=>(Sum.inl (j:Int):Key))):=by
      rw[g,AM.AZ]
      unfold AM.Ff
      rw[List.map_map,List.map_map]
      rfl
     rw[eU]at vl
     generalize O:(List.range M.length).map (fun(j:Nat)=>(Sum.inl (j:Int):Key))=keys at vl
     have lk:keys.length=M.length:=by rw[<-O,List.length_map,List.length_range]
     have qt:∀k∈keys,((Ak.As (.lst ts)).De k).isSome=true:=fun k hk=>by
      rw[<-O]at hk
      obtain⟨j,hj,rfl⟩:=List.mem_map.mp hk
      have hj:=List.mem_range.mp hj
      simp only[Ak.De,Pt.Iz,if_pos (Int.natCast_nonneg j),Int.toNat_natCast]
      rw[AGS (by lia)]
      rfl
     refine⟨Dg,fun t Zj=>?_⟩
     refine q _ (.row (AM.Ff U keys) none) _ (s3.trans (AE.new Zj)) ⟨Kg sG (fun b h=>s3.free h) hD d2 vl .Av Zj,?_,?_,?_,?_⟩ (fun m_ mm e=>nomatch e)
     ·simp only[AM.ok]
      exact⟨by rw[AM.HM];lia,trivial,AM.NF (by lia)⟩
     ·simp only[AM.good,Bool.and_eq_true]
      exact⟨rfl,AM.II I qt⟩
     ·simp only[AM.size];rw[AM.Ft];lia
     ·simp only[AM.deep];have:=AM.IJ U keys;lia
   |@BX a1 S ns ts NZ IV r1=>
    refine AU rfl ⟨_,rfl,J,_,0,_,rfl,rfl,B,Bo,rfl,_,rfl,Ab (by decide+kernel) ?_⟩
    refine⟨_,rfl,J,_,1,_,rfl,rfl,B,CI,_,"dict","dict",rfl,rfl,.n (.dK (NZ.up (sG _))),_,rfl,Ab rfl ?_⟩
    simp only[Pt.doc]at RO
    obtain⟨ol,Zi,onb,o4,odL⟩:=RO
    have kl:S.length=ns.length:=by have:=congrArg List.length IV;simpa using this
    have lt:=Pt.Dj ts
    simp only[Pt.size]at bT
    simp only[Pt.deep]at jx
    have jy:=NZ.up (sG _)
    refine⟨a1,S,jy,fun o Hf F=>⟨_,rfl,J,_,1,_,rfl,rfl,Bf.Hy B (.Cg F),CI,a1,o,S,rfl,F.at_,?_⟩⟩
    refine PY G none ns.length (fun i=>.str (ns.getD i "")) ns (fun i c a=>c=(ts.take i).map fun e=>(AM.Kw e).pt) (by lia) (fun D hD=>rfl) (fun i c a D e X hD g=>g) (fun l z=>nomatch z) (fun i c a Y s g=>⟨s.same _ _ F.at_,by rw[kl];exact Y⟩) (fun i c a v H' Y s g y=>?_) (fun c a s g=>⟨s.same _ _ F.at_,kl.symm⟩) (fun i c a R Y X g lu k=>?_) (fun D a qs Z c hD X d2 lq lu tt vl g=>?_)
    ·obtain⟨e,k,w',e1,e2⟩:=y
     rw[(WY IV e1).2]at e2
     exact⟨e2,e⟩
    ·obtain⟨x,e,g1,g2,g3⟩:=Qj IV r1 Zi (i:=i) (by lia)
     have qh:FI H a:=F.rd.trans X.same.r
     have ht3:Bf K a J [.str "just",.ref a1]:=Bf.Hy B ((LI.Cg F).trans (.of X.same))
     refine⟨_,rfl,_,rfl,J,_,1,_,rfl,rfl,ht3,CI,_,rfl,a1,x,rfl,.inl ⟨S,Sum.inr (ns.getD i ""),qh a1 _ jy,rfl,g1.symm⟩,Ad,fun tj qu=>⟨Ad,fun t2 RM=>k (.ref tj) (AM.Kw e).pt _ t2 (.of (AE.new qu)) (.tup (.of ?_) (.cons (.str _) (.cons (g3.up DE) .nil))) ?_ RM⟩⟩
     ·have n0:H tj=none:=(F.free (X.same.free qu)).1
      unfold ov
      rw[dG tj n0]
      show nw a _ tj=_
      rw[BB qu,AF]
     ·rw[g,List.take_add_one,g2,List.map_append]
      rfl
    ·refine⟨X.same _ _ F.at_,?_⟩
     rw[<-ol.symm.trans rfl,List.take_length]at g
     have eU:c=AM.CY (ts.map AM.Kw):=by rw[g,AM.AZ,List.map_map];rfl
     have sb:=F.back X.same
     have ba:∀b,b≠a1->back a1 H a b=a b:=fun b hb=>Fl hb
     have Da:D≠a1:=(F.free hD).2
     have lw:=vl.length
     have el:ns.length=Z.length:=by lia
     refine⟨D,qs,CO ns Z,rfl,An.of (by rw[ba D Da];exact d2),by rw[EJ el];lia,fun j k v e=>?_,by rw[EJ el];lia,fun pd YB=>?_⟩
     ·obtain⟨x,h1,h2,h3⟩:=Mt e
      obtain⟨t,B⟩:∃t,qs[j]?=some t:=⟨_,AGS (by have:=(AGT h1).1;lia)⟩
      obtain⟨g2,g3⟩:=tt j t v B h2
      refine⟨t,B,?_⟩
      rw[ba t (F.free g3).2,g2,h3,List.getD_eq_getElem?_getD,h1]
      rfl
     rw[Fo el Zi]
     have bO:H pd=none:=sb.free YB
     have s4:=sb.trans (AE.new (o:=.dK (CO ns Z)) YB)
     have f4:upd (back a1 H a) pd (.dK (CO ns Z)) pd=some (.dK (CO ns Z)):=AF
     have jz:Aj (ov G H (upd (back a1 H a) pd (.dK (CO ns Z)))) Z c:=vl.up (BL (fun b h=>(F.free h).1) fun b e h1 h2=>by
      have hb:=(F.free h1).2
      have nb:b≠pd:=fun z=>by rw[z]at h2 hb;rw[ba pd hb,h2]at YB;cases YB
      rw[AJ nb,ba b hb]
      exact h2)
     generalize upd (back a1 H a) pd (.dK (CO ns Z))=H4 at s4 f4 jz⊢
     rw[eU]at jz
     refine⟨Dg,fun t Zj=>?_⟩
     refine q _ (.tab ns (ts.map AM.Kw) none) _ (s4.trans (AE.new Zj)) ⟨NI sG (fun b h=>s4.free h) bO el f4 jz .Av Zj,?_,?_,?_,?_⟩ (fun m_ mm e=>nomatch e)
     ·simp only[AM.ok]
      refine⟨by rw[List.length_map];exact ol,Zi,o4,trivial,AM.ES fun x hx=>?_⟩
      obtain⟨e,he,rfl⟩:=List.mem_map.mp hx
      have:=Pt.Cm he
      have:=Pt.BI he
      simp only[AM.ok]
      exact⟨Pt.DV odL e he,by lia,by lia⟩
     ·simp only[AM.good,Bool.and_eq_true]
      refine⟨rfl,?_⟩
      rw[AM.Bc,List.all_eq_true]
      intro x hx
      obtain⟨e,he,rfl⟩:=List.mem_map.mp hx
      rfl
     ·simp only[AM.size]
      rw[AM.MB]
      lia
     ·simp only[AM.deep]
      have:AM.AW (ts.map AM.Kw)<=1:=AM.HJ fun x hx=>by
       obtain⟨e,he,rfl⟩:=List.mem_map.mp hx
       exact Nat.le_refl 1
      lia
  ·refine⟨_,rfl,J,_,0,_,rfl,rfl,B,Bo,rfl,_,rfl,Ab (by decide+kernel) ?_⟩
   obtain⟨a1,M,rfl,NZ,r1⟩:=Uw.Mq
   have Xi:M.length=xs.length:=by rw[r1.length,Ak.AZ,List.length_map]
   have l1:=Ak.Dj xs
   have l2:=Ak.Cz xs
   simp only[Ak.wt]at bT
   refine⟨_,rfl,J,_,1,_,rfl,rfl,B,CI,a1,_,rfl,.inl (.inl (NZ.up (sG _))),M.length,rfl,by lia,by lia,?_⟩
   rw[Int.toNat_natCast]
   refine NG G none M.length (fun i=>.int (0+(i:Int))) (fun i c a=>c=(List.range i).map fun j=>(AM.Ic (U++[.inl (j:Int)])).pt) (by lia) (fun D hD=>rfl) (fun i c a D Z X hD g=>g) (fun l z=>nomatch z) (fun i c a Y s g=>Y) (fun i c a v H' Y s g y=>⟨y.2,y.1⟩) (fun c a s g=>Nat.le_refl _) (fun i c a R Y X g lu k=>?_) (fun D a Z c hD X d2 lu vl g=>?_)
   ·have s3:=X.same
    have e0:(0:Int)+(i:Int)=(i:Int):=by lia
    rw[e0]
    refine⟨_,rfl,_,rfl,Ax,fun pk NS=>Kf (k:=.inl (i:Int)) (fun b h=>dG b (s3.free h)) (s3 _ _ ji) (by lia) NS fun t H4 s4 nt v4=>k _ _ H4 (.of s4) v4 ?_⟩
    rw[g,List.range_succ,List.map_append]
    rfl
   ·have s3:=X.same
    have eU:c=AM.CY (AM.Ff U ((List.range M.length).map fun(j:Nat)=>(Sum.inl (j:Int):Key))):=by
     rw[g,AM.AZ]
     unfold AM.Ff
     rw[List.map_map,List.map_map]
     rfl
    rw[eU]at vl
    generalize O:(List.range M.length).map (fun(j:Nat)=>(Sum.inl (j:Int):Key))=keys at vl
    have lk:keys.length=M.length:=by rw[<-O,List.length_map,List.length_range]
    have qt:∀k∈keys,((Ak.row xs m).De k).isSome=true:=fun k hk=>by
     rw[<-O]at hk
     obtain⟨j,hj,rfl⟩:=List.mem_map.mp hk
     have hj:=List.mem_range.mp hj
     simp only[Ak.De,if_pos (Int.natCast_nonneg j),Int.toNat_natCast]
     rw[AGS (by lia)]
     rfl
    obtain⟨z,az,vz⟩:=tail_at (K:=K) hp (oG (H':=a)) m
    refine⟨_,rfl,Ad,fun q1 RP=>⟨_,rfl,J,_,2,.bl m,rfl,rfl,(B.up s3).up (AE.new RP),at2,.inr ⟨m,rfl,q1,_,_,_,rfl,rfl,An.of AF,az,Dg,fun t Zj=>?_⟩⟩⟩
    have s4:=AE.new (o:=.lst [V.Av,.ref p]) RP
    have d4:=s4 _ _ d2
    generalize upd a q1 (.lst [V.Av,.ref p])=H4 at s4 d4 Zj⊢
    have up4:AE (ov G H a) (ov G H H4):=BL (fun b h=>h) fun b o _ e=>s4 _ _ e
    have s34:=s3.trans s4
    refine q _ (.row (AM.Ff U keys) (if m=true then some U else none)) _ (s34.trans (AE.new Zj)) ⟨Kg sG (fun b h=>s34.free h) hD d4 (vl.up up4) (vz.up up4) Zj,?_,?_,?_,?_⟩ (fun m_ mm e=>?_)
    ·simp only[AM.ok]
     refine⟨by rw[AM.HM];lia,?_,AM.NF (by lia)⟩
     cases m with
     |true=>show U.length<=200;lia
     |false=>trivial
    ·simp only[AM.good,Bool.and_eq_true]
     refine⟨?_,AM.II I qt⟩
     cases m with
     |true=>show AM.Ke A U=true;unfold AM.Ke;rw[I]
     |false=>rfl
    ·simp only[AM.size];rw[AM.Ft];lia
    ·simp only[AM.deep];have:=AM.IJ U keys;lia
    ·cases e
     exact⟨_,rfl,by rw[AM.HM];lia⟩
  ·refine⟨_,rfl,J,_,0,_,rfl,rfl,B,Bo,rfl,_,rfl,AU (by decide+kernel) ?_⟩
   refine⟨_,rfl,J,_,0,_,rfl,rfl,B,Bo,rfl,_,rfl,Ab (by decide+kernel) ?_⟩
   obtain⟨a1,S,rfl,NZ,IV,r1⟩:=Uw.Qi
   have kl:S.length=ns.length:=by have:=congrArg List.length IV;simpa using this
   have j_:=YA
   simp only[Ak.CF]at j_
   obtain⟨ol,Zi,_,o4,_⟩:=j_
   simp only[Ak.wt]at bT
   have l1:=Ak.Dj xs
   have l2:=Ak.Cz xs
   refine⟨_,rfl,J,_,1,_,rfl,rfl,B,CI,a1,S,ns,rfl,NZ.up (sG _),IV,by lia,fun L ss H1 nL s1 fL pm st=>?_⟩
   have jt:=pm.length_eq
   refine⟨L,_,rfl,An.of fL,?_⟩
   generalize nC:ss.reverse=N
   have lrs:N.length=ss.length:=by rw[<-nC,List.length_reverse]
   have ndr:N.Nodup:=by rw[<-nC];exact(List.reverse_perm ss).nodup_iff.mpr (pm.nodup_iff.mpr Zi)
   have mem:∀k,k∈N↔k∈ns:=fun k=>by rw[<-nC,List.mem_reverse,pm.mem_iff]
   have rAt:∀{i:Nat},i<(ss.map V.str).length->(ss.map V.str)[(ss.map V.str).length-1-i]?=some (.str (N.getD i "")):=fun{i} Y=>by
    rw[List.length_map]at Y⊢
    have e:N[i]?=ss[ss.length-1-i]?:=by rw[<-nC,List.getElem?_reverse Y]
    rw[List.getElem?_map,<-e,List.getD_eq_getElem?_getD,AGS (by lia)]
    rfl
   refine PY G none (ss.map V.str).length (fun i=>.str (N.getD i "")) N (fun i c a=>c=(List.range i).map fun j=>(AM.Ic (U++[.inr (N.getD j "")])).pt) (by rw[List.length_map];lia) (fun D hD=>rfl) (fun i c a D e X hD g=>g) (fun l z=>nomatch z) (fun i c a Y s g=>⟨_,_,s.same.seq (An.of fL),rfl,Y,rAt Y⟩) (fun i c a v H' Y s g y=>?_) (fun c a s g=>⟨⟨_,s.same.seq (An.of fL)⟩,rfl⟩) (fun i c a R Y X g lu k=>?_) (fun D a qs Z c hD X d2 lq lu tt vl g=>?_)
   ·have:=y.2 _ (s.same.seq (An.of fL))
    rw[rAt Y]at this
    exact⟨(AGU this).symm,y.1⟩
   ·have s3:=s1.trans X.same
    refine⟨_,rfl,_,rfl,_,rfl,Ax,fun pk NS=>Kf (k:=.inr (N.getD i "")) (R:=fun x H5=>[V.str (N.getD i ""),x].length<=sizeLine/\∀t2,H5 t2=none->R (.ref t2) (upd H5 t2 (.tup [.str (N.getD i ""),x]))) (fun b h=>dG b (s3.free h)) (s3 _ _ ji) (by lia) NS fun t H4 s4 nt v4=>⟨Ad,fun t2 RM=>k _ _ H4 t2 (.of s4) v4 ?_ RM⟩⟩
    rw[g,List.range_succ,List.map_append]
    rfl
   ·have s3:=s1.trans X.same
    have eU:c=AM.CY (AM.Ff U (N.map Sum.inr)):=by
     rw[g,AM.AZ,List.length_map,<-lrs]
     unfold AM.Ff
     rw[List.map_map,List.map_map]
     refine List.ext_getElem (by simp) fun i h1 h2=>?_
     have Y:i<N.length:=by simpa using h1
     simp only[List.getElem_map,List.getElem_range,Function.comp]
     rw[List.getD_eq_getElem?_getD,AGS Y]
     rfl
    have lw:=vl.length
    rw[List.length_map]at lq lu
    have el:N.length=Z.length:=by lia
    refine⟨D,qs,CO N Z,rfl,An.of d2,by rw[EJ el];lia,fun j k v e=>?_,by rw[EJ el];lia,fun pd YB=>?_⟩
    ·obtain⟨x,h1,h2,h3⟩:=Mt e
     obtain⟨t,B⟩:∃t,qs[j]?=some t:=⟨_,AGS (by have:=(AGT h1).1;lia)⟩
     obtain⟨g2,g3⟩:=tt j t v B h2
     refine⟨t,B,?_⟩
     rw[g2,h3,List.getD_eq_getElem?_getD,h1]
     rfl
    rw[Fo el ndr]
    have s4:=AE.new (o:=.dK (CO N Z)) YB
    have f4:upd a pd (.dK (CO N Z)) pd=some (.dK (CO N Z)):=AF
    have bO:H pd=none:=s3.free YB
    generalize upd a pd (.dK (CO N Z))=H4 at s4 f4⊢
    have s34:=s3.trans s4
    rw[eU]at vl
    have jz:Aj (ov G H H4) Z (AM.CY (AM.Ff U (N.map Sum.inr))):=vl.up (BL (fun b h=>s1.free h) fun b o _ e=>s4 _ _ e)
    obtain⟨z,az,vz⟩:=tail_at (K:=K) hp (oG (H':=H4)) m
    dsimp only[BP]
    refine⟨_,rfl,_,rfl,Ad,fun q1 RP=>⟨_,rfl,J,_,3,.bl m,rfl,rfl,(B.up s34).up (AE.new RP),BA (j:=3) rfl,.inr ⟨m,rfl,q1,_,_,_,rfl,rfl,An.of AF,az,Dg,fun t qv=>?_⟩⟩⟩
    have s5:=AE.new (o:=.lst [V.Av,.ref p]) RP
    have f5:=s5 _ _ f4
    generalize upd H4 q1 (.lst [V.Av,.ref p])=H5 at s5 f5 qv⊢
    have up5:AE (ov G H H4) (ov G H H5):=BL (fun b h=>h) fun b o _ e=>s5 _ _ e
    have s35:=s34.trans s5
    refine q _ (.tab N (AM.Ff U (N.map Sum.inr)) (if m=true then some U else none)) _ (s35.trans (AE.new qv)) ⟨NI sG (fun b h=>s35.free h) bO el f5 (jz.up up5) (vz.up up5) qv,?_,?_,?_,?_⟩ (fun m_ mm e=>nomatch e)
    ·simp only[AM.ok]
     refine⟨by rw[AM.HM,List.length_map],ndr,by lia,?_,AM.NF (by lia)⟩
     cases m with
     |true=>show U.length<=200;lia
     |false=>trivial
    ·simp only[AM.good,Bool.and_eq_true]
     refine⟨?_,AM.II I fun k hk=>?_⟩
     ·cases m with
      |true=>
       show AM.HI A N U=true
       unfold AM.HI
       rw[I]
       simp only[Bool.true_and,List.all_eq_true]
       intro k hk
       show(decide (k∈ns)||decide (k∈ls))=true
       rw[decide_eq_true ((mem k).mp hk)]
       rfl
      |false=>rfl
     ·obtain⟨y,hy,rfl⟩:=List.mem_map.mp hk
      obtain⟨x,hx⟩:=JI ol ((mem y).mp hy)
      show(lk ns xs y).isSome=true
      rw[hx]
      rfl
    ·simp only[AM.size];rw[AM.Ft,List.length_map];lia
    ·simp only[AM.deep];have:=AM.IJ U (N.map Sum.inr);lia
theorem Xj:Al ["_law_cell_here","_law_k","_law_told_here","_law_word","_law_some"] ["_law_cell_here","_law_k","_law_told_here","_law_word"] (AI ME):={}
theorem Zk {f:Addr} {fd:FuncData} (F:DN K "_law_open" "_law_open" ME f fd) (T:Txt mg) (X:Df P w K mg base "_law_mix" ["_law_cell_here","_law_k"] 1 EE):BH P w K mg base Cs 2 f fd ["_law_cell_here","_law_k","_law_told_here","_law_word"] Su:=by
 obtain⟨Py,Pz,I,J,M,N⟩:=X.ex
 refine F.ok Xj (fun vs H Q E h=>?_) (fun Gm A outer s H vs Q E hr h=>?_)
 ·obtain⟨G,c,k,D,x,A,ws,rfl,hk,Z,hA,hT,O,q0,q1⟩:=h
  rfl
 ·obtain⟨G,c,k,D,x,A,ws,rfl,hk,Z,hA,hT,O,q0,q1⟩:=h
  have nd:=Xj.nd
  have hu:=BQ hr
  have l:Ao 1 _:=hr.mm
  refine⟨_,(AD (Ia (i:=4) (fv:=["_law_word"]) (fs:=[3]) rfl (.of (by rfl)) nd rfl (Or.inl rfl) (Bg (pv 2)) (fun C s0 H0 fp=>Fi (PW.pt (pw_and (AO BD (Br K 1) (pv 2) (AS _)) (pw_and1 (Bd (Az (r:=MX K) GL (pv 1) (Rb MP AG) (fun _ _=>rfl))))))) (fun C s0 H0 fp=>(pv 0)))
   (AD (Ap (PW.pt (pw_or (AO (QZ (Ao.JY hr)) (pv 4) (A_ AB) (AS _)) (pw_or1 (AO BD (AN Aq (AK N l rfl M I J .nil AX (AA (pv 0) (AA (pv 1) AB))) AG) AG (AS _))))) (AH (AQ CL)) AV)
   (AH (AQ (Az (r:=Bp K) Ae (pv 4) (AN Aq (AN Bh (AK N l rfl M I J .nil AX (AA (pv 0) (AA (pv 1) AB))) AG) (AY Ag rfl T.len PySem.boot_len (AA (pv 4) AB))) (fun _ _=>rfl)))))),?_⟩
  obtain⟨a,rfl,Zl⟩:=hT.ents
  have hD:=Z _ _ hT.at_
  have lE:a.length<=900:=by have:=hT.len;rw[List.length_map]at this;exact this
  have ix:∀{i:Nat},i<a.length->a[i]?=some (a.getD i default):=fun{i} h=>by rw[List.getD_eq_getElem?_getD,AGS h];rfl
  have q:∀{i:Nat},i<a.length->dX (K:=K) G A (a.getD i default):=fun h=>Zl _ (AGV (ix h))
  have lt:∀{i:Nat},i<a.length->(a.map fun e=>V.ref e.t)[i]?=some (.ref (a.getD i default).t):=fun h=>by rw[List.getElem?_map,ix h];rfl
  refine⟨_,rfl,D,rfl,⟨_,An.of hD⟩,?_⟩
  refine KX (n:=a.length) (fun i=>(a.getD i default).t) (fun i=>.ref (a.getD i default).p) (fun i=>(a.getD i default).u) (fun i=>.ref (a.getD i default).p) (fun i=>NH x (a.getD i default).b) (Ah (by omega))
   (fun i B U j g=>⟨_,_,(AE.new g).seq (An.of hD),lt j⟩) (fun i B U v H' j g y=>?_) (fun i B U j g=>.of ((AE.new g) _ _ (Z _ _ (q j).tp))) (fun B U g=>⟨_,(AE.new g).seq (An.of hD),by rw[List.length_map];exact Nat.le_refl _⟩)
   (fun i B U R j g r=>?_) (fun i B U R j g _ r=>⟨_,rfl,r⟩) fun B g=>?_
  ·obtain⟨e,yl⟩:=y
   have:=yl _ ((AE.new g).seq (An.of hD))
   rw[lt j]at this
   exact⟨(AGU this).symm,e⟩
  ·obtain⟨t0,w1,rest,eu,ht,cs⟩:=(((q j).val.up Z).up (AE.new (o:=.lst U) g)).ak
   rw[eu]
   refine⟨_,rfl,t0,_,0,.str w1,rfl,rfl,ht,Bo,_,rfl,rfl,_,rfl,?_⟩
   generalize hb:(a.getD i default).b=b at cs r⊢
   rcases cs with⟨rfl,rfl,rfl⟩|⟨d,u,rfl,rfl,rfl,_⟩|⟨xs,m,u,rfl,rfl,rfl,_⟩|⟨ks,xs,ls,m,u,z,rfl,rfl,rfl,_⟩
   ·refine AU ?_ r
    rcases O with rfl|rfl<;>decide+kernel
   ·refine AU ?_ r
    rcases O with rfl|rfl<;>decide+kernel
   ·refine Bj (fun h=>?_) (fun h=>?_)
    ·refine⟨_,rfl,1,rfl,t0,_,_,_,rfl,rfl,ht,Gh [.str "row",u] (.bl m),_,rfl,?_⟩
     have e:NH x (.row xs m)=m:=by show(decide _&&m)=m;rw[h];rfl
     rw[e]at r
     exact r
    ·have e:NH x (.row xs m)=false:=by show(decide _&&m)=false;rw[h];rfl
     rw[e]at r
     exact r
   ·refine Bj (fun h=>?_) (fun h=>?_)
    ·refine⟨_,rfl,1,rfl,t0,_,_,_,rfl,rfl,ht,Gh [.str "table",u,z] (.bl m),_,rfl,?_⟩
     have e:NH x (.tab ks xs ls m)=m:=by show(decide _&&m)=m;rw[h];rfl
     rw[e]at r
     exact r
    ·have e:NH x (.tab ks xs ls m)=false:=by show(decide _&&m)=false;rw[h];rfl
     rw[e]at r
     exact r
  dsimp only
  have Y:∀v∈List.map (fun i=>V.ref (a.getD i default).p) (List.filter (fun i=>NH x (a.getD i default).b) (List.range a.length)),∃i,i<a.length/\v=.ref (a.getD i default).p/\NH x (a.getD i default).b=true:=fun v hv=>by
   obtain⟨i,j,rfl⟩:=List.mem_map.mp hv
   obtain⟨h1,h2⟩:=List.mem_filter.mp j
   exact⟨i,List.mem_range.mp h1,rfl,h2⟩
  generalize List.map (fun i=>V.ref (a.getD i default).p) (List.filter (fun i=>NH x (a.getD i default).b) (List.range a.length))=L at Y⊢
  obtain⟨H1,eH,s1,f1⟩:=BZ (o:=.lst L) g
  rw[eH];clear eH
  refine⟨_,rfl,Nat.zero_le _,fun pe Uv=>?_⟩
  have s2:=AE.new (o:=.lst []) Uv
  refine⟨B,pe,L,rfl,rfl,An.of (s2 _ _ f1),An.of AF,_,rfl,?_⟩
  have f2:=s2 _ _ f1
  generalize upd H1 pe (.lst [])=H2 at s2 f2⊢
  have S:=s1.trans s2
  cases L with
  |nil=>exact Cr (Cr (q0 H2 S))
  |cons v0 L0=>
   refine BK ?_
   refine⟨_,rfl,_,rfl,c,k,rfl,by omega,fun r _ _=>⟨_,_,rfl,rfl,(by show(0:Int)<_;decide),rfl,_,rfl,?_⟩⟩
   refine Bj (fun _=>q0 H2 S) (fun _=>?_)
   refine⟨_,rfl,_,rfl,_,rfl,c,k,rfl,by omega,fun r2 _ _=>⟨_,_,rfl,rfl,⟨by decide,by decide⟩,_,rfl,B,_,rfl,.inl (An.of f2),_,_,rfl,rfl,(by show(0:Int)<_;simp only[List.length_cons];omega),?_⟩⟩
   have mb:=Cw (r2/4) (n:=((v0::L0).length:Int)) (by simp only[List.length_cons];omega)
   obtain⟨v,hv,mv⟩:=Cd (xs:=v0::L0) mb.1 mb.2
   obtain⟨i,j,rfl,ho⟩:=Y v mv
   exact⟨B,_,_,_,rfl,rfl,An.of f2,hv,q1 _ (a.getD i default).ks (a.getD i default).b H2 S ⟨⟨_,_,List.mem_map.mpr ⟨_,AGV (ix j),rfl⟩,(q j).tp⟩,(q j).PZ,(q j).sub⟩ (Ui ho)⟩
theorem TN:Al ["_law_cells","_law_cell_here","_law_deep","_law_told_here","_law_names_here","_law_rest","_law_known","_law_inner","_law_k","_law_way","_law_free"] ["_law_cells","_law_cell_here","_law_deep","_law_told_here","_law_names_here"] (AI GY):={}
theorem Xk {n:Nat} {f:Addr} {fd:FuncData} (F:DN K "_law_table" "_law_table" GY f fd) (T:Txt mg) (Ku:Df P w K mg base "_law_mix" ["_law_cell_here","_law_k"] 1 EE) (Xl:Df P w K mg base "_law_open" ["_law_cell_here","_law_k","_law_told_here","_law_word"] 2 Su) (S:Df P w K mg base "_law_makes" ["_law_cells","_law_deep","_law_told_here","_law_names_here"] n (HP n)):BH P w K mg base Cs (n+1) f fd ["_law_cells","_law_cell_here","_law_deep","_law_told_here","_law_names_here"] (NJ (n+1)):=by
 obtain⟨Py,Pz,Zm,NT,NU,Kt⟩:=Ku.ex
 obtain⟨kA,kB,Xm,bOpen,Xn,Xo⟩:=Xl.ex
 obtain⟨Xp,Xq,U,X,Y,Z⟩:=S.ex
 refine F.ok TN (fun vs H Q E h=>?_) (fun Gm A outer s H vs Q E hr h=>?_)
 ·obtain⟨G,A,l,D,nm,ws,ys,cs,c,d,rfl,j,qw,q⟩:=h
  rfl
 ·obtain⟨G,A,l,D,nm,ws,ys,cs,c,d,rfl,j,qw,q⟩:=h
  have nd:=TN.nd
  have hu:=BQ hr
  have TQ:Ao 1 _:=hr.mm
  have RQ:Ao 2 _:=hr.mm
  have N:Ao n _:=hr.mm
  refine⟨_,(AD (Ai 5 nd (AK Xo RQ rfl Xn Xm bOpen .nil AX (AA (pv 1) (AA AG (AA (pv 3) (AA AR AB))))))
   (AD (Ai 6 nd (BR (D' rfl (Ao.units hr)) rfl T.dict Ce (AA (pv 3) AB)))
   (AD (Ai 7 nd Dv)
   (AD (CM PassesOwn.never rfl (BJ rfl T.range (AA AG AB)) (C_ 8 nd) (AD (Ai 9 nd (AN Aq (AN Bh (AK Kt TQ rfl NU Zm NT .nil AX (AA (pv 1) (AA AG AB))) (Az (r:=Bp K) Ae (A_ (AA AG (AA AG (AA AG (AA AG AB))))) (pv 8) (fun _ _=>rfl))) AG))
   (AD (Ai 10 nd (Nh (CH JU (pv 5) CL (AS _)) (Nh (VC (QS hu (Az (r:=Bp K) Ae (pv 4) (pv 8) (fun _ _=>rfl)) (Az (r:=MX K) GL (Bw hu (pv 6) (pv 5) (fun _ _=>rfl)) AG (fun _ _=>rfl)))) (Em (CH (Fg:EL _ _ (cF K false)) (Az (r:=Bp K) Ae (pv 4) (pv 8) (fun _ _=>rfl)) (Az (r:=MX K) GL (Bw hu (pv 6) (pv 5) (fun _ _=>rfl)) AG (fun _ _=>rfl)) rfl)))))
   (AD (Ap (PW.pt (pw_and (AO LS (pv 9) AG (AS _)) (pw_and (AO MS (pv 5) CL (AS _)) (pw_and1 (QE (QS hu (Az (r:=Bp K) Ae (pv 4) (pv 8) (fun _ _=>rfl)) (Az (r:=MX K) GL (Bw hu (pv 6) (pv 5) (fun _ _=>rfl)) AG (fun _ _=>rfl)))))))) (AH (Gk hu (pv 7) (Az (r:=Bp K) Ae (pv 4) (pv 8) (fun _ _=>rfl)) (Aa (AA AR (AA (AN CK (pv 5) (Aa (AA (Az (r:=Bp K) Ae (pv 4) (pv 8) (fun _ _=>rfl)) AB))) AB))) rfl)) AV)
   (AH (Ap (PW.pt (pw_and (AO BD (pv 9) AG (AS _)) (pw_and1 (Bd (pv 10))))) (AH (Gk hu (pv 7) (Az (r:=Bp K) Ae (pv 4) (pv 8) (fun _ _=>rfl)) (AK Z N rfl Y U X .nil AX (AA (pv 0) (AA (AN GH (pv 2) AG) (AA (pv 3) (AA (pv 4) AB))))) rfl)) AV))))))
   (AH (AQ (Aa (AA AR (AA (pv 7) (AA (pv 5) AB)))))))))),?_⟩
  have sG:=j.sG
  have hl:=j.hl
  have Hl:H l≠none:=by rw[hl];exact fun z=>nomatch z
  have ed:(((d+1:Nat):Int)-1)=(d:Int):=by lia
  refine Ew (t:=QH (Ri _ _ _ _) _) (fun B H1=>∃(rv:V) (J lt:List Str) (o:Option (List Key)),B=[some (.ref l),some (.int c),some (.int ((d+1:Nat):Int)),some (.ref D),some (.ref nm),some rv,none,none,none,none,none]/\AE H H1/\dY G A ws rv J lt o) ?_ ?_
  rotate_left
  ·intro go
   refine⟨_,rfl,_,rfl,G,c,3,D,"table",A,ws,rfl,by decide,sG,j.as,j.td,.inr rfl,fun H1 s1=>go _ _ ⟨.Av,[],[],none,rfl,s1,.inl ⟨rfl,rfl⟩⟩,fun p a b H1 s1 pk op=>?_⟩
   rcases op with⟨e,_⟩|⟨_,J,xs,lt,rfl⟩
   ·exact absurd e (by decide)
   ·exact go _ _ ⟨.ref p,J,lt,some a,rfl,s1,.inr ⟨p,a,xs,rfl,rfl,pk⟩⟩
  rintro B H1 ⟨rv,J,lt,o,rfl,s1,ro⟩
  refine⟨_,rfl,GX j.td (sG.trans s1) fun M H2 s2 n5 kn=>?_⟩
  dsimp only[BP]
  refine fun C Ze=>?_
  have S2:=s1.trans s2
  have t6:=AE.new (o:=.dK []) Ze
  have f6:upd H2 C (.dK []) C=some (.dK []):=AF
  have n6:H C=none:=S2.free Ze
  generalize upd H2 C (.dK [])=H6 at t6 f6⊢
  have S6:=S2.trans t6
  have nE:=sG.trans S6
  have kn6:Known (K:=K) G H6 A ws M:=kn.up fun o e=>t6 _ _ e
  have p56:M≠C:=fun z=>by obtain⟨kvs,h,_⟩:=kn;rw[z,Ze]at h;cases h
  have p5l:M≠l:=fun z=>by rw[z]at n5;exact Hl (s1.free n5)
  have p6l:C≠l:=fun z=>Hl (by rw[<-z];exact n6)
  have h66:H6 C≠none:=by rw[f6];exact fun z=>nomatch z
  have h6l:H6 l≠none:=by rw[S6 _ _ hl];exact fun z=>nomatch z
  have g6:G C=none:=sG.free n6
  have gl:=j.nl
  have l4:=j.nm.len
  have mbp:=XI d
  have T0:X' (K:=K) G H6 A l C ys (fun y=>∀a,o=some a->AM.DB J lt y=true) (Mb d) (d+2) cs.length H6 [] [] [] cs:={kp:=fun b e _ _ h=>h,dm:=fun b h=>h,e6:=f6,el:=S6 _ _ hl,le:=Nat.le_refl _,lw:=rfl,nk:=.nil,vl:=.nil,ms:=fun u h=>(nomatch h),iy:=fun k h=>(nomatch h),tl:=fun k h=>(nomatch h)}
  have kC:∀{R:Hp} {a:List Str} {g:List V} {us:List Pt} {LJ:List Int},X' (K:=K) G H6 A l C ys (fun y=>∀a,o=some a->AM.DB J lt y=true) (Mb d) (d+2) cs.length R a g us LJ->AE G R:=fun T b e h=>T.kp b e (fun z=>by rw[z,gl]at h;cases h) (fun z=>by rw[z,g6]at h;cases h) (nE _ _ h)
  refine⟨4,rfl,by decide,by decide,Ci (lo:=0) (n:=4) (fun i σ R=>∃(a:List Str) (g:List V) (us:List Pt) (LJ:List Int) (o8 o9 o10:Option V),σ=[some (.ref l),some (.int c),some (.int ((d+1:Nat):Int)),some (.ref D),some (.ref nm),some rv,some (.ref M),some (.ref C),o8,o9,o10]/\X' (K:=K) G H6 A l C ys (fun y=>∀a,o=some a->AM.DB J lt y=true) (Mb d) (d+2) cs.length R a g us LJ)
   ⟨[],[],[],cs,none,none,none,rfl,T0⟩ ?_ ?_⟩
  ·rintro i σ R hi ⟨nF,ws0,qx,L,o8,o9,o10,rfl,T⟩
   obtain⟨y,hy⟩:∃y,ys[i]?=some y:=⟨_,AGS (by rw[l4];exact hi)⟩
   have ym:=AGV hy
   have ay:Ja (ys.map V.str) (0+(i:Int))=some (.str y):=by
    have e0:(0:Int)+(i:Int)=(i:Int):=by lia
    rw[e0]
    exact BA (by rw[List.getElem?_map,hy];rfl)
   obtain⟨v4,eO,jo⟩:=Cd (xs:=[V.int 1,V.int 4,V.int 16,V.int 64]) (i:=0+(i:Int)) (by lia) (by simp only[List.length_cons,List.length_nil];lia)
   have vb:∃m:Int,v4=.int m/\0<m/\m<1073741824:=by
    simp only[List.mem_cons,List.not_mem_nil,or_false]at jo
    rcases jo with rfl|rfl|rfl|rfl<;>exact⟨_,rfl,by decide,by decide⟩
   obtain⟨m,rfl,gW,gX⟩:=vb
   refine⟨_,rfl,c,4,rfl,by decide,fun r1 _ _=>⟨Ah (show 4<=1000 by decide),fun pl dB=>⟨_,rfl,pl,_,_,_,rfl,rfl,An.of AF,eO,_,_,rfl,rfl,⟨gW,gX⟩,_,_,rfl,rfl,(by show(0:Int)<_;decide),?_⟩⟩⟩
   have T1:=T.up (AE.new (o:=.lst [V.int 1,V.int 4,V.int 16,V.int 64]) dB)
   generalize upd R pl (.lst [V.int 1,V.int 4,V.int 16,V.int 64])=Hj at T1⊢
   clear T
   generalize r1/m % 4=wy
   dsimp only[BP]
   have I:=kC T1
   have O:=j.nm.up I
   have knj:Known (K:=K) G Hj A ws M:=kn6.up fun o e=>T1.kp _ _ p5l p56 e
   refine Ew (t:=QH (gy _ _) _) (fun B H'=>∃fb:Bool,B=[some (.ref l),some (.int c),some (.int ((d+1:Nat):Int)),some (.ref D),some (.ref nm),some rv,some (.ref M),some (.ref C),some (.int (0+(i:Int))),some (.int wy),some (.bl fb)]/\H'=Hj/\(fb=true->∀a,o=some a->AM.DB J lt y=true)) ?_ ?_
   rotate_left
   ·intro go
    rcases ro with⟨rfl,rfl⟩|⟨p,a,xs,rfl,rfl,pk⟩
    ·exact⟨_,rfl,rfl,_,rfl,Ab rfl (go _ _ ⟨true,rfl,rfl,fun _ a e=>nomatch e⟩)⟩
    ·obtain⟨kvs,t1,a1,l1,Sr,k1,k2,k3,k4,k5,k6⟩:=(knj.at I pk).ex
     have dg:Jc Hj M (.ref p) (some (.ref t1)):=.inr ⟨kvs,a,p,.inl k1,rfl,I _ _ pk.PZ,k2.symm⟩
     refine⟨_,rfl,rfl,_,rfl,AU rfl ?_⟩
     refine⟨_,rfl,_,rfl,nm,_,_,_,rfl,rfl,An.of O.at_,ay,_,rfl,_,rfl,M,_,rfl,dg,t1,_,1,_,rfl,rfl,k3,CI,a1,_,rfl,.inl ⟨Sr,Sum.inr y,k4,rfl,rfl⟩,_,rfl,?_⟩
     rw[k5]
     refine Bj (fun h=>?_) (fun h=>?_)
     ·refine go _ _ ⟨true,rfl,rfl,fun _ qe _=>?_⟩
      show(decide (y∈J)||decide (y∈lt))=true
      rw[h]
      rfl
     ·refine⟨_,rfl,_,rfl,nm,_,_,_,rfl,rfl,An.of O.at_,ay,_,rfl,_,rfl,M,_,rfl,dg,t1,_,2,_,rfl,rfl,k3,at2,l1,_,rfl,.inl (.inl k6),rfl,(by rw[List.all_eq_true];intro z hz;obtain⟨y,_,rfl⟩:=List.mem_map.mp hz;rfl),?_⟩
      refine go _ _ ⟨Nu (.str y) (lt.map V.str),rfl,rfl,fun hh qe _=>?_⟩
      rw[Dy]at hh
      show(decide (y∈J)||decide (y∈lt))=true
      rw[hh,Bool.or_true]
   rintro B H' ⟨fb,rfl,rfl,hfb⟩
   refine Ew (t:=MN _ _ _) (fun B H'=>∃(a:List Str) (g:List V) (us:List Pt),B=[some (.ref l),some (.int c),some (.int ((d+1:Nat):Int)),some (.ref D),some (.ref nm),some rv,some (.ref M),some (.ref C),some (.int (0+(i:Int))),some (.int wy),some (.bl fb)]/\X' (K:=K) G H6 A l C ys (fun y=>∀a,o=some a->AM.DB J lt y=true) (Mb d) (d+2) cs.length H' a g us L) ?_ ?_
   rotate_left
   ·intro go
    have out:=go _ _ ⟨nF,ws0,qx,rfl,T1⟩
    refine⟨_,rfl,_,_,rfl,rfl,_,rfl,Bj (fun h1=>?_) (fun _=>BK out)⟩
    rcases ro with⟨rfl,rfl⟩|⟨p,a,xs,rfl,rfl,pk⟩
    ·exact⟨_,rfl,rfl,_,rfl,AU rfl (BK out)⟩
    ·obtain⟨kvs,t1,a1,l1,Sr,k1,k2,k3,k4,k5,k6⟩:=(knj.at I pk).ex
     have dg:Jc H' M (.ref p) (some (.ref t1)):=.inr ⟨kvs,a,p,.inl k1,rfl,I _ _ pk.PZ,k2.symm⟩
     refine⟨_,rfl,rfl,_,rfl,Ab rfl ?_⟩
     refine⟨_,rfl,_,rfl,nm,_,_,_,rfl,rfl,An.of O.at_,ay,_,rfl,_,rfl,M,_,rfl,dg,t1,_,1,_,rfl,rfl,k3,CI,a1,_,rfl,.inl ⟨Sr,Sum.inr y,k4,rfl,rfl⟩,_,rfl,?_⟩
     rw[k5]
     refine Bj (fun hin=>?_) (fun _=>out)
     obtain⟨l20,YA,qr,bT,jx⟩:=j.as.len pk.sub
     have yk:=of_decide_eq_true hin
     have gd:AM.good A (.Ic (a++[.inr y]))=true:=by
      simp only[AM.good]
      rw[AM.sub_snoc pk.sub]
      simp only[Ak.CF]at YA
      obtain⟨x,hx⟩:=JI YA.1 yk
      show(lk J xs y).isSome=true
      rw[hx]
      rfl
     refine⟨_,rfl,_,rfl,_,rfl,nm,_,_,_,rfl,rfl,An.of O.at_,ay,Ax,fun qy Zn=>⟨p,qy,_,_,rfl,rfl,(AE.new Zn) _ _ (I _ _ pk.PZ),AF,Ah (by simp only[List.length_map,List.length_singleton];lia),fun p7 H7 s7 f7 n7=>⟨Ad,fun t ht=>?_⟩⟩⟩
     obtain⟨s4,nt,v4⟩:=Pa (K:=K) (G:=G) (k:=.inr y) (fun b h=>I.free h) Zn s7 f7 n7 ht
     generalize upd H7 t (.tup [.str "from",.ref p7])=H4 at s4 v4⊢
     obtain⟨g1,g2,qz,g,q_,g3,T2⟩:=T1.put l4 h66 h6l p6l (.of s4) (s4 _ _ T1.el) (Nat.le_refl _) v4 (by simp only[AM.ok,List.length_append,List.length_singleton];lia) gd (by simp only[AM.size];exact mbp) (by simp only[AM.deep];lia) ym (fun qe _=>by show(decide (y∈J)||decide (y∈lt))=true;rw[hin];rfl)
     refine⟨_,rfl,_,rfl,_,rfl,nm,_,_,_,rfl,rfl,An.of (s4 _ _ O.at_),ay,C,_,rfl,.inl ⟨_,Sum.inr y,g1,rfl,BG (Nat.le_of_lt g2),rfl⟩,?_⟩
     rw[g3]
     exact go _ _ ⟨qz,g,q_,rfl,T2⟩
   rintro B Hk ⟨ks1,ws1,us1,rfl,T2⟩
   have sGk:=kC T2
   have hnk:=j.nm.up sGk
   have qO:=T2.le
   have lc:=j.lc
   refine⟨_,rfl,rfl,_,rfl,Bj (fun h1=>?_) (fun _=>BK ⟨ks1,ws1,us1,L,_,_,_,rfl,T2⟩)⟩
   refine⟨_,rfl,_,rfl,Bj (fun hf=>?_) (fun _=>⟨ks1,ws1,us1,L,_,_,_,rfl,T2⟩)⟩
   refine⟨_,rfl,_,rfl,_,_,rfl,rfl,_,rfl,_,rfl,G,A,l,D,nm,ws,ys,L,d,by rw[ed];rfl,⟨sGk,gl,j.as,j.td,j.nm,T2.el,by lia⟩,by lia,fun v mm gT H' bt el le md=>?_⟩
   obtain⟨g1,g2,qz,g,q_,g3,T3⟩:=T2.put l4 h66 h6l p6l bt el le md.val md.ok md.gd md.sz md.dp ym (hfb hf)
   have hnl:nm≠l:=fun z=>by have:=j.nm.at_;rw[z,gl]at this;cases this
   refine⟨_,rfl,_,rfl,_,rfl,nm,_,_,_,rfl,rfl,An.of (hnk.but bt hnl).at_,ay,C,_,rfl,.inl ⟨_,Sum.inr y,g1,rfl,BG (Nat.le_of_lt g2),rfl⟩,?_⟩
   rw[g3]
   exact⟨qz,g,q_,gT,_,_,_,rfl,T3⟩
  ·rintro σ R ⟨nF,ws0,qx,L,o8,o9,o10,rfl,T⟩
   refine⟨_,rfl,_,rfl,Dg,fun t ht=>?_⟩
   obtain⟨ms,rfl,m1,m2,m3,m4⟩:=XJ qx T.ms
   have k4:=HN T.nk T.iy
   have lv:=T.vl.length
   rw[AM.AZ,List.length_map]at lv
   have lw:=T.lw
   have up:AE (ov G H6 R) (ov G H R):=BL (fun b h=>S6.free h) fun b o _ e=>e
   have vz:Val (ov G H R) rv (GW o):=by
    rcases ro with⟨rfl,rfl⟩|⟨p,a,xs,rfl,rfl,pk⟩
    ·exact .Av
    ·exact CU (.of (DE _ _ pk.PZ))
   have m5:AM.AL ms<=4*Mb d:=Nat.le_trans m3 (Nat.mul_le_mul_right _ (by lia))
   refine q _ (.tab nF ms o) L _ ⟨fun b e n h=>(AE.new ht) _ _ (T.kp b e (fun z=>n (by rw[z])) (fun z=>by rw[z,n6]at h;cases h) (S6 _ _ h)),fun b h=>S6.free (T.dm b ((AE.new ht).free h))⟩ ((AE.new ht) _ _ T.el) T.le ⟨NI sG (fun b h=>S6.free (T.dm b h)) n6 T.lw T.e6 (T.vl.up up) vz ht,?_,?_,?_,?_⟩
   ·simp only[AM.ok]
    refine⟨by lia,T.nk,by lia,?_,m1⟩
    rcases ro with⟨rfl,rfl⟩|⟨p,a,xs,rfl,rfl,pk⟩
    ·trivial
    ·have:=(j.as.len pk.sub).1
     show a.length<=200
     lia
   ·simp only[AM.good,Bool.and_eq_true]
    refine⟨?_,m2⟩
    rcases ro with⟨rfl,rfl⟩|⟨p,a,xs,rfl,rfl,pk⟩
    ·rfl
    ·show AM.HI A nF a=true
     unfold AM.HI
     rw[pk.sub]
     simp only[Bool.true_and,List.all_eq_true]
     exact fun k hk=>T.tl k hk a rfl
   ·simp only[AM.size,Mb]
    lia
   ·simp only[AM.deep]
    lia
theorem TR:Al ["_law_cells","_law_deep","_law_told_here","_law_names_here","_law_cell_here","_law_kind","_law_path","_law_there","_law_tail","_law_inner"] ["_law_cells","_law_deep","_law_told_here","_law_names_here"] (AI GZ):={}
theorem Xr {n:Nat} {f:Addr} {fd:FuncData} (F:DN K "_law_makes" "_law_makes" GZ f fd) (T:Txt mg) (Ku:Df P w K mg base "_law_mix" ["_law_cell_here","_law_k"] 1 EE) (eG:Df P w K mg base "_law_doc" ["_law_cell_here","_law_k","_law_names_here"] 2 KA) (rA:Df P w K mg base "_law_out" ["_law_path","_law_there"] 2 RG) (Xl:Df P w K mg base "_law_open" ["_law_cell_here","_law_k","_law_told_here","_law_word"] 2 Su) (eV:Df P w K mg base "_law_table" ["_law_cells","_law_cell_here","_law_deep","_law_told_here","_law_names_here"] n (NJ n)) (RS:Df P w K mg base "_law_makes" ["_law_cells","_law_deep","_law_told_here","_law_names_here"] n (HP n)):BH P w K mg base Cs (n+1) f fd ["_law_cells","_law_deep","_law_told_here","_law_names_here"] (HP (n+1)):=by
 obtain⟨Py,Pz,Z,NT,NU,Kt⟩:=Ku.ex
 obtain⟨fDoc,qi,eI,eJ,eK,eM⟩:=eG.ex
 obtain⟨ADP,ADQ,kD,kE,kF,kG⟩:=rA.ex
 obtain⟨kA,kB,Xm,bOpen,Xn,Xo⟩:=Xl.ex
 obtain⟨rB,rC,eW,eX,eY,eZ⟩:=eV.ex
 obtain⟨Xp,Xq,RT,RU,RV,RW⟩:=RS.ex
 refine F.ok TR (fun vs H Q E h=>?_) (fun Gm A outer s H vs Q E hr h=>?_)
 ·obtain⟨G,A,l,D,nm,ws,ys,cs,d,rfl,g,qw,q⟩:=h
  rfl
 ·obtain⟨G,A,l,D,nm,ws,ys,cs,d,rfl,g,qw,q⟩:=h
  have nd:=TR.nd
  have hu:=BQ hr
  have B:Ao 1 _:=hr.mm
  have Xf:Ao 2 _:=hr.mm
  have bU:Ao 2 _:=hr.mm
  have RQ:Ao 2 _:=hr.mm
  have Zo:Ao n _:=hr.mm
  have NV:Ao n _:=hr.mm
  refine⟨_,(AD (Ai 4 nd AG)
   (AD (Ap (AO (Vm (Ao.JY hr)) (pv 0) (A_ AB) (AS _)) (AH (Ai 4 nd (FQ (FF PySem.F.plainAttrs_list PySem.F.slot_list_pop PySem.F.type_list_pop Nz (pv 0) (AA AG AB)) (OE (pv 0) AG ⟨rfl,rfl,rfl,rfl⟩)))) AV)
   (AD (Ai 5 nd (AN Aq (AK Kt B rfl NU Z NT .nil AX (AA (pv 4) (AA AG AB))) AG))
   (AD (QI (Az (r:=Bp K) Ae (pv 2) (AN Aq (AK Kt B rfl NU Z NT .nil AX (AA (pv 4) (AA AG AB))) (AY Ag rfl T.len PySem.boot_len (AA (pv 2) AB))) (fun _ _=>rfl)) (QG rfl (EW (C_ 6 nd) (EW (C_ 7 nd) MO))))
   (AD (Ap (PW.pt (pw_or (AO BD (pv 5) AG (AS _)) (pw_or1 (AO BD (pv 1) AG (AS _))))) (AH (AQ (Aa (AA AR (AA (pv 6) AB))))) AV)
   (AD (Ap (AO BD (pv 5) AG (AS _)) (AH (AQ (Aa (AA AR (AA (AK eM Xf rfl eK eI eJ .nil AX (AA (pv 4) (AA AG (AA (pv 3) AB)))) AB))))) AV)
   (AD (Ap (AO LR (pv 5) AG (AS _)) (AH (AQ (AK kG bU rfl kF kD kE .nil AX (AA (pv 6) (AA (pv 7) AB))))) AV)
   (AD (Ap (AO LS (pv 5) AG (AS _)) (AH (AQ (AK eZ Zo rfl eY eW eX .nil AX (AA (pv 0) (AA (pv 4) (AA (pv 1) (AA (pv 2) (AA (pv 3) AB)))))))) AV)
   (AD (Ai 8 nd (AK Xo RQ rfl Xn Xm bOpen .nil AX (AA (pv 4) (AA AG (AA (pv 2) (AA AR AB))))))
   (AD (GN (i:=9) (fv:=["_law_cells","_law_told_here","_law_names_here","_law_deep"]) (fs:=[0,2,3,1]) rfl (.of (by rfl)) nd rfl (Or.inl rfl) (BJ rfl T.range (AA (AN Aq (AK Kt B rfl NU Z NT .nil AX (AA (pv 4) (AA AG AB))) AG) AB)) (fun _ _ _ _=>BV) (fun C s0 H0 fp=>(AK RW NV rfl RV RT RU .nil AX (AA (pv 1) (AA (AN GH (pv 4) AG) (AA (pv 2) (AA (pv 3) AB)))))))
   (AD (Ap (PW.pt (pw_and (AO MS (pv 8) CL (AS _)) (pw_and1 (AO BD (AN Aq (AK Kt B rfl NU Z NT .nil AX (AA (pv 4) (AA AG AB))) AG) AG (AS _))))) (AH (Ai 9 nd (AN My (Az (r:=MX K) GL (AK kG bU rfl kF kD kE .nil AX (AA (pv 8) (AA (Bw hu (BR (D' rfl (Ao.units hr)) rfl T.dict Ce (AA (pv 2) AB)) (pv 8) (fun _ _=>rfl)) AB))) AG (fun _ _=>rfl)) (DR (r:=VS K) JD (pv 9) (Dh AG) Ep)))) AV)
   (AH (AQ (Aa (AA AR (AA (pv 9) (AA (pv 8) AB))))))))))))))))),?_⟩
  have sG:=g.sG
  have hl:=g.hl
  have gl:=g.nl
  have l4:=g.nm.len
  have Hl:H l≠none:=by rw[hl];exact fun z=>nomatch z
  refine i_ ?_
  refine Ew (t:=MN _ _ _) (fun L H1=>∃(c:Int) (S:List Int),L=[some (.ref l),some (.int (d:Int)),some (.ref D),some (.ref nm),some (.int c),none,none,none,none,none]/\Bt (some l) H H1/\H1 l=some (.lst (S.map V.int))/\S.length<=cs.length) ?_ ?_
  rotate_left
  ·intro go
   refine⟨_,rfl,Nat.zero_le _,fun pe Uv=>⟨l,pe,_,rfl,rfl,An.of ((AE.new Uv) _ _ hl),An.of AF,_,rfl,?_⟩⟩
   have se:=AE.new (o:=.lst []) Uv
   generalize upd H pe (.lst [])=H1 at se⊢
   have Xz:=se _ _ hl
   cases cs with
   |nil=>exact BK (go _ _ ⟨1013,[],rfl,.of se,Xz,Nat.le_refl _⟩)
   |cons c cs=>
    refine Cr (.inl ⟨_,rfl,.inl ⟨rfl,_,An.of Xz⟩,l,_,0,0,.int c,rfl,rfl,Xz,by decide,by decide,(Gg (by unfold QN;rw[if_pos (by decide),if_pos (by simp)];rfl)).1,rfl,?_⟩)
    exact go _ _ ⟨c,cs,rfl,(Bt.of se).put,AF,by simp⟩
  rintro L H2 ⟨c,S,rfl,U,jf,le1⟩
  have x:AE G H2:=fun b e h=>U.keep b e (fun z=>by rw[AGU z,h]at gl;cases gl) (sG _ _ h)
  have lc:=g.lc
  have nG:=g.td.up x
  refine⟨_,rfl,c,0,rfl,by decide,fun r0 _ _=>⟨_,_,rfl,rfl,(by show(0:Int)<_;decide),?_⟩⟩
  have m8:=Cw r0 (n:=8) (by decide)
  generalize r0 % 8=kd at m8⊢
  dsimp only[BP]
  refine⟨_,rfl,_,rfl,c,1,rfl,by decide,fun r1 _ _=>⟨_,rfl,D,_,rfl,.inl (An.of nG.at_),_,_,rfl,rfl,(by show(0:Int)<_;have:=nG.ne;cases ws with|nil=>exact absurd rfl this|cons _ _=>simp only[List.length_cons];omega),?_⟩⟩
  have mb:=Cw r1 (n:=(ws.length:Int)) (by have:=nG.ne;cases ws with|nil=>exact absurd rfl this|cons _ _=>simp only[List.length_cons];omega)
  obtain⟨w,hw,mw⟩:=Cd (xs:=ws) mb.1 mb.2
  obtain⟨t,p,u,ks,b,rfl,x1,x2,x3,x4⟩:=g.td.ta w mw
  have x2:Ka G p ks:=x2
  refine⟨D,_,_,_,rfl,rfl,An.of nG.at_,hw,?_⟩
  refine⟨t,_,rfl,.of (x _ _ x1),rfl,_,_,rfl,_,_,rfl,rfl,?_⟩
  dsimp only
  have dm2:∀b,H2 b=none->H b=none:=U.GB
  have pk0:RE G A ws p ks b:=⟨⟨t,u,mw,x1⟩,x2,x3⟩
  obtain⟨l20,YA,qr,bT,jx⟩:=g.as.len x3
  have ret:∀(v:V) (m:AM) (H':Hp),AE H2 H'->Md (K:=K) G H2 H' A v m (Mb d) (d+2)->Q v H':=fun v m H' s h=>q v m S H' (U.trans (.of s)) (s _ _ jf) le1 ⟨h.val.up (BL dm2 fun b o _ e=>e),h.ok,h.gd,h.sz,h.dp⟩
  have mbp:=XI d
  have Ux:∀t2,H2 t2=none->Q (.ref t2) (upd H2 t2 (.tup [.str "from",.ref p])):=fun t2 h=>ret _ (.Ic ks) _ (AE.new h) ⟨.tup (.of (by rw[GC x h,AF])) (.cons (.str _) (.cons (CU (.of (DE _ _ x2))) .nil)),by simp only[AM.ok];lia,by simp only[AM.good];rw[x3];rfl,by simp only[AM.size];lia,by simp only[AM.deep];lia⟩
  refine Vw (t:=MN _ _ _) (fun H5=>H2=H5/\d≠0) (fun H5 ⟨e5,hd⟩=>?_) (fun key=>?_)
  rotate_left
  ·refine⟨_,rfl,rfl,_,rfl,Bj (fun _=>Cr ⟨_,rfl,Ad,Ux⟩) (fun _=>⟨_,rfl,rfl,_,rfl,Bj (fun h2=>?_) (fun h2=>?_)⟩)⟩
   ·exact⟨_,rfl,Ad,Ux⟩
   ·refine key H2 ⟨rfl,fun z=>?_⟩
    subst z
    exact absurd rfl (of_decide_eq_false h2)
  subst e5
  obtain⟨X,rfl⟩:∃X,d=X+1:=⟨d-1,by lia⟩
  have ed:(((X+1:Nat):Int)-1)=(X:Int):=by lia
  have mbd:Mb (X+1)=801+4*Mb X:=rfl
  have nm2:=g.nm.up x
  refine⟨_,rfl,rfl,_,rfl,Bj (fun _=>?_) (fun _=>?_)⟩
  ·refine⟨_,rfl,_,rfl,c,2,nm,ys,rfl,by decide,nm2,fun v td H3 s3 sm=>⟨Ad,fun t2 RM=>?_⟩⟩
   have nt2:=s3.free RM
   refine ret _ (.Kw td) _ (s3.trans (AE.new RM)) ⟨.tup (.of (by rw[GC x nt2,AF])) (.cons (.str _) (.cons (sm.val.up (i' x (fun b h=>h) fun b o _ e=>(AE.new RM) _ _ e)) .nil)),?_,rfl,by simp only[AM.size];lia,by simp only[AM.deep];lia⟩
   have z:=sm.size
   have z2:=Pt.MA td
   simp only[AM.ok]
   exact⟨sm.doc,by lia,by lia⟩
  refine⟨_,rfl,_,_,rfl,rfl,_,rfl,Bj (fun _=>?_) (fun _=>?_)⟩
  ·exact⟨_,rfl,_,rfl,G,p,u,A,b,ks,rfl,x,g.as,x2,x3,x4,fun v m H3 s3 j _=>ret v m H3 s3 ⟨j.val,j.ok,j.gd,by have:=j.sz;lia,by have:=j.dp;lia⟩⟩
  refine⟨_,rfl,_,_,rfl,rfl,_,rfl,Bj (fun _=>?_) (fun _=>?_)⟩
  ·refine⟨_,rfl,_,rfl,_,rfl,_,rfl,_,rfl,G,A,l,D,nm,ws,ys,S,c,X,rfl,⟨x,gl,g.as,g.td,g.nm,jf,by lia⟩,by lia,fun v m cs3 H3 rD en le3 j=>?_⟩
   exact q v m cs3 H3 (U.trans rD) en (by lia) ⟨j.val.up (BL dm2 fun b o _ e=>e),j.ok,j.gd,j.sz,by have:=j.dp;lia⟩
  dsimp only[aH]
  refine Ew (t:=QH (Ri _ _ _ _) _) (fun L H1=>∃(rv:V) (o:Option (List Key)),L=[some (.ref l),some (.int ((X+1:Nat):Int)),some (.ref D),some (.ref nm),some (.int c),some (.int kd),some (.ref p),some u,some rv,none]/\AE H2 H1/\((rv=.Av/\o=none)∨∃p2 a I,rv=.ref p2/\o=some a/\RE G A ws p2 a (.row I true))) ?_ ?_
  rotate_left
  ·intro go
   refine⟨_,rfl,_,rfl,G,c,3,D,"row",A,ws,rfl,by decide,x,g.as,g.td,.inl rfl,fun H1 s1=>go _ _ ⟨.Av,none,rfl,s1,.inl ⟨rfl,rfl⟩⟩,fun p2 a b2 H1 s1 pk op=>?_⟩
   rcases op with⟨_,I,rfl⟩|⟨e,_⟩
   ·exact go _ _ ⟨.ref p2,some a,rfl,s1,.inr ⟨p2,a,I,rfl,rfl,pk⟩⟩
   ·exact absurd e (by decide)
  rintro L H3 ⟨rv,o,rfl,s3,ro⟩
  have en:=s3 _ _ jf
  have rE:=x.trans s3
  have H3l:H3 l≠none:=by rw[en];exact fun z=>nomatch z
  have nm3:=nm2.up s3
  have nml:nm≠l:=fun z=>by have:=g.nm.at_;rw[z,gl]at this;cases this
  refine⟨_,rfl,c,4,rfl,by decide,fun r4 _ _=>⟨_,_,rfl,rfl,(by show(0:Int)<_;decide),?_⟩⟩
  have m4:=Cw r4 (n:=4) (by decide)
  obtain⟨k4,qj⟩:∃k:Nat,r4 % 4=(k:Int):=⟨(r4 % 4).toNat,by lia⟩
  have qk:k4<4:=by lia
  rw[qj]
  refine⟨k4,rfl,by lia,by lia,?_⟩
  refine NG G (some l) k4 (fun i=>.int (0+(i:Int))) (fun i us H4=>∃(O:List AM) (M:List Int),us=AM.CY O/\H4 l=some (.lst (M.map V.int))/\M.length<=S.length/\AM.DD O/\AM.EK A O=true/\AM.AL O<=i*Mb X/\AM.AW O<=X+2)
   (by lia) (fun D2 Y=>⟨[],S,rfl,by rw[AJ (fun z=>by rw[<-z,en]at Y;cases Y)];exact en,Nat.le_refl _,trivial,rfl,by simp[AM.AL],by simp[AM.AW]⟩) (fun i us H4 D2 J bt Y ⟨O,M,h1,h2,h3⟩=>⟨O,M,h1,by rw[AJ (fun z=>by rw[<-z,en]at Y;cases Y)];exact h2,h3⟩)
   (fun l' z=>by cases z;exact H3l) (fun i us H4 hi s iv=>hi) (fun i us H4 v H' hi s iv y=>⟨y.2,y.1⟩) (fun us H4 s iv=>Nat.le_refl _) (fun i us H4 R hi bt ⟨O,M,e1,e2,e3,e4,e5,e6,e7⟩ lu k=>?_) (fun D2 H4 J us Y bt d2 lu vl ⟨O,M,e1,e2,e3,e4,e5,e6,e7⟩=>?_)
  ·have nH:AE G H4:=fun b e h=>bt.keep b e (fun z=>by rw[AGU z,h]at gl;cases gl) (rE _ _ h)
   refine⟨_,rfl,_,rfl,_,_,rfl,rfl,_,rfl,_,rfl,G,A,l,D,nm,ws,ys,M,X,by rw[ed];rfl,⟨nH,gl,g.as,g.td,g.nm,e2,by lia⟩,by lia,fun v m cs5 H5 mu qm le5 j=>k v m.pt H5 mu j.val ⟨O++[m],cs5,?_,qm,by lia,AM.CQ e4 ⟨j.ok,trivial⟩,?_,?_,?_⟩⟩
   ·rw[AM.Cf,e1];rfl
   ·rw[AM.Bc,List.all_append,<-AM.Bc,e5];simp[j.gd]
   ·rw[AM.Am,Nat.add_mul];simp only[AM.AL];have:=j.sz;lia
   ·rw[AM.Bi];simp only[AM.AW];have:=j.dp;lia
  subst e1
  have lms:O.length=k4:=by rw[AM.AZ,List.length_map]at lu;exact lu
  dsimp only
  have nH:AE G H4:=fun b e h=>bt.keep b e (fun z=>by rw[AGU z,h]at gl;cases gl) (rE _ _ h)
  have H4D:H4 D2≠none:=by rw[d2];exact fun z=>nomatch z
  refine Ew (t:=MN _ _ _) (fun L H'=>∃(D5:Addr) (rF:List V) (fs:List AM),L=[some (.ref l),some (.int ((X+1:Nat):Int)),some (.ref D),some (.ref nm),some (.int c),some (.int kd),some (.ref p),some u,some rv,some (.ref D5)]/\AE H4 H'/\H3 D5=none/\H' D5=some (.lst rF)/\Aj (ov G H3 H') rF (AM.CY fs)/\AM.DD fs/\AM.EK A fs=true/\AM.AL fs<=799+3*Mb X/\AM.AW fs<=X+2/\fs.length<=802) ?_ ?_
  rotate_left
  ·intro go
   have mz:AM.AL O<=3*Mb X:=Nat.le_trans e6 (Nat.mul_le_mul_right _ (by lia))
   have out:=go _ _ ⟨D2,J,O,rfl,AE.refl _,Y,d2,vl,e4,e5,by lia,e7,by lia⟩
   rcases ro with⟨rfl,rfl⟩|⟨p2,a,I,rfl,rfl,pk⟩
   ·exact⟨_,rfl,rfl,_,rfl,AU rfl (BK out)⟩
   ·refine⟨_,rfl,rfl,_,rfl,Ab rfl ?_⟩
    refine⟨_,rfl,c,5,rfl,by decide,fun r5 _ _=>⟨_,_,rfl,rfl,(by show(0:Int)<_;decide),rfl,_,rfl,Bj (fun _=>?_) (fun _=>out)⟩⟩
    refine⟨_,rfl,_,rfl,GX g.td nH fun pd H5 s5 n5 kn=>?_⟩
    have rG:=nH.trans s5
    obtain⟨kvs,h1,h2⟩:=kn.ex
    obtain⟨u2,k2,v2⟩:=h2 p2 a _ pk
    refine⟨_,rfl,pd,u2,rfl,.inr ⟨kvs,a,p2,.inl h1,rfl,rG _ _ pk.PZ,k2.symm⟩,?_⟩
    refine⟨G,p2,u2,A,.row I true,a,rfl,rG,g.as,pk.PZ,pk.sub,v2,fun w2 m H6 s6 j shp=>?_⟩
    obtain⟨fs,rfl,lfs⟩:=shp I true rfl
    have sO:AE (ov G H5 H6) H6:=Mv rG s6
    have bV:=j.ok
    have kH:=j.gd
    have rH:=j.sz
    have mdp:=j.dp
    simp only[AM.ok]at bV
    simp only[AM.good,Bool.and_eq_true]at kH
    simp only[AM.size]at rH
    simp only[AM.deep]at mdp
    obtain⟨tw,w1,rest,rfl,htw,csw⟩:=j.val.jI
    rcases csw with⟨_,_,e,_⟩|⟨_,_,e,_⟩|⟨m_,o',ua,z,e,rfl,rfl,hua,hz⟩|⟨_,_,_,_,_,e,_⟩
    ·cases e
    ·cases e
    ·cases e
     obtain⟨a1,kK,rfl,NZ,r1⟩:=hua.Mq
     refine⟨tw,_,1,_,rfl,rfl,htw.up sO,CI,?_⟩
     have s46:=s5.trans s6
     refine⟨_,rfl,1,rfl,D2,J,rfl,An.of (s46 _ _ d2),fun q1 RP=>?_⟩
     have ec:HZ J (some 1) none=J.drop 1:=Lj J 1
     rw[ec]
     obtain⟨H7,eH,sq,fq⟩:=BZ (o:=.lst (J.drop 1)) RP
     rw[eH];clear eH
     have lv:=r1.length
     have lw:=vl.length
     rw[AM.AZ,List.length_map]at lv lw
     refine⟨a1,q1,kK,J.drop 1,rfl,rfl,(NZ.up (sO _)).up (sq _),.inl fq,Ah (by rw[List.length_drop];lia),fun p9 hp9=>?_⟩
     have s9:=AE.new (o:=.lst (kK++J.drop 1)) hp9
     have S9:=(s46.trans sq).trans s9
     obtain⟨g1,g2,g3,g4⟩:=AM.ZN (A:=A) (N:=0) (d:=0) 1 e4 e5
     refine go _ _ ⟨p9,_,fs++O.drop 1,rfl,S9,bt.GB _ ((s46.trans sq).free hp9),AF,?_,AM.CQ bV.2.2 g1,?_,?_,?_,?_⟩
     ·rw[AM.Cf]
      refine(r1.up (BL (fun b h=>bt.GB b (s5.free h)) fun b o _ e=>(sq.trans s9) _ _ e)).append ?_
      have e:AM.CY (O.drop 1)=(AM.CY O).drop 1:=by rw[AM.AZ,AM.AZ,List.map_drop]
      rw[e]
      exact(Aj.bH vl 1).up (BL (fun b h=>h) fun b o _ e=>S9 _ _ e)
     ·rw[AM.Bc,List.all_append,<-AM.Bc,<-AM.Bc,kH.2,g2]
      rfl
     ·rw[AM.Am];lia
     ·rw[AM.Bi];lia
     ·rw[List.length_append,List.length_drop];lia
    ·cases e
  rintro L H7 ⟨D5,rF,fs,rfl,s7,n5,d5,vl5,jq,gd5,mx,my,l5⟩
  refine⟨_,rfl,_,rfl,Dg,fun t7 ht7=>?_⟩
  have n37:∀b,H7 b=none->H3 b=none:=fun b h=>bt.GB b (s7.free h)
  have vz:Val (ov G H3 H7) rv (GW o):=by
   rcases ro with⟨rfl,rfl⟩|⟨p2,a,I,rfl,rfl,pk⟩
   ·exact .Av
   ·exact CU (.of (DE _ _ pk.PZ))
  have v7:=Kg rE n37 n5 d5 vl5 vz ht7
  have s78:=AE.new (o:=.tup [.str "row",.ref D5,rv]) ht7
  refine q _ (.row fs o) M _ ⟨fun b e n h=>s78 _ _ (s7 _ _ (bt.keep b e n (s3 _ _ (U.keep b e n h)))),fun b h=>U.GB b (s3.free (n37 b (s78.free h)))⟩ (s78 _ _ (s7 _ _ e2)) (by lia) ⟨v7.up (BL (fun b h=>U.GB b (s3.free h)) fun b o _ e=>e),?_,?_,?_,?_⟩
  ·simp only[AM.ok]
   refine⟨by lia,?_,jq⟩
   rcases ro with⟨rfl,rfl⟩|⟨p2,a,I,rfl,rfl,pk⟩
   ·trivial
   ·have:=(g.as.len pk.sub).1
    show a.length<=200
    lia
  ·simp only[AM.good,Bool.and_eq_true]
   refine⟨?_,gd5⟩
   rcases ro with⟨rfl,rfl⟩|⟨p2,a,I,rfl,rfl,pk⟩
   ·rfl
   ·show AM.Ke A a=true
    unfold AM.Ke
    rw[pk.sub]
  ·simp only[AM.size]
   lia
  ·simp only[AM.deep]
   lia
theorem Xs {f g:Addr} {i j:FuncData} (F:DN K "_law_makes" "_law_makes" GZ f i) (k:DN K "_law_table" "_law_table" GY g j) (T:Txt mg) (b:Binds K i ["_law_cells","_law_deep","_law_told_here","_law_names_here"] []) (m:mg "_law_makes"=some (.ref f)) (l:Binds K j ["_law_cells","_law_cell_here","_law_deep","_law_told_here","_law_names_here"] []) (o:mg "_law_table"=some (.ref g)) (c:Df P w K mg base "_law_mix" ["_law_cell_here","_law_k"] 1 EE) (d:Df P w K mg base "_law_doc" ["_law_cell_here","_law_k","_law_names_here"] 2 KA) (e:Df P w K mg base "_law_out" ["_law_path","_law_there"] 2 RG) (a:Df P w K mg base "_law_open" ["_law_cell_here","_law_k","_law_told_here","_law_word"] 2 Su):∀n:Nat,BH P w K mg base Cs n f i ["_law_cells","_law_deep","_law_told_here","_law_names_here"] (HP n)/\BH P w K mg base Cs n g j ["_law_cells","_law_cell_here","_law_deep","_law_told_here","_law_names_here"] (NJ n)
 |0=>⟨Jl (fun vs H Q E h=>by obtain⟨_,_,_,_,_,_,_,_,_,_,_,q,_⟩:=h;omega),Jl (fun vs H Q E h=>by obtain⟨_,_,_,_,_,_,_,_,_,_,_,_,q,_⟩:=h;omega)⟩
 |n+1=>by
  obtain⟨p,r⟩:=Xs F k T b m l o c d e a n
  exact⟨Xr F T c d e a (Df.mk' k l o r) (Df.mk' F b m p),Xk k T c a (Df.mk' F b m p)⟩
theorem QB:Al ["_law_path","_law_there","_law_names_here","_law_known"] ["_law_path","_law_there","_law_names_here"] (AI Fy):={}
theorem Uy {f:Addr} {fd:FuncData} (F:DN K "_law_beyond" "_law_beyond" Fy f fd) (T:Txt mg):BH P w K mg base Cs 2 f fd ["_law_path","_law_there","_law_names_here"] bK:=by
 refine F.ok QB (fun vs H Q E h=>?_) (fun Gm A outer s H vs Q E hr h=>?_)
 ·obtain⟨G,p,u,nm,A,b,ks,O,rfl,U,hA,hp,R,jv,X,q⟩:=h
  rfl
 ·obtain⟨G,p,u,nm,A,b,ks,O,rfl,U,hA,hp,R,jv,X,q⟩:=h
  have nd:=QB.nd
  have hu:=BQ hr
  refine⟨_,(AD (Ap (PW.pt (pw_or (AO BD (Br K 1) AR (AS _)) (pw_or1 (PW.pt (pw_and (AO BD (Br K 1) AR (AS _)) (pw_and1 (Bd (AY (Bu:Bq _ _ (EH K)) rfl T.isinstance Ar (AA (Br K 1) (AA (Bv (v:=.ty "list") rfl T.list DW rfl) AB)))))))))) (AH (AQ (A_ (AA (AN CK (pv 0) (Aa (AA (AY Ag rfl T.len PySem.boot_len (AA (Br K 1) AB)) AB))) (AA (AN CK (pv 0) (Aa (AA (Az (r:=Bp K) Ae (pv 2) AG (fun _ _=>rfl)) AB))) AB))))) AV)
   (AD (En (i:=3) nd rfl (Or.inr rfl) Dv)
   (AD (Ap (PW.pt (pw_or (AO BD (Br K 1) AR (AS _)) (pw_or1 (PW.pt (pw_and (AO BD (Br K 1) AR (AS _)) (pw_and1 (Bd (AY (Bu:Bq _ _ (EH K)) rfl T.isinstance Ar (AA (Br K 1) (AA (Bv (v:=.ty "dict") rfl T.dict Ce rfl) AB)))))))))) (AH (En (i:=3) nd rfl (Or.inr rfl) (Br K 1))) AV)
   (AH (AQ (AN FO (A_ (AA (AN CK (pv 0) (Aa (AA AG AB))) AB)) (Ba (fv:=["_law_path","_law_known"]) (fs:=[0,3]) rfl (.of (by rfl)) (Bg (pv 2)) (fun C s0 H0 fp=>Fi (QE (Le hu (pv 0) (pv 2)))) (fun C s0 H0 fp=>(AN CK (pv 1) (Aa (AA (pv 0) AB))))))))))),?_⟩
  obtain⟨l20,YA,qr,bT,jx⟩:=hA.len R
  obtain⟨c,w0,rest,rfl,eP,kinds⟩:=jv.ak
  have l:=eP.up U
  have Y:H p=some (.tup (ks.map kV)):=U _ _ hp
  have kL:=X.up U
  obtain⟨y0,hy0⟩:∃y,O[0]?=some y:=⟨_,AGS (by rw[X.len];decide)⟩
  have a0:Ja (O.map V.str) 0=some (.str y0):=BA (j:=0) (by rw[List.getElem?_map,hy0];rfl)
  have no:∀{k:Key},b.De k=none->A.sub (ks++[k])=none:=fun e=>by rw[AM.sub_snoc R];exact e
  have kM:∀(a1:Addr) (t:List V),Rd H a1 (.lst t)->Bf K H c (.str w0::.ref a1::rest.tail)->b.De (.inl (t.length:Int))=none->b.De (.inr y0)=none->(cB (Ge (U_ Ib (Ga 0) (VO (Ge (oP (FN K) (Ge (U_ (MX K) (Ga 1) (tC (V.int 1))) Nq)) Nq))) (Ge (U_ Ib (Ga 0) (VO (Ge (U_ (Bp K) (Ga 2) (tC (V.int 0))) Nq))) Nq))) [some (.ref p),some (.ref c),some (.ref nm),none] H Q:=fun a1 t g ht' n1 n2=>by
   refine⟨_,rfl,_,rfl,c,_,1,_,rfl,rfl,ht',CI,a1,_,rfl,.inl (.inl g),Ax,fun pk M=>?_⟩
   refine⟨p,pk,_,_,rfl,rfl,(AE.new M) _ _ Y,AF,Ah (by simp only[List.length_map,List.length_singleton];lia),fun p6 H6 s6 f6 n6=>?_⟩
   have S6:=(AE.new (o:=.tup [.int (t.length:Int)]) M).trans s6
   refine⟨_,rfl,_,rfl,nm,_,_,_,rfl,rfl,An.of (S6 _ _ kL.at_),a0,Ax,fun qy Zn=>?_⟩
   obtain⟨H7,B,s7,f7⟩:=BZ (o:=.tup [.str y0]) Zn
   rw[B];clear B
   refine⟨p,qy,_,_,rfl,rfl,(S6.trans s7) _ _ Y,f7,Ah (by simp only[List.length_map,List.length_singleton];lia),fun p8 H8 s8 f8 n8=>?_⟩
   refine⟨Ad,fun D hD=>?_⟩
   have s9:=AE.new (o:=.lst [.ref p6,.ref p8]) hD
   refine q D _ _ (((S6.trans s7).trans s8).trans s9) AF (by simp) (by show 2<=5;decide) ?_
   exact BC.append (BC.one (kk:=ks++[.inl (t.length:Int)]) ((((Ei (rs:=[.inl (t.length:Int)]) f6).up s7).up s8).up s9) (no n1) (by simp;lia)) (BC.one (kk:=ks++[.inr y0]) ((Ei (rs:=[.inr y0]) f8).up s9) (no n2) (by simp;lia))
  have I:∀(dv:Addr) (kvs:List (Key×V)) (J:Hp),AE H J->Rd J dv (.dK kvs)->b.De (.inl 0)=none->(∀y,(BM kvs (Sum.inr y)).isSome=false->b.De (.inr y)=none)->(U_ iM (cB (Ge (U_ Ib (Ga 0) (VO (Ge (tC (V.int 0)) Nq))) Nq)) (Vd (aK K (Ga 2)) (tB (Rn (Ga 0) (Ga 2))) (U_ Ib (Ga 1) (VO (Ge (Ga 0) Nq))) [0,3])) [some (.ref p),some (.ref c),some (.ref nm),some (.ref dv)] J Q:=fun dv kvs J a g n1 n2=>by
   refine⟨_,rfl,Ax,fun pk M=>?_⟩
   refine⟨p,pk,_,_,rfl,rfl,(AE.new M) _ _ (a _ _ Y),AF,Ah (by simp only[List.length_map,List.length_singleton];lia),fun p6 H6 s6 f6 n6=>?_⟩
   have S6:=a.trans ((AE.new (o:=.tup [.int 0]) M).trans s6)
   have S16:=(AE.new (o:=.tup [.int 0]) M).trans s6
   refine⟨Ax,fun L hL=>?_⟩
   obtain⟨H7,B,s7,f7⟩:=BZ (o:=.lst [.ref p6]) hL
   rw[B];clear B
   have S7:=S6.trans s7
   have Z:=kL.up S7
   have l4:=X.len
   have li:∀{i:Nat},i<O.length->(O.map V.str)[i]?=some (.str (O.getD i "")):=fun hi=>by
    rw[List.getElem?_map,AGS hi,List.getD_eq_getElem?_getD,AGS hi]
    rfl
   refine⟨_,rfl,nm,rfl,⟨_,An.of Z.at_⟩,?_⟩
   refine ZA O.length (fun i=>.str (O.getD i "")) (fun D i H2=>AE H7 H2/\∃zs,H2 D=some (.lst zs)/\zs.length<=i/\BC H2 A 21 zs) (fun D hD=>⟨AE.new hD,[],AF,Nat.le_refl _,fun w hw=>nomatch hw⟩) (fun D i H2 hi ⟨s,_⟩=>⟨_,_,s.seq (An.of Z.at_),li hi⟩) (fun D i H2 v H' hi ⟨s,_⟩ yl=>?_) (fun D H2 ⟨s,_⟩=>⟨_,s.seq (An.of Z.at_),by rw[List.length_map];exact Nat.le_refl _⟩) (fun D i H2 hD hi ⟨s,zs,hz,lz,nz⟩=>?_) (fun D H2 hD ⟨s,zs,hz,lz,nz⟩=>?_)
   ·obtain⟨e,yl⟩:=yl
    have:=yl _ (s.seq (An.of Z.at_))
    rw[li hi]at this
    exact⟨(AGU this).symm,e⟩
   ·have S2:=S7.trans s
    refine⟨_,rfl,_,rfl,dv,_,rfl,.inl ⟨kvs,Sum.inr (O.getD i ""),(g.up ((S16.trans (s7.trans s)) _)),rfl,rfl⟩,_,rfl,?_⟩
    cases hh:(BM kvs (Sum.inr (O.getD i ""):Key)).isSome with
    |true=>exact BK ⟨s,zs,hz,by lia,nz⟩
    |false=>
     refine Cr ?_
     refine⟨_,rfl,_,rfl,Ax,fun pk3 kN=>?_⟩
     refine⟨p,pk3,_,_,rfl,rfl,(AE.new kN) _ _ (S2 _ _ Y),AF,Ah (by simp only[List.length_map,List.length_singleton];lia),fun p9 H9 s9 f9 n9=>?_⟩
     have S9:=(AE.new (o:=.tup [.str (O.getD i "")]) kN).trans s9
     have hz9:=S9 _ _ hz
     refine⟨zs,hz9,Nat.lt_of_le_of_lt (by lia) (BG (Nat.le_refl 1000)),(s.trans S9).put hD,zs++[.ref p9],AF,by rw[List.length_append,List.length_singleton];lia,?_⟩
     exact((nz.up S9).append (BC.one (kk:=ks++[.inr (O.getD i "")]) (Ei f9) (no (n2 _ hh)) (by simp;lia))).set hz9
   ·refine⟨L,D,_,_,rfl,rfl,s _ _ f7,hz,Ah (by rw[List.length_singleton];lia),fun D9 hD9=>?_⟩
    have s9:=AE.new (o:=.lst ([.ref p6]++zs)) hD9
    refine q D9 _ _ ((S7.trans s).trans s9) AF (by simp) (by rw[List.length_append,List.length_singleton];lia) ?_
    exact(((BC.one (kk:=ks++[.inl 0]) (Ei f6) (no n1) (by simp;lia)).up (s7.trans s)).append nz).up s9
  rcases kinds with⟨rfl,rfl,rfl⟩|⟨d,u,rfl,rfl,rfl,N⟩|⟨xs,m,u,rfl,rfl,rfl,N⟩|⟨ns,xs,ls,m,u,z,rfl,rfl,rfl,N,hz⟩
  ·refine⟨_,rfl,c,_,0,_,rfl,rfl,l,Bo,rfl,_,rfl,AU (by decide+kernel) ?_⟩
   refine⟨_,rfl,c,_,0,_,rfl,rfl,l,Bo,rfl,_,rfl,AU (by decide+kernel) (BK ?_)⟩
   refine fun pd x=>?_
   obtain⟨J,B,a,f1⟩:=BZ (o:=.dK []) x
   rw[B];clear B
   dsimp only[BP]
   refine⟨_,rfl,c,_,0,_,rfl,rfl,l.up a,Bo,rfl,_,rfl,AU (by decide+kernel) ?_⟩
   refine⟨_,rfl,c,_,0,_,rfl,rfl,l.up a,Bo,rfl,_,rfl,AU (by decide+kernel) (BK ?_)⟩
   exact I pd [] J a (.inl f1) rfl (fun _ _=>rfl)
  ·refine⟨_,rfl,c,_,0,_,rfl,rfl,l,Bo,rfl,_,rfl,AU (by decide+kernel) ?_⟩
   refine⟨_,rfl,c,_,0,_,rfl,rfl,l,Bo,rfl,_,rfl,Ab (by decide+kernel) ?_⟩
   refine⟨_,rfl,c,_,1,_,rfl,rfl,l,CI,_,"list",_,rfl,rfl,(N.up U).ty,_,rfl,?_⟩
   have RO:d.doc:=YA
   cases N with
   |int j=>
    refine AU rfl ?_
    refine fun pd x=>?_
    obtain⟨J,B,a,f1⟩:=BZ (o:=.dK []) x
    rw[B];clear B
    dsimp only[BP]
    refine⟨_,rfl,c,_,0,_,rfl,rfl,l.up a,Bo,rfl,_,rfl,AU (by decide+kernel) ?_⟩
    refine⟨_,rfl,c,_,0,_,rfl,rfl,l.up a,Bo,rfl,_,rfl,Ab (by decide+kernel) ?_⟩
    exact⟨_,rfl,c,_,1,_,rfl,rfl,l.up a,CI,_,"dict","int",rfl,rfl,.n (.int j),_,rfl,AU rfl (I pd [] J a (.inl f1) rfl (fun _ _=>rfl))⟩
   |str j=>
    refine AU rfl ?_
    refine fun pd x=>?_
    obtain⟨J,B,a,f1⟩:=BZ (o:=.dK []) x
    rw[B];clear B
    dsimp only[BP]
    refine⟨_,rfl,c,_,0,_,rfl,rfl,l.up a,Bo,rfl,_,rfl,AU (by decide+kernel) ?_⟩
    refine⟨_,rfl,c,_,0,_,rfl,rfl,l.up a,Bo,rfl,_,rfl,Ab (by decide+kernel) ?_⟩
    exact⟨_,rfl,c,_,1,_,rfl,rfl,l.up a,CI,_,"dict","str",rfl,rfl,.n (.str j),_,rfl,AU rfl (I pd [] J a (.inl f1) rfl (fun _ _=>rfl))⟩
   |bl j=>simp[Pt.doc]at RO
   |Av=>simp[Pt.doc]at RO
   |tup _ _=>simp[Pt.doc]at RO
   |@lst a1 t ts g r1=>
    refine Ab rfl (kM a1 t (g.up (U _)) l ?_ rfl)
    simp only[Ak.De,Pt.Iz,if_pos (Int.natCast_nonneg _),Int.toNat_natCast]
    rw[List.getElem?_eq_none (by have:=r1.length;lia)]
    rfl
   |@BX a1 S ns ts g IV r1=>
    refine AU rfl ?_
    refine fun pd x=>?_
    obtain⟨J,B,a,f1⟩:=BZ (o:=.dK []) x
    rw[B];clear B
    dsimp only[BP]
    refine⟨_,rfl,c,_,0,_,rfl,rfl,l.up a,Bo,rfl,_,rfl,AU (by decide+kernel) ?_⟩
    refine⟨_,rfl,c,_,0,_,rfl,rfl,l.up a,Bo,rfl,_,rfl,Ab (by decide+kernel) ?_⟩
    refine⟨_,rfl,c,_,1,_,rfl,rfl,l.up a,CI,_,"dict","dict",rfl,rfl,.n (.dK ((g.up (U _)).up (a _))),_,rfl,Ab rfl ?_⟩
    refine⟨_,rfl,c,_,1,_,rfl,rfl,l.up a,CI,I a1 S J a ((g.up (U _)).up (a _)) rfl fun y hy=>?_⟩
    rw[IK IV]at hy
    have nk:=of_decide_eq_false hy
    simp only[Ak.De,Pt.Iz]
    rw[Sv nk]
    rfl
  ·refine⟨_,rfl,c,_,0,_,rfl,rfl,l,Bo,rfl,_,rfl,Ab (by decide+kernel) ?_⟩
   obtain⟨a1,t,rfl,g,r1⟩:=N.Mq
   have Xi:t.length=xs.length:=by rw[r1.length,Ak.AZ,List.length_map]
   refine Ab rfl (kM a1 t (g.up (U _)) l ?_ rfl)
   simp only[Ak.De,if_pos (Int.natCast_nonneg _),Int.toNat_natCast]
   exact List.getElem?_eq_none (by lia)
  ·refine⟨_,rfl,c,_,0,_,rfl,rfl,l,Bo,rfl,_,rfl,AU (by decide+kernel) ?_⟩
   refine⟨_,rfl,c,_,0,_,rfl,rfl,l,Bo,rfl,_,rfl,AU (by decide+kernel) (BK ?_)⟩
   refine fun pd x=>?_
   have a:=AE.new (o:=.dK []) x
   generalize upd H pd (.dK [])=J at a⊢
   dsimp only[BP]
   obtain⟨a1,S,rfl,g,IV,r1⟩:=N.Qi
   refine⟨_,rfl,c,_,0,_,rfl,rfl,l.up a,Bo,rfl,_,rfl,Ab (by decide+kernel) (Ab rfl ?_)⟩
   refine⟨_,rfl,c,_,1,_,rfl,rfl,l.up a,CI,I a1 S J a ((g.up (U _)).up (a _)) rfl fun y hy=>?_⟩
   rw[IK IV]at hy
   exact Sv (of_decide_eq_false hy)
theorem TU:Al ["_law_cell_here","_law_told_here","_law_names_here","_law_beyond_here","_law_path","_law_there","_law_rows","_law_tables","_law_open_ones","_law_way","_law_number","_law_rest","_law_left"] ["_law_cell_here","_law_told_here","_law_names_here"] (AI IT):={}
theorem Xt {f:Addr} {fd:FuncData} (F:DN K "_law_wrong" "_law_wrong" IT f fd) (T:Txt mg) (Ku:Df P w K mg base "_law_mix" ["_law_cell_here","_law_k"] 1 EE) (Zp:Df P w K mg base "_law_beyond" ["_law_path","_law_there","_law_names_here"] 2 bK):BH P w K mg base Cs 4 f fd ["_law_cell_here","_law_told_here","_law_names_here"] Sy:=by
 obtain⟨Py,Pz,Zm,NT,NU,Kt⟩:=Ku.ex
 obtain⟨nJ,nM,Zq,Zr,Zs,Zt⟩:=Zp.ex
 refine F.ok TU (fun vs H Q E h=>?_) (fun Gm A outer s H vs Q E hr h=>?_)
 ·obtain⟨G,c,D,nm,A,ws,ys,rfl,sG,hA,hT,Y_,nN,q⟩:=h
  rfl
 ·obtain⟨G,c,D,nm,A,ws,ys,rfl,sG,hA,hT,Y_,nN,q⟩:=h
  have nd:=TU.nd
  have hu:=BQ hr
  have TQ:Ao 1 _:=hr.mm
  have Xu:Ao 2 _:=hr.mm
  refine⟨_,(AD (Ai 3 nd (A_ AB))
   (AD (CM PassesOwn.never rfl (Bg (pv 1)) (QG rfl (EW (C_ 4 nd) (EW (Gd (i:=5) nd rfl (Or.inr rfl)) MO))) (AH (DL (FF PySem.F.plainAttrs_list PySem.F.slot_list_extend PySem.F.type_list_extend Cj (pv 3) (AA (AK Zt Xu rfl Zs Zq Zr .nil AX (AA (pv 4) (AA (pv 5) (AA (pv 2) AB)))) AB)))))
   (AD (Ai 3 nd (AN FO (AN FO (pv 3) (Ba (fv:=[]) (fs:=[]) rfl (.of (by rfl)) (Bg (pv 3)) (fun _ _ _ _=>BV) (fun C s0 H0 fp=>(AN CK (pv 0) (Aa (AA AG AB)))))) (Ba (fv:=["_law_names_here"]) (fs:=[2]) rfl (.of (by rfl)) (Bg (pv 3)) (fun _ _ _ _=>BV) (fun C s0 H0 fp=>(AN CK (pv 0) (Aa (AA (Az (r:=Bp K) Ae (pv 1) AG (fun _ _=>rfl)) (AA AG AB))))))))
   (AD (Ai 6 nd (AN FO (PJ (fv:=[]) (fs:=[]) rfl (.of (by rfl)) (Bg (pv 1)) (fun C s0 H0 fp=>Fi (PW.pt (pw_or (AO Rh (Br K 1) AR (AS _)) (pw_or1 (MM (Bd (Br K 1))))))) (fun C s0 H0 fp=>(pv 0))) (pv 3)))
   (AD (Ai 7 nd (AN FO (PJ (fv:=[]) (fs:=[]) rfl (.of (by rfl)) (Bg (pv 1)) (fun C s0 H0 fp=>Fi (PW.pt (pw_or (AO Rh (Br K 1) AR (AS _)) (pw_or1 (MM (Bd (Br K 1))))))) (fun C s0 H0 fp=>(pv 0))) (pv 3)))
   (AD (Ia (i:=8) (fv:=[]) (fs:=[]) rfl (.of (by rfl)) nd rfl (Or.inl rfl) (Bg (pv 1)) (fun C s0 H0 fp=>Fi (PW.pt (pw_and (AO BD (Br K 1) AR (AS _)) (pw_and1 (Bd (Br K 1)))))) (fun C s0 H0 fp=>(pv 0)))
   (AD (Ai 9 nd (AN Aq (AK Kt TQ rfl NU Zm NT .nil AX (AA (pv 0) (AA AG AB))) AG))
   (AD (Ai 10 nd (AK Kt TQ rfl NU Zm NT .nil AX (AA (pv 0) (AA AG AB))))
   (AD (Ap (AO BD (pv 9) AG (AS _)) (AH (AQ (Aa (AA AR (AA (Az (r:=Bp K) Ae (pv 3) (AN Aq (pv 10) (AY Ag rfl T.len PySem.boot_len (AA (pv 3) AB))) (fun _ _=>rfl)) AB))))) AV)
   (AD (Ap (AO BD (pv 9) AG (AS _)) (AH (AQ (Aa (AA AR (AA (A_ AB) (AA (Az (r:=Bp K) Ae (pv 6) (AN Aq (pv 10) (AY Ag rfl T.len PySem.boot_len (AA (pv 6) AB))) (fun _ _=>rfl)) AB)))))) AV)
   (AD (Ap (PW.pt (pw_or (AO BD (pv 9) AG (AS _)) (pw_or1 (AO (QZ (Ao.JY hr)) (pv 8) (A_ AB) (AS _))))) (AH (AQ (Aa (AA AR (AA Dv (AA (Az (r:=Bp K) Ae (pv 7) (AN Aq (pv 10) (AY Ag rfl T.len PySem.boot_len (AA (pv 7) AB))) (fun _ _=>rfl)) AB)))))) AV)
   (AD (Ai 11 nd (Az (r:=Bp K) Ae (pv 8) (AN Aq (pv 10) (AY Ag rfl T.len PySem.boot_len (AA (pv 8) AB))) (fun _ _=>rfl)))
   (AD (En (i:=5) nd rfl (Or.inr rfl) (Bw hu (BR (D' rfl (Ao.units hr)) rfl T.dict Ce (AA (pv 1) AB)) (pv 11) (fun _ _=>rfl)))
   (AD (GN (i:=12) (fv:=["_law_there"]) (fs:=[5]) rfl (.of (by rfl)) nd rfl (Or.inl rfl) (Bg (AN FO (pv 2) (A_ (AA AR (AA AR AB))))) (fun C s0 H0 fp=>Fi (PW.pt (pw_and (QE (Le hu (pv 0) (Br K 1))) (pw_and1 (AO (MZ:EL _ _ (cF K true)) (pv 0) (Br K 1) rfl))))) (fun C s0 H0 fp=>(pv 0)))
   (AH (AQ (Aa (AA AR (AA (JG (FP (Az (r:=Bp K) Ae (pv 12) (AN Aq (AN Bh (pv 10) AG) (AY Ag rfl T.len PySem.boot_len (AA (pv 12) AB))) (fun _ _=>rfl)) (Aa (AA AR (AA (Aa AB) AB))) JF) rfl rfl (by simp) (by simp)) (AA (pv 11) AB)))))))))))))))))))),?_⟩
  obtain⟨es,rfl,Zl⟩:=hT.ents
  have hD:=sG _ _ hT.at_
  have l4:=Y_.len
  have kL:=Y_.up sG
  have lE:es.length<=900:=by have:=hT.len;rw[List.length_map]at this;exact this
  have eN:es≠[]:=fun z=>hT.ne (by rw[z];rfl)
  have ix:∀{i:Nat},i<es.length->es[i]?=some (es.getD i default):=fun{i} h=>by rw[List.getD_eq_getElem?_getD,AGS h];rfl
  have eAt:∀{i:Nat},i<es.length->dX (K:=K) G A (es.getD i default):=fun h=>Zl _ (AGV (ix h))
  have lt:∀{i:Nat},i<es.length->(es.map fun e=>V.ref e.t)[i]?=some (.ref (es.getD i default).t):=fun h=>by rw[List.getElem?_map,ix h];rfl
  refine⟨Nat.zero_le _,fun L0 rJ=>?_⟩
  obtain⟨H1,a,S,f1⟩:=BZ (o:=.lst []) rJ
  rw[a];clear a
  dsimp only[BP]
  have D0:D≠L0:=fun z=>by rw[z,rJ]at hD;cases hD
  refine⟨_,rfl,D,rfl,⟨_,An.of (S _ _ hD)⟩,DQ (K:=K) (xs:=es.map fun e=>V.ref e.t) (fun i σ Hi=>∃(I:List V) (o4 o5:Option V),σ=[some (.int c),some (.ref D),some (.ref nm),some (.ref L0),o4,o5,none,none,none,none,none,none,none]/\AE H Hi/\Hi L0=some (.lst I)/\I.length<=5*i/\(0<i->I≠[])/\BC Hi A 21 I) ⟨[],none,none,rfl,S,f1,Nat.le_refl _,fun z=>(absurd z (Nat.lt_irrefl 0)),fun w hw=>(nomatch hw)⟩ (fun i σ Hi _ ⟨_,_,_,_,s,_⟩=>An.of (s _ _ hD)) ?_ ?_⟩
  ·rintro i x σ Hi hx ⟨I,o4,o5,rfl,si,hLi,lz,_,nz⟩
   have J:i<es.length:=by have:=(AGT hx).1;rw[List.length_map]at this;exact this
   rw[lt J]at hx
   cases hx
   have L:=eAt J
   generalize es.getD i default=U at L⊢
   have sGi:=sG.trans si
   refine⟨U.t,_,rfl,.of (sGi _ _ L.tp),rfl,_,_,rfl,_,_,rfl,rfl,?_⟩
   refine⟨_,rfl,.inl ⟨rfl,_,An.of hLi⟩,_,rfl,_,rfl,_,rfl,G,U.p,U.u,nm,A,U.b,U.ks,ys,rfl,sGi,hA,L.PZ,L.sub,L.val,Y_,fun D7 kO H7 s7 f7 zl l7 np7=>?_⟩
   have hL7:=s7 _ _ hLi
   refine⟨L0,D7,_,_,rfl,rfl,hL7,f7,CT (by lia),I++kO,_,_,rfl,(si.trans s7).put rJ,AF,by rw[List.length_append];lia,fun _ z=>zl (List.append_eq_nil_iff.mp z).2,((nz.up s7).append np7).set hL7⟩
  rintro σ H2 ⟨I,o4,o5,rfl,s2,eo,lz,nO,nz⟩
  rw[List.length_map]at lz nO
  have nO:=nO (List.length_pos_iff.mpr eN)
  clear S f1
  have gZ:∀{i:Nat},i<I.length->I[i]?=some (I.getD i .Av):=fun{i} h=>by rw[List.getD_eq_getElem?_getD,AGS h];rfl
  refine⟨_,rfl,_,rfl,L0,rfl,⟨_,An.of eo⟩,?_⟩
  refine Fm I.length (fun i=>I.getD i .Av) (fun D3 i H3=>AE H2 H3/\∃g,H3 D3=some (.lst g)/\g.length=i/\BC H3 A 22 g) (fun D3 ja=>⟨AE.new ja,[],AF,rfl,fun w hw=>nomatch hw⟩) (fun D3 i H3 J ⟨s,_⟩=>⟨_,_,s.seq (An.of eo),gZ J⟩) (fun D3 i H3 v H' J ⟨s,_⟩ yl=>?_) (fun D3 H3 ⟨s,_⟩=>⟨_,s.seq (An.of eo),Nat.le_refl _⟩) (fun D3 i H3 ja J ⟨s,g,rK,lu,nu⟩=>?_) (fun D3 H3 ja ⟨s3,O,hu1,lu1,nu1⟩=>?_)
  ·obtain⟨e,yl⟩:=yl
   have:=yl _ (s.seq (An.of eo))
   rw[gZ J]at this
   exact⟨(AGU this).symm,e⟩
  ·obtain⟨pp,kk,ep,hp,hs,hl⟩:=nz _ (AGV (gZ J))
   rw[ep]
   refine⟨_,rfl,Ax,fun pk NS=>⟨pp,pk,_,_,rfl,rfl,(AE.new NS) _ _ (s _ _ hp),AF,Ah (by simp only[List.length_map,List.length_singleton];lia),fun p6 H6 s6 f6 n6=>?_⟩⟩
   have S6:=(AE.new (o:=.tup [.int 0]) NS).trans s6
   have kP:=S6 _ _ rK
   refine⟨g,kP,Nat.lt_of_lt_of_le (by lia) (CT (Nat.le_refl 20000)),(s.trans S6).put ja,g++[.ref p6],AF,by rw[List.length_append,List.length_singleton,lu],((nu.up S6).append (BC.one (kk:=kk++[.inl 0]) (Ei (rs:=[.inl 0]) f6) ?_ (by simp;lia))).set kP⟩
   rw[Ak.DF,hs]
   rfl
  refine⟨L0,D3,_,_,rfl,rfl,s3 _ _ eo,hu1,CT (by lia),fun L1 hL1=>?_⟩
  obtain⟨H4,a,s4,f4⟩:=BZ (o:=.lst (I++O)) hL1
  rw[a];clear a
  have S4:=s3.trans s4
  have nz1:BC H4 A 23 (I++O):=(((nz.up s3).mono (by decide)).append (nu1.mono (by decide))).up s4
  obtain⟨y1,hy1⟩:∃y,ys[1]?=some y:=⟨_,AGS (by rw[l4];decide)⟩
  have a1:Ja (ys.map V.str) 1=some (.str y1):=BA (j:=1) (by rw[List.getElem?_map,hy1];rfl)
  have kQ:=S4 _ _ eo
  have nm4:=(kL.up s2).up S4
  refine⟨_,rfl,L0,rfl,⟨_,An.of kQ⟩,?_⟩
  refine Fm I.length (fun i=>I.getD i .Av) (fun D5 i H5=>AE H4 H5/\∃g,H5 D5=some (.lst g)/\g.length=i/\BC H5 A 23 g) (fun D5 nP=>⟨AE.new nP,[],AF,rfl,fun w hw=>nomatch hw⟩) (fun D5 i H5 J ⟨s,_⟩=>⟨_,_,s.seq (An.of kQ),gZ J⟩) (fun D5 i H5 v H' J ⟨s,_⟩ yl=>?_) (fun D5 H5 ⟨s,_⟩=>⟨_,s.seq (An.of kQ),Nat.le_refl _⟩) (fun D5 i H5 nP J ⟨s,g,rK,lu,nu⟩=>?_) (fun D5 H5 nP ⟨s5,X,mh,lu2,nu2⟩=>?_)
  ·obtain⟨e,yl⟩:=yl
   have:=yl _ (s.seq (An.of kQ))
   rw[gZ J]at this
   exact⟨(AGU this).symm,e⟩
  ·obtain⟨pp,kk,ep,hp,hs,hl⟩:=nz _ (AGV (gZ J))
   rw[ep]
   refine⟨_,rfl,_,rfl,nm,_,_,_,rfl,rfl,An.of (s _ _ nm4.at_),a1,Ad,fun pk NS=>⟨pp,pk,_,_,rfl,rfl,(AE.new NS) _ _ ((S4.trans s) _ _ hp),AF,Ah (by simp only[List.length_map,List.length_cons,List.length_nil];lia),fun p6 H6 s6 f6 n6=>?_⟩⟩
   have S6:=(AE.new (o:=.tup [.str y1,.int 2]) NS).trans s6
   have kP:=S6 _ _ rK
   refine⟨g,kP,Nat.lt_of_lt_of_le (by lia) (CT (Nat.le_refl 20000)),(s.trans S6).put nP,g++[.ref p6],AF,by rw[List.length_append,List.length_singleton,lu],((nu.up S6).append (BC.one (kk:=kk++[.inr y1,.inl 2]) (Ei (rs:=[.inr y1,.inl 2]) f6) ?_ (by simp;lia))).set kP⟩
   rw[Ak.DF,hs]
   rfl
  refine⟨L1,D5,_,_,rfl,rfl,s5 _ _ f4,mh,CT (by rw[List.length_append];lia),fun B hB=>?_⟩
  have s6:=AE.new (o:=.lst (I++O++X)) hB
  have f6:upd H5 B (.lst (I++O++X)) B=some (.lst (I++O++X)):=AF
  have nB:BC H5 A 23 (I++O++X):=(nz1.up s5).append nu2
  have lB:(I++O++X).length<=14000:=by rw[List.length_append,List.length_append];lia
  have kR:I++O++X≠[]:=fun z=>nO (List.append_eq_nil_iff.mp (List.append_eq_nil_iff.mp z).1).1
  have nB:=nB.up s6
  generalize upd H5 B (.lst (I++O++X))=H6 at s6 f6 nB⊢
  generalize I++O++X=bs at f6 nB lB kR
  have S6:AE H H6:=s2.trans (S4.trans (s5.trans s6))
  clear s3 s4 S4 s5 s6 kQ nm4 nz1 eo nz
  dsimp only
  have nE:=sG.trans S6
  have nQ:=S6 _ _ hD
  have pB:Ca H6 (fun kk=>A.sub kk=none) 23 bs:=nB
  dsimp only[BP]
  refine⟨_,rfl,D,rfl,⟨_,An.of nQ⟩,IL Zl nE nQ lE (fun b=> !b.ZP) (fun e H2 R v r=>?_) (fun Dr wr hDr mr lr=>?_)⟩
  ·obtain⟨t0,w1,rest,eu,M,cs⟩:=v.ak
   rw[eu]
   refine⟨_,rfl,t0,_,0,.str w1,rfl,rfl,M,Bo,rfl,_,rfl,?_⟩
   generalize e.b=b at cs r⊢
   rcases cs with⟨rfl,rfl,rfl⟩|⟨d,u,rfl,rfl,rfl,_⟩|⟨xs,m,u,rfl,rfl,rfl,_⟩|⟨ks,xs,ls,m,u,z,rfl,rfl,rfl,_⟩
   ·exact Ab (by decide+kernel) r
   ·exact Ab (by decide+kernel) r
   ·exact AU (by decide+kernel) ⟨_,rfl,t0,_,2,.bl m,rfl,rfl,M,at2,_,rfl,r⟩
   ·exact Ab (by decide+kernel) r
  obtain⟨H7,a,sr,fr⟩:=BZ (o:=.lst wr) hDr
  rw[a];clear a
  refine⟨_,rfl,Dr,B,wr,bs,rfl,rfl,fr,sr _ _ f6,CT (by lia),fun R1 hR1=>?_⟩
  obtain⟨H8,a,sr2,fR⟩:=BZ (o:=.lst (wr++bs)) hR1
  rw[a];clear a
  have er:=sr.trans sr2
  have S8:=S6.trans er
  have rL:=sG.trans S8
  have pR:Ca H8 (fun kk=>AM.Ke A kk=false) 23 (wr++bs):=Ca.append (fun w hw=>by
   obtain⟨e,he,ew,Y⟩:=mr w hw
   have L:=Zl e he
   refine⟨e.p,e.ks,ew,L.PZ.up rL,?_,by have:=(hA.len L.sub).1;lia⟩
   rw[AM.ZQ L.sub]
   have Y:(!e.b.ZP)=true:=Y
   cases h:e.b.ZP with
   |false=>rfl
   |true=>rw[h]at Y;cases Y) ((pB.imp (fun kk h=>by unfold AM.Ke;rw[h]) (Nat.le_refl _)).up er)
  have rM:wr++bs≠[]:=fun z=>kR (List.append_eq_nil_iff.mp z).2
  have lR:(wr++bs).length<=15000:=by rw[List.length_append];lia
  generalize wr++bs=rs at fR pR rM lR
  have f8:=er _ _ f6
  have nR:=er _ _ nQ
  dsimp only[BP]
  refine⟨_,rfl,D,rfl,⟨_,An.of nR⟩,IL Zl rL nR lE (fun b=> !b.XN) (fun e H2 R v r=>?_) (fun Dt wt hDt mt lt'=>?_)⟩
  ·obtain⟨t0,w1,rest,eu,M,cs⟩:=v.ak
   rw[eu]
   refine⟨_,rfl,t0,_,0,.str w1,rfl,rfl,M,Bo,rfl,_,rfl,?_⟩
   generalize e.b=b at cs r⊢
   rcases cs with⟨rfl,rfl,rfl⟩|⟨d,u,rfl,rfl,rfl,_⟩|⟨xs,m,u,rfl,rfl,rfl,_⟩|⟨ks,xs,ls,m,u,z,rfl,rfl,rfl,_⟩
   ·exact Ab (by decide+kernel) r
   ·exact Ab (by decide+kernel) r
   ·exact Ab (by decide+kernel) r
   ·exact AU (by decide+kernel) ⟨_,rfl,t0,_,3,.bl m,rfl,rfl,M,BA (j:=3) rfl,_,rfl,r⟩
  obtain⟨H9,a,st,ft⟩:=BZ (o:=.lst wt) hDt
  rw[a];clear a
  refine⟨_,rfl,Dt,B,wt,bs,rfl,rfl,ft,st _ _ f8,CT (by lia),fun T1 hT1=>?_⟩
  obtain⟨Ha,a,bD,fT⟩:=BZ (o:=.lst (wt++bs)) hT1
  rw[a];clear a
  have Z:=st.trans bD
  have Sa:=S8.trans Z
  have sGa:=sG.trans Sa
  have pT:Ca Ha (fun kk=>AM.HI A [] kk=false) 23 (wt++bs):=Ca.append (fun w hw=>by
   obtain⟨e,he,ew,Y⟩:=mt w hw
   have L:=Zl e he
   refine⟨e.p,e.ks,ew,L.PZ.up sGa,?_,by have:=(hA.len L.sub).1;lia⟩
   rw[AM.ZR L.sub]
   have Y:(!e.b.XN)=true:=Y
   cases h:e.b.XN with
   |false=>rfl
   |true=>rw[h]at Y;cases Y) ((pB.imp (fun kk h=>by unfold AM.HI;rw[h]) (Nat.le_refl _)).up (er.trans Z))
  have neT:wt++bs≠[]:=fun z=>kR (List.append_eq_nil_iff.mp z).2
  have lT:(wt++bs).length<=15000:=by rw[List.length_append];lia
  generalize wt++bs=ts at fT pT neT lT
  have fBa:=Z _ _ f8
  have fRa:=Z _ _ fR
  have pRa:=pR.up Z
  have pBa:=pB.up (er.trans Z)
  have nU:=Z _ _ nR
  clear fR pR pB f8 f6 nB nR nQ sr fr sr2 st ft bD er Z S8 S6 rL nE
  dsimp only[BP]
  refine⟨_,rfl,D,rfl,⟨_,An.of nU⟩,IL Zl sGa nU lE (fun b=>b.XN) (fun e H2 R v r=>?_) (fun Do wo hDo mo lo=>?_)⟩
  ·obtain⟨t0,w1,rest,eu,M,cs⟩:=v.ak
   rw[eu]
   refine⟨_,rfl,t0,_,0,.str w1,rfl,rfl,M,Bo,rfl,_,rfl,?_⟩
   generalize e.b=b at cs r⊢
   rcases cs with⟨rfl,rfl,rfl⟩|⟨d,u,rfl,rfl,rfl,_⟩|⟨xs,m,u,rfl,rfl,rfl,_⟩|⟨ks,xs,ls,m,u,z,rfl,rfl,rfl,_⟩
   ·exact AU (by decide+kernel) r
   ·exact AU (by decide+kernel) r
   ·exact AU (by decide+kernel) r
   ·exact Ab (by decide+kernel) ⟨_,rfl,t0,_,3,.bl m,rfl,rfl,M,BA (j:=3) rfl,_,rfl,r⟩
  obtain⟨Hb,a,so,fo⟩:=BZ (o:=.lst wo) hDo
  rw[a];clear a
  have Sb:=Sa.trans so
  have sGb:=sG.trans Sb
  have fB:=so _ _ fBa
  have fR:=so _ _ fRa
  have fT:=so _ _ fT
  have pB:=pBa.up so
  have pR:=pRa.up so
  have pT:=pT.up so
  have hDb:=so _ _ nU
  clear fBa fRa pBa pRa nU hDo
  dsimp only
  refine⟨_,rfl,c,1,rfl,by decide,fun r1 _ _=>⟨_,_,rfl,rfl,(by show(0:Int)<_;decide),?_⟩⟩
  generalize r1 % 4=wy
  refine⟨_,rfl,c,2,rfl,by decide,fun nr _ _=>?_⟩
  dsimp only[BP]
  have pos:∀{l:List V},l≠[]->(0:Int)<(l.length:Int):=fun{l} h=>by
   cases l with
   |nil=>exact absurd rfl h
   |cons _ _=>simp only[List.length_cons];lia
  have pk:∀{P:List Key->Prop} {l:List V},l≠[]->Ca Hb P 23 l->∃p kk,Ja l (nr % (l.length:Int))=some (.ref p)/\Ka Hb p kk/\P kk/\kk.length<=23:=fun{P l} h pp=>by
   have mb:=Cw nr (pos h)
   obtain⟨v,hv,mv⟩:=Cd (xs:=l) mb.1 mb.2
   obtain⟨p,kk,rfl,h1,h2,h3⟩:=pp v mv
   exact⟨p,kk,hv,h1,h2,h3⟩
  have fin2:∀(Hc:Hp) (L t p:Addr) (kk:List Key),AE Hb Hc->Hc L=some (.dK [])->Ka Hc p kk->AM.HI A [] kk=false->kk.length<=23->Hc t=none->Q (.ref t) (upd Hc t (.tup [.str "table",.ref L,.ref p])):=fun Hc L t p kk s h1 h2 h3 h4 M=>
   q _ (.tab [] [] (some kk)) _ ((Sb.trans s).trans (AE.new M)) (.tup (.of AF) (.cons (.str _) (.cons (.BX (.inl ((AE.new M) _ _ h1)) rfl .nil) (.cons (CU (.of ((AE.new M) _ _ h2))) .nil)))) (by simp only[AM.ok,AM.gP,AM.DD];exact⟨rfl,.nil,by decide,by lia,trivial⟩) (by simp only[AM.good,AM.one];rw[h3];rfl) (by simp only[AM.size,AM.AL];lia) (by simp only[AM.deep,AM.AW];lia)
  refine⟨_,rfl,rfl,_,rfl,Bj (fun _=>?_) (fun _=>?_)⟩
  ·obtain⟨p,kk,a0,hp,hk,hl⟩:=pk kR pB
   refine⟨_,rfl,_,rfl,_,rfl,B,_,rfl,.inl (An.of fB),_,_,rfl,rfl,pos kR,B,_,_,_,rfl,rfl,An.of fB,a0,Ad,fun t M=>?_⟩
   exact q _ (.Ic kk) _ (Sb.trans (AE.new M)) (.tup (.of AF) (.cons (.str _) (.cons (CU (.of ((AE.new M) _ _ hp))) .nil))) (by simp only[AM.ok];lia) (by simp only[AM.good];rw[hk];rfl) (by simp only[AM.size];lia) (by simp only[AM.deep];lia)
  refine⟨_,rfl,rfl,_,rfl,Bj (fun _=>?_) (fun _=>?_)⟩
  ·obtain⟨p,kk,a0,hp,hk,hl⟩:=pk rM pR
   refine⟨Nat.zero_le _,fun L kS=>?_⟩
   obtain⟨Hc,a,S,f1⟩:=BZ (o:=.lst []) kS
   rw[a];clear a
   refine⟨_,rfl,_,rfl,_,rfl,R1,_,rfl,.inl (An.of (S _ _ fR)),_,_,rfl,rfl,pos rM,R1,_,_,_,rfl,rfl,An.of (S _ _ fR),a0,Dg,fun t M=>?_⟩
   exact q _ (.row [] (some kk)) _ ((Sb.trans S).trans (AE.new M)) (.tup (.of AF) (.cons (.str _) (.cons (.lst (.inl ((AE.new M) _ _ f1)) .nil) (.cons (CU (.of ((S.trans (AE.new M)) _ _ hp))) .nil)))) (by simp only[AM.ok,AM.gP,AM.DD];exact⟨by decide,by lia,trivial⟩) (by simp only[AM.good,AM.one];rw[hk];rfl) (by simp only[AM.size,AM.AL];lia) (by simp only[AM.deep,AM.AW];lia)
  obtain⟨p7,kk7,a7,gU,rN,nV⟩:=pk neT pT
  refine⟨_,rfl,rfl,_,rfl,Bj (fun _=>?_) (fun _=>?_)⟩
  ·refine Cr ?_
   refine fun L kS=>?_
   obtain⟨Hc,a,S,f1⟩:=BZ (o:=.dK []) kS
   rw[a];clear a
   exact⟨_,rfl,_,rfl,_,rfl,T1,_,rfl,.inl (An.of (S _ _ fT)),_,_,rfl,rfl,pos neT,T1,_,_,_,rfl,rfl,An.of (S _ _ fT),a7,Dg,fun t M=>fin2 _ _ _ _ _ S f1 (gU.up S) rN nV M⟩
  refine⟨_,rfl,Nat.zero_le _,fun pe Uv=>?_⟩
  obtain⟨Hc,a,se,fe⟩:=BZ (o:=.lst []) Uv
  rw[a];clear a
  refine⟨Do,pe,wo,rfl,rfl,An.of (se _ _ fo),An.of fe,_,rfl,?_⟩
  cases wo with
  |nil=>
   refine Cr ?_
   refine fun L kS=>?_
   obtain⟨Hd,a,S,f1⟩:=BZ (o:=.dK []) kS
   rw[a];clear a
   have S:=se.trans S
   exact⟨_,rfl,_,rfl,_,rfl,T1,_,rfl,.inl (An.of (S _ _ fT)),_,_,rfl,rfl,pos neT,T1,_,_,_,rfl,rfl,An.of (S _ _ fT),a7,Dg,fun t M=>fin2 _ _ _ _ _ S f1 (gU.up S) rN nV M⟩
  |cons v0 wo=>
   refine BK ?_
   have neO:v0::wo≠[]:=fun z=>nomatch z
   have mb:=Cw nr (pos neO)
   obtain⟨v,hv,mv⟩:=Cd (xs:=v0::wo) mb.1 mb.2
   obtain⟨U,he,rfl,Y⟩:=mo v mv
   have fo:=se _ _ fo
   have Sc:=Sb.trans se
   have kC:=sG.trans Sc
   clear fB fR fT pB pR pT fin2 pk gU a7 rN nV
   refine⟨_,rfl,_,rfl,_,rfl,Do,_,rfl,.inl (An.of fo),_,_,rfl,rfl,pos neO,Do,_,_,_,rfl,rfl,An.of fo,hv,?_⟩
   dsimp only[BP]
   have L:=Zl U he
   obtain⟨kt,xs,N,ebt⟩:∃kt xs N,U.b=.tab kt xs N true:=by
    generalize U.b=b at Y
    cases b with
    |tab k x l m=>have Y:m=true:=Y;exact⟨k,x,l,by rw[Y]⟩
    |any=>cases Y
    |As d=>cases Y
    |row x m=>cases Y
   have pk:RE G A (es.map fun e=>V.ref e.t) U.p U.ks (.tab kt xs N true):=⟨⟨U.t,U.u,List.mem_map.mpr ⟨_,he,rfl⟩,L.tp⟩,L.PZ,by rw[<-ebt];exact L.sub⟩
   refine⟨_,rfl,GX hT kC fun p5 Hd sd n5 kn=>?_⟩
   have sGd:=kC.trans sd
   obtain⟨kvs,t1,b1,l1,Sr,k1,k2,k3,k4,k5,k6⟩:=(kn.at sGd pk).ex
   have dg:Jc Hd p5 (.ref U.p) (some (.ref t1)):=.inr ⟨kvs,U.ks,U.p,.inl k1,rfl,sGd _ _ L.PZ,k2.symm⟩
   refine⟨_,rfl,p5,_,rfl,dg,?_⟩
   dsimp only[BP]
   refine⟨_,rfl,Ad,fun La hLa=>?_⟩
   obtain⟨He,a,sa,fa⟩:=BZ (o:=.lst [.str "a",.str "zq"]) hLa
   rw[a];clear a
   have Se:=(Sc.trans sd).trans sa
   refine⟨nm,La,_,_,rfl,rfl,Se _ _ kL.at_,fa,Ah (by simp only[List.length_map,List.length_cons,List.length_nil];lia),fun Lz hLz=>?_⟩
   have ez:ys.map V.str++[.str "a",.str "zq"]=(ys++(["a","zq"]:List Str)).map V.str:=by rw[List.map_append];rfl
   rw[ez]
   obtain⟨y9,hy9,n9,m9⟩:=Ul (kt:=kt) (lt:=N) l4 Y_.nd nN (by have:=Ak.Sx hA.fw pk.sub;exact this.1)
   have lz6:(ys++(["a","zq"]:List Str)).length=6:=by rw[List.length_append,l4];rfl
   generalize ys++(["a","zq"]:List Str)=g at hy9 lz6⊢
   obtain⟨Hf,a,sz,fz⟩:=BZ (o:=.lst (g.map V.str)) hLz
   rw[a];clear a
   have rO:=sa.trans sz
   have k3:=k3.up rO
   have k4:=k4.up (rO _)
   have k6:=k6.up (rO _)
   have Sf:=Se.trans sz
   have li:∀{i:Nat},i<g.length->(g.map V.str)[i]?=some (.str (g.getD i "")):=fun J=>by
    rw[List.getElem?_map,AGS J,List.getD_eq_getElem?_getD,AGS J]
    rfl
   refine⟨Lz,rfl,⟨_,An.of fz⟩,Hr (n:=g.length) (fun i=>.str (g.getD i "")) (fun i=>.str (g.getD i "")) (fun i=> !(BM Sr (Sum.inr (g.getD i ""):Key)).isSome&& !Nu (.str (g.getD i "")) (N.map V.str)) (Ah (by lia)) (fun i D2 I J Xv=>⟨_,_,(AE.new Xv).seq (An.of fz),li J⟩) (fun i D2 I v H' J Xv y=>?_) (fun D2 I Xv=>⟨_,(AE.new Xv).seq (An.of fz),by rw[List.length_map];exact Nat.le_refl _⟩) (fun i D2 I R J Xv r=>?_) (fun i D2 I R J Xv _ r=>⟨_,rfl,r⟩) fun Dl hDl=>?_⟩
   ·obtain⟨e,yl⟩:=y
    have:=yl _ ((AE.new Xv).seq (An.of fz))
    rw[li J]at this
    exact⟨(AGU this).symm,e⟩
   ·have sn:=AE.new (o:=.lst I) Xv
    refine⟨_,rfl,_,rfl,t1,_,1,_,rfl,rfl,k3.up sn,CI,b1,_,rfl,.inl ⟨Sr,Sum.inr (g.getD i ""),k4.up (sn _),rfl,rfl⟩,_,rfl,?_⟩
    cases hh:(BM Sr (Sum.inr (g.getD i ""):Key)).isSome with
    |true=>
     rw[hh]at r
     exact BK r
    |false=>
     rw[hh]at r
     refine Cr ⟨_,rfl,_,rfl,t1,_,2,_,rfl,rfl,k3.up sn,at2,l1,_,rfl,.inl (.inl (k6.up (sn _))),rfl,(by rw[List.all_eq_true];intro z hz;obtain⟨y,_,rfl⟩:=List.mem_map.mp hz;rfl),?_⟩
     refine⟨_,rfl,?_⟩
     exact r
   have mem:∀v∈(((List.range g.length).filter (fun i=> !(BM Sr (Sum.inr (g.getD i ""):Key)).isSome&& !Nu (.str (g.getD i "")) (N.map V.str))).map fun i=>V.str (g.getD i "")),∃y:Str,v=.str y/\y∉kt/\y∉N:=fun v hv=>by
    obtain⟨i,J,rfl⟩:=List.mem_map.mp hv
    obtain⟨_,h2⟩:=List.mem_filter.mp J
    rw[Bool.and_eq_true,k5,Dy]at h2
    refine⟨_,rfl,fun z=>?_,fun z=>?_⟩
    ·have h2:=h2.1
     rw[decide_eq_true z]at h2
     cases h2
    ·have h2:=h2.2
     rw[decide_eq_true z]at h2
     cases h2
   have rP:(((List.range g.length).filter (fun i=> !(BM Sr (Sum.inr (g.getD i ""):Key)).isSome&& !Nu (.str (g.getD i "")) (N.map V.str))).map fun i=>V.str (g.getD i ""))≠[]:=by
    obtain⟨i,J,e⟩:=List.getElem_of_mem hy9
    have:V.str y9∈(((List.range g.length).filter (fun i=> !(BM Sr (Sum.inr (g.getD i ""):Key)).isSome&& !Nu (.str (g.getD i "")) (N.map V.str))).map fun i=>V.str (g.getD i "")):=by
     have eg:g.getD i ""=y9:=by rw[List.getD_eq_getElem?_getD,AGS J,e];rfl
     refine List.mem_map.mpr ⟨i,List.mem_filter.mpr ⟨List.mem_range.mpr J,?_⟩,by rw[eg]⟩
     rw[eg,k5,Dy,decide_eq_false n9,decide_eq_false m9]
     rfl
    exact List.ne_nil_of_mem this
   generalize(((List.range g.length).filter (fun i=> !(BM Sr (Sum.inr (g.getD i ""):Key)).isSome&& !Nu (.str (g.getD i "")) (N.map V.str))).map fun i=>V.str (g.getD i ""))=ls at mem rP⊢
   obtain⟨Hg,a,sl,fl⟩:=BZ (o:=.lst ls) hDl
   rw[a];clear a
   have Sg:=Sf.trans sl
   dsimp only
   refine fun pd YB=>?_
   obtain⟨Hh,a,rQ,fd2⟩:=BZ (o:=.dK []) YB
   rw[a];clear a
   have mb2:=Cw (nr/7) (pos rP)
   obtain⟨v,hv,mv⟩:=Cd (xs:=ls) mb2.1 mb2.2
   obtain⟨y,rfl,ny1,ny2⟩:=mem v mv
   refine⟨_,rfl,_,rfl,_,_,rfl,rfl,⟨by decide,by decide⟩,_,rfl,Dl,_,rfl,.inl (An.of (rQ _ _ fl)),_,_,rfl,rfl,pos rP,Dl,_,_,_,rfl,rfl,An.of (rQ _ _ fl),hv,?_⟩
   refine⟨Nat.zero_le _,fun te hte=>⟨Ad,fun tf htf=>?_⟩⟩
   have s3:=AE.new (o:=.tup []) hte
   have f3:upd Hh te (.tup []) te=some (.tup []):=AF
   generalize upd Hh te (.tup [])=Hi at s3 f3 htf⊢
   obtain⟨Hj,a,s4,f4⟩:=BZ (o:=.tup [.str "from",.ref te]) htf
   rw[a];clear a
   have rR:=(s3.trans s4) _ _ fd2
   have f34:=s4 _ _ f3
   refine⟨rR,[(Sum.inr y,.ref tf)],rfl,(show 1<=15 by decide),?_⟩
   have em:CN [] [((Sum.inr y:Key),V.ref tf)]=[(Sum.inr y,.ref tf)]:=rfl
   rw[em]
   have S5:=(rQ.trans (s3.trans s4)).put (o:=.dK [((Sum.inr y:Key),V.ref tf)]) YB
   have f5:upd Hj pd (.dK [((Sum.inr y:Key),V.ref tf)]) pd=some (.dK [((Sum.inr y:Key),V.ref tf)]):=AF
   have g5:upd Hj pd (.dK [((Sum.inr y:Key),V.ref tf)]) tf=some (.tup [.str "from",.ref te]):=by rw[AJ (fun z=>by rw[z,rR]at f4;cases f4)];exact f4
   have i5:upd Hj pd (.dK [((Sum.inr y:Key),V.ref tf)]) te=some (.tup []):=by rw[AJ (fun z=>by rw[z,rR]at f34;cases f34)];exact f34
   generalize upd Hj pd (.dK [((Sum.inr y:Key),V.ref tf)])=Hk at S5 f5 g5 i5⊢
   have Sk:=Sg.trans S5
   refine⟨_,rfl,Dg,fun t M=>?_⟩
   have s6:=AE.new (o:=.tup [.str "table",.ref pd,.ref U.p]) M
   refine q _ (.tab [y] [.Ic []] (some U.ks)) _ (Sk.trans s6) (.tup (.of AF) (.cons (.str _) (.cons (.BX (.inl (s6 _ _ f5)) rfl (.cons (.tup (.of (s6 _ _ g5)) (.cons (.str _) (.cons (CU (.of (s6 _ _ i5))) .nil))) .nil)) (.cons (CU (.of (s6 _ _ (Sk _ _ (sG _ _ L.PZ))))) .nil)))) (by simp only[AM.ok,AM.gP,AM.DD];exact⟨rfl,by simp,by simp,by have:=(hA.len L.sub).1;lia,by simp,trivial⟩) ?_ (by simp only[AM.size,AM.AL];lia) (by simp only[AM.deep,AM.AW];lia)
   simp only[AM.good,AM.one]
   have:AM.HI A [y] U.ks=false:=by
    unfold AM.HI
    rw[pk.sub]
    show(true&&([y]:List Str).all (AM.DB kt N))=false
    simp only[List.all_cons,List.all_nil,AM.DB,decide_eq_false ny1,decide_eq_false ny2]
    rfl
   rw[this]
   rfl
theorem QC:Al ["_law_makes_here","_law_cell_here","_law_deep","_law_wrong_here","_law_at","_law_inner","_law_name"] ["_law_makes_here","_law_cell_here","_law_deep","_law_wrong_here"] (AI FC):={}
theorem Uz {n:Nat} {f:Addr} {fd:FuncData} (F:DN K "_law_within" "_law_within" FC f fd) (T:Txt mg) (Ku:Df P w K mg base "_law_mix" ["_law_cell_here","_law_k"] 1 EE) (NW:Df P w K mg base "_law_within" ["_law_makes_here","_law_cell_here","_law_deep","_law_wrong_here"] n (JP n)):BH P w K mg base Cs (n+1) f fd ["_law_makes_here","_law_cell_here","_law_deep","_law_wrong_here"] (JP (n+1)):=by
 obtain⟨Py,Pz,I,J,M,N⟩:=Ku.ex
 obtain⟨Zu,Zv,O,R,U,X⟩:=NW.ex
 refine F.ok QC (fun vs H Q E h=>?_) (fun Gm A outer s H vs Q E hr h=>?_)
 ·obtain⟨G,v,w,c,k,A,m,mw,rfl,sG,hv,g,hw,e_,Y,kT,kU,hk,Zg,q⟩:=h
  rfl
 ·obtain⟨G,v,w,c,k,A,m,mw,rfl,sG,hv,g,hw,e_,Y,kT,kU,hk,Zg,q⟩:=h
  have nd:=QC.nd
  have hu:=BQ hr
  have p:Ao 1 _:=hr.mm
  have u:Ao n _:=hr.mm
  refine⟨_,(AD (Ap (PW.pt (pw_and (AO BD (Br K 0) AR (AS _)) (pw_and (AO (Vm (Ao.JY hr)) (Br K 0) (A_ AB) (AS _)) (pw_and1 (AO LS (AN Aq (AK N p rfl M I J .nil AX (AA (pv 1) (AA (pv 2) AB))) AG) AG (AS _)))))) (AD (Ai 4 nd (AN Aq (AN Bh (AK N p rfl M I J .nil AX (AA (pv 1) (AA (pv 2) AB))) AG) (AY Ag rfl T.len PySem.boot_len (AA (Br K 0) AB))))
   (AD (Ai 5 nd (AN My (AN My (DR (r:=VS K) JD (Br K 0) Ep (Dh (pv 4))) (A_ (AA (AK X u rfl U O R .nil AX (AA (Az (r:=Bp K) Ae (Br K 0) (pv 4) (fun _ _=>rfl)) (AA (pv 1) (AA (AN By (pv 2) AG) (AA (pv 3) AB))))) AB))) (DR (r:=VS K) JD (Br K 0) (Dh (AN By (pv 4) AG)) Ep)))
   (AH (AQ (Aa (AA AR (AA (pv 5) (AA (Br K 0) AB)))))))) AV)
   (AD (Ap (PW.pt (pw_and (AO BD (Br K 0) AR (AS _)) (pw_and (AO (ZC (Ao.units hr):EL _ _ Wy) (Br K 0) Dv (AS _)) (pw_and1 (AO LS (AN Aq (AK N p rfl M I J .nil AX (AA (pv 1) (AA (pv 2) AB))) AG) AG (AS _)))))) (AD (Ai 5 nd (BR FT rfl T.dict Ce (AA (Br K 0) AB)))
   (AD (Ai 6 nd (Az (r:=Bp K) Ae (AY (Cv rfl) rfl T.sorted Ed (AA (pv 5) AB)) (AN Aq (AN Bh (AK N p rfl M I J .nil AX (AA (pv 1) (AA (pv 2) AB))) AG) (AY UC rfl T.len PySem.boot_len (AA (pv 5) AB))) (fun _ _=>rfl)))
   (AD (Gk hu (pv 5) (pv 6) (AK X u rfl U O R .nil AX (AA (Bw hu (pv 5) (pv 6) (fun _ _=>rfl)) (AA (pv 1) (AA (AN By (pv 2) AG) (AA (pv 3) AB))))) rfl)
   (AH (AQ (Aa (AA AR (AA (pv 5) (AA (Br K 0) AB))))))))) AV)
   (AD (Ap (AO BD (AN Aq (AN Bh (AK N p rfl M I J .nil AX (AA (pv 1) (AA (pv 2) AB))) AG) AG) AG (AS _)) (AH (AQ (Aa (AA AR (AA (A_ (AA (pv 0) (AA (pv 3) AB))) (AA CL AB)))))) AV)
   (AH (AQ (pv 3)))))),?_⟩
  obtain⟨B,w0,rest,rfl,eP,cs⟩:=hv.jI
  have ht:=eP.up sG
  refine Ew (t:=MN _ _ _) (fun σ' H1=>σ'=[some (.ref B),some (.int c),some (.int (k:Int)),some w,none,none,none]/\AE H H1) ?_ ?_
  rotate_left
  ·intro go
   by_cases Z:w0="row"
   ·rcases cs with⟨_,_,_,e,_⟩|⟨_,_,_,e,_⟩|⟨xs,o,x,z,rfl,rfl,rfl,hx,hz⟩|⟨_,_,_,_,_,_,e,_⟩
    ·rw[e]at Z;exact absurd Z (by decide)
    ·rw[e]at Z;exact absurd Z (by decide)
    ·obtain⟨a1,a,rfl,rS,r1⟩:=hx.Mq
     have NZ:=rS.up (sG _)
     have lv:=r1.length
     rw[AM.AZ,List.length_map]at lv
     simp only[AM.ok]at g
     simp only[AM.deep]at hk Zg
     refine⟨_,rfl,B,_,0,_,rfl,rfl,ht,Bo,rfl,_,rfl,Ab (by decide+kernel) ?_⟩
     refine⟨_,rfl,B,_,1,_,rfl,rfl,ht,CI,Nat.zero_le _,fun pe Uv=>?_⟩
     have se:=AE.new (o:=.lst []) Uv
     refine⟨a1,pe,a,rfl,rfl,.inl (NZ.up (se _)),An.of AF,_,rfl,?_⟩
     generalize upd H pe (.lst [])=H1 at se⊢
     refine Bj (fun Xy=>?_) (fun _=>BK (go _ _ ⟨rfl,se⟩))
     have l0:0<a.length:=by cases a with|nil=>cases Xy|cons _ _=>simp
     refine⟨_,rfl,_,rfl,c,k,rfl,by lia,fun r _ _=>⟨_,_,rfl,rfl,(by show(0:Int)<_;decide),_,_,rfl,rfl,_,rfl,Bj (fun _=>?_) (fun _=>go _ _ ⟨rfl,se⟩)⟩⟩
     have XX:=ht.up se
     have hr2:=NZ.up (se _)
     refine⟨_,rfl,_,rfl,c,k,rfl,by lia,fun r2 _ _=>⟨_,_,rfl,rfl,⟨by decide,by decide⟩,_,rfl,B,_,1,_,rfl,rfl,XX,CI,a1,_,rfl,.inl (.inl hr2),_,_,rfl,rfl,(by show(0:Int)<_;lia),?_⟩⟩
     have mb:=Cw (r2/4) (n:=(a.length:Int)) (by lia)
     obtain⟨i,ei⟩:∃i:Nat,r2/4 % (a.length:Int)=(i:Int):=⟨(r2/4 % (a.length:Int)).toNat,by lia⟩
     have hi:i<a.length:=by lia
     rw[ei]
     dsimp only[BP]
     obtain⟨y,hy⟩:∃y,a[i]?=some y:=⟨_,AGS hi⟩
     obtain⟨ty,g1,g2⟩:=r1.get hy
     rw[AM.AZ,List.getElem?_map]at g1
     cases hb:xs[i]? with
     |none=>rw[hb]at g1;cases g1
     |some b=>
      rw[hb]at g1
      cases g1
      have bm:=AGV hb
      have zd:=AM.BI bm
      refine⟨_,rfl,B,_,1,_,rfl,rfl,XX,CI,_,rfl,i,rfl,a1,a,rfl,.inl hr2,fun q1 RP=>?_⟩
      rw[YW]
      obtain⟨H2,eH,s2,f2⟩:=BZ (o:=.lst (a.take i)) RP
      rw[eH];clear eH
      have S2:=se.trans s2
      have ek:(k:Int)+1=((k+1:Nat):Int):=by lia
      refine⟨_,rfl,B,_,1,_,rfl,rfl,ht.up S2,CI,_,rfl,a1,_,_,_,rfl,rfl,.inl (NZ.up (S2 _)),BA hy,_,rfl,_,rfl,_,_,rfl,rfl,_,rfl,G,y,w,c,k+1,A,b,mw,by rw[ek];rfl,sG.trans S2,g2,AM.Bx g.2.2 b bm,hw,e_,Y,kT,kU,by lia,by lia,fun C m' H3 s3 v3 rT rV sz3 dp3=>?_⟩
      have f3:=s3 _ _ f2
      have S3:=S2.trans s3
      refine⟨Ax,fun q2 nW=>?_⟩
      have s4:=AE.new (o:=.lst [C]) nW
      have f4:upd H3 q2 (.lst [C]) q2=some (.lst [C]):=AF
      have f34:=s4 _ _ f3
      generalize upd H3 q2 (.lst [C])=H4 at s4 f4 f34⊢
      refine⟨q1,q2,_,_,rfl,rfl,.inl f34,.inl f4,Ah (by rw[List.length_take,List.length_singleton];lia),fun q3 rW=>?_⟩
      obtain⟨H5,eH,s5,f5⟩:=BZ (o:=.lst (a.take i++[C])) rW
      rw[eH];clear eH
      have S5:=S3.trans (s4.trans s5)
      have ei1:(i:Int)+1=((i+1:Nat):Int):=by lia
      refine⟨_,rfl,B,_,1,_,rfl,rfl,ht.up S5,CI,_,rfl,_,_,rfl,rfl,_,rfl,a1,a,rfl,.inl (NZ.up (S5 _)),fun q4 hq4=>?_⟩
      rw[ei1,Lj]
      have s6:=AE.new (o:=.lst (a.drop (i+1))) hq4
      have f6:upd H5 q4 (.lst (a.drop (i+1))) q4=some (.lst (a.drop (i+1))):=AF
      have f56:=s6 _ _ f5
      generalize upd H5 q4 (.lst (a.drop (i+1)))=H6 at s6 f6 f56⊢
      refine⟨q3,q4,_,_,rfl,rfl,.inl f56,.inl f6,Ah (by rw[List.length_append,List.length_take,List.length_singleton,List.length_drop];lia),fun q5 hq5=>?_⟩
      have es:a.take i++[C]++a.drop (i+1)=a.set i C:=by rw[List.append_assoc,List.set_eq_take_append_cons_drop,if_pos hi];rfl
      rw[es]
      obtain⟨H7,eH,s7,f7⟩:=BZ (o:=.lst (a.set i C)) hq5
      rw[eH];clear eH
      have S7:=S5.trans (s6.trans s7)
      have S37:=(s4.trans s5).trans (s6.trans s7)
      dsimp only[BP]
      refine⟨_,rfl,_,rfl,B,_,2,z,rfl,rfl,ht.up S7,at2,Dg,fun t9 D=>?_⟩
      have s9:=AE.new (o:=.tup [.str "row",.ref q5,z]) D
      obtain⟨h1,h2,h3,h4,h5⟩:=AM.Sw (A:=A) hb g.2.2 rT rV sz3 dp3
      have e:AM.CY (xs.set i m')=(AM.CY xs).set i m'.pt:=by rw[AM.AZ,AM.AZ,List.map_set]
      have vl:Aj (ov G H H7) (a.set i C) (AM.CY (xs.set i m')):=by
       rw[e]
       exact Aj.de (r1.up DE) (v3.up (BL (fun b h=>S2.free h) fun b o _ e=>S37 _ _ e)) i
      refine q _ (.row (xs.set i m') o) _ (S7.trans s9) (Kg sG (fun b h=>S7.free h) ((S5.trans s6).free hq5) f7 vl (hz.up DE) D) ?_ ?_ ?_ ?_
      ·simp only[AM.ok]
       exact⟨by rw[h5];exact g.1,g.2.1,h1⟩
      ·simp only[AM.good,h2,Bool.and_false]
      ·simp only[AM.size];lia
      ·simp only[AM.deep];lia
    ·rw[e]at Z;exact absurd Z (by decide)
   ·refine⟨_,rfl,B,_,0,_,rfl,rfl,ht,Bo,rfl,_,rfl,AU ?_ (BK (go _ _ ⟨rfl,AE.refl _⟩))⟩
    exact decide_eq_false fun z=>Z (V.str.inj z)
  rintro σ' H1 ⟨rfl,s1⟩
  refine Ew (t:=MN _ _ _) (fun σ' H1=>σ'=[some (.ref B),some (.int c),some (.int (k:Int)),some w,none,none,none]/\AE H H1) ?_ ?_
  rotate_left
  ·intro go
   have XX:=ht.up s1
   by_cases fF:w0="table"
   ·rcases cs with⟨_,_,_,e,_⟩|⟨_,_,_,e,_⟩|⟨_,_,_,_,_,e,_⟩|⟨ns,xs,o,x,z,rfl,rfl,rfl,hx,hz⟩
    ·rw[e]at fF;exact absurd fF (by decide)
    ·rw[e]at fF;exact absurd fF (by decide)
    ·rw[e]at fF;exact absurd fF (by decide)
    ·obtain⟨a1,d,rfl,rS,IV,r1⟩:=hx.Qi
     have NZ:=rS.up (sG _)
     have kl:d.length=ns.length:=by have:=congrArg List.length IV;simpa using this
     simp only[AM.ok]at g
     simp only[AM.deep]at hk Zg
     refine⟨_,rfl,B,_,0,_,rfl,rfl,XX,Bo,rfl,_,rfl,Ab (by decide+kernel) ?_⟩
     refine⟨_,rfl,B,_,1,_,rfl,rfl,XX,CI,fun pe Uv=>?_⟩
     have se:=AE.new (o:=.dK []) Uv
     refine⟨a1,pe,d,rfl,rfl,(NZ.up (s1 _)).up (se _),AF,_,rfl,?_⟩
     generalize upd H1 pe (.dK [])=H2 at se⊢
     have S2:=s1.trans se
     refine Bj (fun Xy=>?_) (fun _=>BK (go _ _ ⟨rfl,S2⟩))
     have l0:0<d.length:=by cases d with|nil=>cases Xy|cons _ _=>simp
     refine⟨_,rfl,_,rfl,c,k,rfl,by lia,fun r _ _=>⟨_,_,rfl,rfl,(by show(0:Int)<_;decide),_,_,rfl,rfl,_,rfl,Bj (fun _=>?_) (fun _=>go _ _ ⟨rfl,S2⟩)⟩⟩
     have RM:=ht.up S2
     refine⟨_,rfl,B,_,1,_,rfl,rfl,RM,CI,a1,d,rfl,NZ.up (S2 _),fun p6 Ze=>?_⟩
     have s3:=AE.new (o:=.dK d) Ze
     have f3:upd H2 p6 (.dK d) p6=some (.dK d):=AF
     have n6:H p6=none:=S2.free Ze
     generalize upd H2 p6 (.dK d)=H3 at s3 f3⊢
     have S3:=S2.trans s3
     dsimp only[BP]
     refine⟨_,rfl,p6,d,ns,rfl,.inl f3,IV,by lia,fun L ss H4 nL s4 fL pm st=>?_⟩
     have f4:=s4 _ _ f3
     have S4:=S3.trans s4
     have jt:=pm.length_eq
     refine⟨_,rfl,_,rfl,c,k,rfl,by lia,fun r2 _ _=>⟨_,_,rfl,rfl,⟨by decide,by decide⟩,_,rfl,p6,d,rfl,.inl f4,_,_,rfl,rfl,(by show(0:Int)<_;lia),?_⟩⟩
     have mb:=Cw (r2/4) (n:=(d.length:Int)) (by lia)
     obtain⟨i,ei⟩:∃i:Nat,r2/4 % (d.length:Int)=(i:Int):=⟨(r2/4 % (d.length:Int)).toNat,by lia⟩
     have hi:i<ss.length:=by lia
     rw[ei]
     obtain⟨y,hy⟩:∃y,ss[i]?=some y:=⟨_,AGS hi⟩
     refine⟨L,_,_,_,rfl,rfl,An.of fL,BA (by rw[List.getElem?_map,hy];rfl),?_⟩
     dsimp only
     obtain⟨j,hj⟩:=List.getElem?_of_mem (pm.mem_iff.mp (AGV hy))
     have hj':=(AGT hj).1
     have ek1:=Wa IV
     generalize hvs:d.map (·.2)=a at ek1 r1
     have Xi:ns.length=a.length:=by rw[<-hvs,List.length_map,kl]
     obtain⟨x1,hx1⟩:∃x1,a[j]?=some x1:=⟨_,AGS (by lia)⟩
     obtain⟨ty,g1,g2⟩:=r1.get hx1
     rw[AM.AZ,List.getElem?_map]at g1
     cases hb:xs[j]? with
     |none=>rw[hb]at g1;cases g1
     |some b=>
      rw[hb]at g1
      cases g1
      have bm:=AGV hb
      have zd:=AM.BI bm
      have gv:BM d (Sum.inr y)=some x1:=by
       refine KW (i:=j) ?_ ?_
       ·rw[IV];exact List.pairwise_map.mpr (g.2.1.imp fun h e=>h (Sum.inr.inj e))
       ·have gR:j<d.length:=by lia
        have e1:=congrArg (fun l=>l[j]?) IV
        have e2:=congrArg (fun l=>l[j]?) hvs
        simp only[List.getElem?_map,hj,hx1,AGS gR,Option.map_some,Option.some.injEq]at e1 e2
        rw[AGS gR]
        exact congrArg some (Prod.ext e1 e2)
      have ek:(k:Int)+1=((k+1:Nat):Int):=by lia
      refine⟨_,rfl,_,rfl,p6,x1,rfl,.inl ⟨d,Sum.inr y,.inl f4,rfl,gv.symm⟩,_,rfl,_,rfl,_,_,rfl,rfl,_,rfl,G,x1,w,c,k+1,A,b,mw,by rw[ek];rfl,sG.trans S4,g2,AM.Bx g.2.2.2.2 b bm,hw,e_,Y,kT,kU,by lia,by lia,fun C m' H5 s5 v5 jq rX mx my=>?_⟩
      have f5:=s5 _ _ f4
      have S5:=S4.trans s5
      refine⟨_,rfl,_,rfl,p6,_,rfl,.inl ⟨d,Sum.inr y,f5,rfl,BG (by lia),rfl⟩,?_⟩
      have ep:putK d (Sum.inr y) C=CO ns (a.set j C):=by
       rw[ek1]
       exact ZO Xi g.2.1 hj C
      rw[ep]
      have S6:AE H (upd H5 p6 (.dK (CO ns (a.set j C)))):=S5.put n6
      have f6:upd H5 p6 (.dK (CO ns (a.set j C))) p6=some (.dK (CO ns (a.set j C))):=AF
      have e:AM.CY (xs.set j m')=(AM.CY xs).set j m'.pt:=by rw[AM.AZ,AM.AZ,List.map_set]
      have vl:Aj (ov G H (upd H5 p6 (.dK (CO ns (a.set j C))))) (a.set j C) (AM.CY (xs.set j m')):=by
       rw[e]
       refine Aj.de (r1.up DE) (v5.up (BL (fun b h=>S4.free h) fun b o h1 h2=>?_)) j
       rw[AJ (fun z=>by rw[z,f4]at h1;cases h1)]
       exact h2
      generalize upd H5 p6 (.dK (CO ns (a.set j C)))=H6 at S6 f6 vl⊢
      refine⟨_,rfl,_,rfl,B,_,2,z,rfl,rfl,ht.up S6,at2,Dg,fun t9 D=>?_⟩
      have s9:=AE.new (o:=.tup [.str "table",.ref p6,z]) D
      obtain⟨h1,h2,h3,h4,h5⟩:=AM.Sw (A:=A) hb g.2.2.2.2 jq rX mx my
      refine q _ (.tab ns (xs.set j m') o) _ (S6.trans s9) (NI sG (fun b h=>S6.free h) n6 (by rw[List.length_set];exact Xi) f6 vl (hz.up DE) D) ?_ ?_ ?_ ?_
      ·simp only[AM.ok]
       exact⟨by rw[h5];exact g.1,g.2.1,g.2.2.1,g.2.2.2.1,h1⟩
      ·simp only[AM.good,h2,Bool.and_false]
      ·simp only[AM.size];lia
      ·simp only[AM.deep];lia
   ·refine⟨_,rfl,B,_,0,_,rfl,rfl,XX,Bo,rfl,_,rfl,AU ?_ (BK (go _ _ ⟨rfl,s1⟩))⟩
    exact decide_eq_false fun z=>fF (V.str.inj z)
  rintro σ' H2 ⟨rfl,s2⟩
  refine⟨_,rfl,_,rfl,c,k,rfl,by lia,fun r _ _=>⟨_,_,rfl,rfl,⟨by decide,by decide⟩,_,_,rfl,rfl,(by show(0:Int)<_;decide),rfl,_,rfl,Bj (fun _=>?_) (fun _=>?_)⟩⟩
  ·refine⟨_,rfl,_,rfl,Ad,fun q1 RP=>⟨Dg,fun t9 D=>?_⟩⟩
   have s3:=AE.new (o:=.lst [.ref B,w]) RP
   have f3:upd H2 q1 (.lst [.ref B,w]) q1=some (.lst [.ref B,w]):=AF
   generalize upd H2 q1 (.lst [.ref B,w])=H3 at s3 f3 D⊢
   have s9:=AE.new (o:=.tup [.str "row",.ref q1,.Av]) D
   have S:=(s2.trans s3).trans s9
   refine q _ (.row [m,mw] none) _ S (Kg sG (fun b h=>(s2.trans s3).free h) (s2.free RP) f3 (.cons (hv.up DE) (.cons (hw.up DE) .nil)) .Av D) ?_ ?_ ?_ ?_
   ·simp only[AM.ok,AM.DD]
    exact⟨by show 2<=900;decide,trivial,g,e_,trivial⟩
   ·simp only[AM.good,AM.EK,Y,Bool.false_and,Bool.and_false]
   ·simp only[AM.size,AM.AL];lia
   ·simp only[AM.deep,AM.AW];have:=AM.FW m;lia
  ·exact⟨_,rfl,q _ mw _ s2 (hw.up DE) e_ Y (by have:=AM.size_pos m;lia) (by have:=AM.FW m;lia)⟩
theorem Kv {f:Addr} {c:FuncData} (F:DN K "_law_within" "_law_within" FC f c) (T:Txt mg) (b:Binds K c ["_law_makes_here","_law_cell_here","_law_deep","_law_wrong_here"] []) (m:mg "_law_within"=some (.ref f)) (a:Df P w K mg base "_law_mix" ["_law_cell_here","_law_k"] 1 EE):∀n:Nat,BH P w K mg base Cs n f c ["_law_makes_here","_law_cell_here","_law_deep","_law_wrong_here"] (JP n)
 |0=>Jl (fun vs H Q E h=>by obtain⟨_,_,_,_,_,_,_,_,_,_,_,_,_,_,_,_,_,_,d,_⟩:=h;omega)
 |n+1=>Uz F T a (Df.mk' F b m (Kv F T b m a n))
theorem bW:Al ["_law_makes_here","_law_found","_law_one","_law_name"] ["_law_makes_here"] (AI RI):={}
theorem fG {n:Nat} {f:Addr} {fd:FuncData} (F:DN K "_law_all" "_law_all" RI f fd) (T:Txt mg) (fH:Df P w K mg base "_law_all" ["_law_makes_here"] n (NK n)):BH P w K mg base Cs (n+1) f fd ["_law_makes_here"] (NK (n+1)):=by
 obtain⟨rY,rZ,Zw,Zx,Zy,Zz⟩:=fH.ex
 refine F.ok bW (fun vs H Q E h=>?_) (fun Gm A outer s H vs Q E hr h=>?_)
 ·obtain⟨G,v,A,m,rfl,sG,hv,U,X,hsz,Zg,q⟩:=h
  rfl
 ·obtain⟨G,v,A,m,rfl,sG,hv,U,X,hsz,Zg,q⟩:=h
  have nd:=bW.nd
  have hu:=BQ hr
  have R:Ao n _:=hr.mm
  refine⟨_,(AD (Ai 1 nd (A_ (AA (pv 0) AB)))
   (AD (Ap (AO BD (Br K 0) AR (AS _)) (AH (CM PassesOwn.never rfl (Bg (Br K 0)) (C_ 2 nd) (AH (DL (FF PySem.F.plainAttrs_list PySem.F.slot_list_extend PySem.F.type_list_extend Cj (pv 1) (AA (AK Zz R rfl Zy Zw Zx .nil AX (AA (pv 2) AB)) AB)))))) AV)
   (AD (Ap (AO BD (Br K 0) AR (AS _)) (AH (Yi (CM PassesOwn.never rfl (JH (Br K 0)) (C_ 3 nd) (AH (DL (FF PySem.F.plainAttrs_list PySem.F.slot_list_extend PySem.F.type_list_extend Cj (pv 1) (AA (AK Zz R rfl Zy Zw Zx .nil AX (AA (Bw hu (Br K 0) (pv 3) (fun _ _=>rfl)) AB)) AB))))))) AV)
   (AH (AQ (pv 1)))))),?_⟩
  obtain⟨I,w0,rest,rfl,c,cs⟩:=hv.jI
  refine⟨_,rfl,Ax,fun D hD=>?_⟩
  obtain⟨H1,eH,C,f1⟩:=BZ (o:=.lst [.ref I]) hD
  rw[eH];clear eH
  dsimp only[BP]
  have fin:∀(k:List V) (j:Hp),AE H j->j D=some (.lst k)->k.length<=m.size->(∀w∈k,∃g,Val (K:=K) G w (AM.pt g)/\g.ok/\g.good A=true/\g.size<=m.size)->Q (.ref D) j:=fun k j s h l a=>q D k j s hD h l a
  have a0:∀w∈[V.ref I],∃g,Val (K:=K) G w (AM.pt g)/\g.ok/\g.good A=true/\g.size<=m.size:=fun w hw=>by rw[List.mem_singleton.mp hw];exact⟨m,hv,U,X,Nat.le_refl _⟩
  have J:∀{j:Hp},AE H j->LI G j:=fun s=>sG.trans (.of s)
  have sp:=AM.size_pos m
  rcases cs with⟨p,x,rfl,rfl,rfl,hx⟩|⟨d,x,rfl,rfl,rfl,hx⟩|⟨xs,o,x,z,rfl,rfl,rfl,hx,hz⟩|⟨ns,xs,o,x,z,rfl,rfl,rfl,hx,hz⟩
  ·refine⟨_,rfl,I,_,0,_,rfl,rfl,Bf.Hy c (J C),Bo,rfl,_,rfl,AU (by decide+kernel) ?_⟩
   refine⟨_,rfl,I,_,0,_,rfl,rfl,Bf.Hy c (J C),Bo,rfl,_,rfl,AU (by decide+kernel) ?_⟩
   exact⟨_,rfl,fin _ _ C f1 (by simp;lia) a0⟩
  ·refine⟨_,rfl,I,_,0,_,rfl,rfl,Bf.Hy c (J C),Bo,rfl,_,rfl,AU (by decide+kernel) ?_⟩
   refine⟨_,rfl,I,_,0,_,rfl,rfl,Bf.Hy c (J C),Bo,rfl,_,rfl,AU (by decide+kernel) ?_⟩
   exact⟨_,rfl,fin _ _ C f1 (by simp;lia) a0⟩
  ·refine⟨_,rfl,I,_,0,_,rfl,rfl,Bf.Hy c (J C),Bo,rfl,_,rfl,Ab (by decide+kernel) ?_⟩
   obtain⟨a1,kK,rfl,Y,r1⟩:=hx.Mq
   have lv:=r1.length
   rw[AM.AZ,List.length_map]at lv
   have L:=U
   have S:=X
   simp only[AM.ok]at L
   simp only[AM.good,Bool.and_eq_true]at S
   simp only[AM.size]at hsz fin a0 sp
   simp only[AM.deep]at Zg
   refine⟨_,rfl,I,_,1,_,rfl,rfl,Bf.Hy c (J C),CI,a1,rfl,⟨_,.inl ((J C).rd _ _ Y)⟩,DQ (K:=K) (xs:=kK) (fun i Z j=>∃(k:List V) (o2:Option V),Z=[some (.ref I),some (.ref D),o2,none]/\AE H j/\j D=some (.lst k)/\k.length<=1+AM.AL (xs.take i)/\∀w∈k,∃g,Val (K:=K) G w (AM.pt g)/\g.ok/\g.good A=true/\g.size<=1+AM.AL xs)
    ⟨_,none,rfl,C,f1,by simp,a0⟩ (fun i Z j _ ⟨_,_,_,s,_⟩=>.inl ((J s).rd _ _ Y)) ?_ ?_⟩
   ·rintro i y Z j hy ⟨k,o2,rfl,O,B,lw,aw⟩
    obtain⟨ty,M,h2⟩:=r1.get hy
    rw[AM.AZ,List.getElem?_map]at M
    cases N:xs[i]? with
    |none=>rw[N]at M;cases M
    |some b=>
     rw[N]at M
     cases M
     have bm:=AGV N
     obtain⟨z1,z2⟩:=AM.Kh N
     have zd:=AM.BI bm
     have zb:=AM.Cm bm
     have gb:b.good A=true:=by
      have:=S.2
      rw[AM.Bc,List.all_eq_true]at this
      exact this b bm
     refine⟨_,rfl,.inl ⟨rfl,_,An.of B⟩,_,rfl,G,y,A,b,rfl,J O,h2,AM.Bx L.2.2 b bm,gb,by lia,by lia,fun D7 kO H7 s7 n7 f7 l7 a7=>?_⟩
     have rg:=s7 _ _ B
     refine⟨D,D7,_,_,rfl,rfl,rg,f7,CT (by lia),k++kO,_,rfl,fun b o e=>by rw[AJ (fun z=>by rw[z,hD]at e;cases e)];exact(O.trans s7) _ _ e,AF,by rw[List.length_append];lia,fun w hw=>?_⟩
     rcases List.mem_append.mp hw with hw|hw
     ·exact aw w hw
     ·obtain⟨g,g1,g2,g3,g4⟩:=a7 w hw
      exact⟨g,g1,g2,g3,by lia⟩
   ·rintro Z j ⟨k,o2,rfl,O,B,lw,aw⟩
    rw[lv,List.take_length]at lw
    refine⟨_,rfl,I,_,0,_,rfl,rfl,Bf.Hy c (J O),Bo,rfl,_,rfl,AU (by decide+kernel) ?_⟩
    exact⟨_,rfl,fin _ _ O B lw aw⟩
  ·refine⟨_,rfl,I,_,0,_,rfl,rfl,Bf.Hy c (J C),Bo,rfl,_,rfl,AU (by decide+kernel) ?_⟩
   refine⟨_,rfl,I,_,0,_,rfl,rfl,Bf.Hy c (J C),Bo,rfl,_,rfl,Ab (by decide+kernel) ?_⟩
   obtain⟨a1,t,rfl,Y,IV,r1⟩:=hx.Qi
   have kl:t.length=ns.length:=by have:=congrArg List.length IV;simpa using this
   have L:=U
   have S:=X
   simp only[AM.ok]at L
   simp only[AM.good,Bool.and_eq_true]at S
   simp only[AM.size]at hsz fin a0 sp
   simp only[AM.deep]at Zg
   have lx:ns.length=xs.length:=L.1
   have kW:=(J C).rd _ _ Y
   refine⟨a1,t,kW,fun oF Hf F=>⟨_,rfl,I,_,1,_,rfl,rfl,Bf.Hy c ((J C).trans (.Cg F)),CI,a1,oF,t,rfl,F.at_,?_⟩⟩
   have Da:D≠a1:=fun z=>by
    rcases kW with h|⟨o',h⟩<;>rw[<-z,f1]at h<;>cases h
   have fDf:Hf D=some (.lst [.ref I]):=by rw[F.ne D Da];exact f1
   refine V_ (fun i Z j=>∃(k:List V) (o3:Option V),Z=[some (.ref I),some (.ref D),none,o3]/\(∀b e,b≠D->Hf b=some e->j b=some e)/\j D=some (.lst k)/\k.length<=1+AM.AL (xs.take i)/\∀w∈k,∃g,Val (K:=K) G w (AM.pt g)/\g.ok/\g.good A=true/\g.size<=1+AM.AL xs)
    ⟨_,none,rfl,fun b e _ h=>h,fDf,by simp,a0⟩ (fun i Z j _ ⟨_,_,_,s,_⟩=>s _ _ (Ne.symm Da) F.at_) ?_ ?_
   ·rintro i key y Z j hy ⟨k,o3,rfl,O,B,lw,aw⟩
    have kf:LI G Hf:=(J C).trans (.Cg F)
    have kI:LI G j:=kf.but (fun u r=>by rcases sG.rd _ _ r with h|⟨o',h⟩<;>rw[hD]at h<;>cases h) O
    obtain⟨ty,M,h2⟩:=r1.get (show(t.map (·.2))[i]?=some y by rw[List.getElem?_map,hy];rfl)
    rw[AM.AZ,List.getElem?_map]at M
    cases N:xs[i]? with
    |none=>rw[N]at M;cases M
    |some b=>
     rw[N]at M
     cases M
     have bm:=AGV N
     obtain⟨z1,z2⟩:=AM.Kh N
     have zd:=AM.BI bm
     have zb:=AM.Cm bm
     have gb:b.good A=true:=by
      have:=S.2
      rw[AM.Bc,List.all_eq_true]at this
      exact this b bm
     have ndk:(t.map (·.1)).Nodup:=by rw[IV];exact List.pairwise_map.mpr (L.2.1.imp fun h e=>h (Sum.inr.inj e))
     have rd:Rd j a1 (.dK t):=.inr ⟨oF,O _ _ (Ne.symm Da) F.at_⟩
     refine⟨_,rfl,.inl ⟨rfl,_,An.of B⟩,_,rfl,I,_,1,_,rfl,rfl,Bf.Hy c kI,CI,_,rfl,a1,y,rfl,.inl ⟨_,key,rd,rfl,(KW ndk hy).symm⟩,G,y,A,b,rfl,kI,h2,AM.Bx L.2.2.2.2 b bm,gb,by lia,by lia,fun D7 kO H7 s7 n7 f7 l7 a7=>?_⟩
     have rg:=s7 _ _ B
     refine⟨D,D7,_,_,rfl,rfl,rg,f7,CT (by lia),k++kO,_,rfl,fun b e M h2=>by rw[AJ M];exact s7 _ _ (O b e M h2),AF,by rw[List.length_append];lia,fun w hw=>?_⟩
     rcases List.mem_append.mp hw with hw|hw
     ·exact aw w hw
     ·obtain⟨g,g1,g2,g3,g4⟩:=a7 w hw
      exact⟨g,g1,g2,g3,by lia⟩
   ·rintro Z j ⟨k,o3,rfl,O,B,lw,aw⟩
    rw[kl,lx,List.take_length]at lw
    refine⟨O _ _ (Ne.symm Da) F.at_,?_⟩
    refine⟨_,rfl,fin k _ (fun b e h=>?_) (by rw[Fl Da];exact B) lw aw⟩
    by_cases N:b=a1
    ·subst N
     rw[Rz]
     exact C _ _ h
    ·rw[Fl N]
     refine O b e (fun z=>by rw[z,hD]at h;cases h) ?_
     rw[F.ne b N]
     exact C _ _ h
theorem TV {f:Addr} {a:FuncData} (F:DN K "_law_all" "_law_all" RI f a) (T:Txt mg) (b:Binds K a ["_law_makes_here"] []) (m:mg "_law_all"=some (.ref f)):∀n:Nat,BH P w K mg base Cs n f a ["_law_makes_here"] (NK n)
 |0=>Jl (fun vs H Q E h=>by obtain⟨_,_,_,_,_,_,_,_,_,_,c,_⟩:=h;omega)
 |n+1=>fG F T (Df.mk' F b m (TV F T b m n))
theorem TX:Al ["_law_asks_here","_law_cell_here","_law_names_here","_law_way","_law_number","_law_k","_law_more","_law_cells"] ["_law_asks_here","_law_cell_here","_law_names_here"] (AI IU):={}
theorem Xw {f:Addr} {fd:FuncData} (F:DN K "_law_large" "_law_large" IU f fd) (T:Txt mg) (Ku:Df P w K mg base "_law_mix" ["_law_cell_here","_law_k"] 1 EE):BH P w K mg base Cs 2 f fd ["_law_asks_here","_law_cell_here","_law_names_here"] SH:=by
 obtain⟨Py,Pz,e,g,l,p⟩:=Ku.ex
 refine F.ok TX (fun vs H Q E h=>?_) (fun Gm A outer s H vs Q E hr h=>?_)
 ·obtain⟨v,a0,c,nm,ys,rfl,hv,Y,za,da,Z,hn,q⟩:=h
  rfl
 ·obtain⟨v,a0,c,nm,ys,rfl,hv,Y,za,da,Z,hn,q⟩:=h
  have nd:=TX.nd
  have hu:=BQ hr
  have d:Ao 1 _:=hr.mm
  refine⟨_,(AD (Ai 3 nd (AN Aq (AK p d rfl l e g .nil AX (AA (pv 1) (AA AG AB))) AG))
   (AD (Ai 4 nd (AK p d rfl l e g .nil AX (AA (pv 1) (AA AG AB))))
   (AD (Ap (AO BD (pv 3) AG (AS _)) (AH (CM PassesOwn.never rfl (BJ rfl T.range (AA (AN By AG (AN Aq (pv 4) AG)) AB)) (C_ 5 nd) (AD (Ai 6 nd (CH BD (AN Aq (AN Bh (AK p d rfl l e g .nil AX (AA (pv 1) (AA AG AB))) (Az (r:=Bp K) Ae (@A_ _ _ _ _ (@AA _ _ _ _ _ (@AG _ _ _ _) (@AA _ _ _ _ _ (@AG _ _ _ _) (@AA _ _ _ _ _ (@AG _ _ _ _) (@AA _ _ _ _ _ (@AG _ _ _ _) (@AA _ _ _ _ _ (@AG _ _ _ _) (@AA _ _ _ _ _ (@AG _ _ _ _) (@AA _ _ _ _ _ (@AG _ _ _ _) (@AA _ _ _ _ _ (@AG _ _ _ _) (@AA _ _ _ _ _ (@AG _ _ _ _) (@AA _ _ _ _ _ (@AG _ _ _ _) AB rfl) rfl) rfl) rfl) rfl) rfl) rfl) rfl) rfl) rfl)) (pv 5) (fun _ _=>rfl))) AG) AG (AS _)))
   (AH (Ap (AO BD (AN Aq (AN Bh (AK p d rfl l e g .nil AX (AA (pv 1) (AA AG AB))) (Az (r:=Bp K) Ae (@A_ _ _ _ _ (@AA _ _ _ _ _ (@AG _ _ _ _) (@AA _ _ _ _ _ (@AG _ _ _ _) (@AA _ _ _ _ _ (@AG _ _ _ _) (@AA _ _ _ _ _ (@AG _ _ _ _) (@AA _ _ _ _ _ (@AG _ _ _ _) (@AA _ _ _ _ _ (@AG _ _ _ _) (@AA _ _ _ _ _ (@AG _ _ _ _) (@AA _ _ _ _ _ (@AG _ _ _ _) (@AA _ _ _ _ _ (@AG _ _ _ _) (@AA _ _ _ _ _ (@AG _ _ _ _) AB rfl) rfl) rfl) rfl) rfl) rfl) rfl) rfl) rfl) rfl)) (pv 5) (fun _ _=>rfl))) AG) AG (AS _)) (AH (Ai 0 nd (Aa (AA AR (AA (A_ (AA (pv 0) AB)) (AA (pv 6) AB)))))) (AH (Ai 0 nd (Aa (AA AR (AA (JG (FP (Az (r:=Bp K) Ae (pv 2) (AN Aq (pv 5) AG) (fun _ _=>rfl)) (pv 0) JF) rfl rfl (by simp) (by simp)) (AA (A_ AB) (AA (pv 6) AB)))))))))))) AV)
   (AD (Ap (AO BD (pv 3) AG (AS _)) (AD (GN (i:=7) (fv:=["_law_cell_here"]) (fs:=[1]) rfl (.of (by rfl)) nd rfl (Or.inl rfl) (BJ rfl T.range (AA (AN By AG (AN Aq (pv 4) AG)) AB)) (fun _ _ _ _=>BV) (fun C s0 H0 fp=>(Az (r:=Bp K) Ae (A_ (AA (Aa (AA AR AB)) (AA (Aa (AA AR (AA (pv 0) AB))) AB))) (AN Aq (AN Bh (AK p d rfl l e g .nil AX (AA (pv 1) (AA AG AB))) (AN By (pv 0) AG)) AG) (fun _ _=>rfl))))
   (AH (Ai 0 nd (Aa (AA AR (AA (AN FO (pv 7) (A_ (AA (pv 0) AB))) (AA (CH BD (AN Aq (AN Bh (pv 4) AG) AG) AG (AS _)) AB))))))) AV)
   (AH (AQ (pv 0))))))),?_⟩
  refine⟨_,rfl,c,6,rfl,by decide,fun r6 _ _=>⟨_,_,rfl,rfl,(by show(0:Int)<_;decide),?_⟩⟩
  generalize r6 % 8=wy
  refine⟨_,rfl,c,7,rfl,by decide,fun O _ _=>?_⟩
  dsimp only[BP]
  refine Ew (t:=MN _ _ _) (fun σ' H1=>∃(w:V) (b:Ak) (o5 o6:Option V),σ'=[some w,some (.int c),some (.ref nm),some (.int wy),some (.int O),o5,o6,none]/\AE H H1/\Val H1 w b.pt/\b.ok/\b.size<=67/\b.deep<=15/\b.Fz/\(wy≠0->b.size<=57/\b.deep<=5)) (fun σ' H1 ⟨w,b,o5,o6,es,s1,vb,bo,bz,bd,bf,bw⟩=>?_) (fun key=>?_)
  rotate_left
  ·refine⟨_,rfl,rfl,_,rfl,Bj (fun h0=>?_) (fun h0=>key _ _ ⟨v,a0,none,none,rfl,AE.refl H,hv,Y,by lia,by lia,Z,fun _=>⟨za,da⟩⟩)⟩
   have wy0:wy=0:=V.int.inj (of_decide_eq_true h0)
   have m5:=Cw O (n:=5) (by decide)
   obtain⟨k5,hk5⟩:∃k:Nat,6+O % 5=(k:Int):=⟨(6+O % 5).toNat,by lia⟩
   have k10:k5<=10:=by lia
   refine⟨_,rfl,_,_,rfl,rfl,(by show(0:Int)<_;decide),_,_,rfl,rfl,?_⟩
   rw[hk5]
   refine⟨k5,rfl,by lia,by lia,Ci (lo:=0) (n:=k5) (fun i σ Hi=>∃(w:V) (b:Ak) (o5 o6:Option V),σ=[some w,some (.int c),some (.ref nm),some (.int wy),some (.int O),o5,o6,none]/\AE H Hi/\Val Hi w b.pt/\b.ok/\b.size<=57+i/\b.deep<=5+i/\b.Fz) ⟨v,a0,none,none,rfl,AE.refl H,hv,Y,by lia,by lia,Z⟩ ?_ ?_⟩
   ·rintro i σ Hi hi ⟨w,b,o5,o6,rfl,si,vb,bo,bz,bd,bf⟩
    obtain⟨L,hL⟩:∃L:List V,L=[V.int 1,.int 2,.int 4,.int 8,.int 16,.int 32,.int 64,.int 128,.int 256,.int 512]:=⟨_,rfl⟩
    obtain⟨v4,eO,S⟩:=Cd (xs:=L) (i:=0+(i:Int)) (by lia) (by rw[hL];simp only[List.length_cons,List.length_nil];lia)
    have vb4:∃m:Int,v4=.int m/\0<m/\m<1073741824:=by
     rw[hL]at S
     simp only[List.mem_cons,List.not_mem_nil,or_false]at S
     rcases S with rfl|rfl|rfl|rfl|rfl|rfl|rfl|rfl|rfl|rfl<;>exact⟨_,rfl,by decide,by decide⟩
    obtain⟨m,rfl,gW,gX⟩:=vb4
    rw[hL]at eO
    clear S hL
    refine⟨_,rfl,c,8,rfl,by decide,fun r8 _ _=>⟨Ah (show 10<=1000 by decide),fun pl dB=>⟨_,rfl,pl,_,_,_,rfl,rfl,An.of AF,eO,_,_,rfl,rfl,⟨gW,gX⟩,_,_,rfl,rfl,(by show(0:Int)<_;decide),rfl,?_⟩⟩⟩
    have sl:=AE.new (o:=.lst [V.int 1,.int 2,.int 4,.int 8,.int 16,.int 32,.int 64,.int 128,.int 256,.int 512]) dB
    generalize upd Hi pl (.lst [V.int 1,.int 2,.int 4,.int 8,.int 16,.int 32,.int 64,.int 128,.int 256,.int 512])=Hj at sl⊢
    generalize decide (V.int (r8/m % 2)=V.int 1)=mo
    refine⟨_,rfl,c,9,rfl,by decide,fun r9 _ _=>⟨Ah (show 10<=1000 by decide),fun pl2 rh=>⟨_,rfl,pl2,_,_,_,rfl,rfl,An.of AF,eO,_,_,rfl,rfl,⟨gW,gX⟩,_,_,rfl,rfl,(by show(0:Int)<_;decide),rfl,_,rfl,?_⟩⟩⟩
    have kX:=AE.new (o:=.lst [V.int 1,.int 2,.int 4,.int 8,.int 16,.int 32,.int 64,.int 128,.int 256,.int 512]) rh
    generalize upd Hj pl2 (.lst [V.int 1,.int 2,.int 4,.int 8,.int 16,.int 32,.int 64,.int 128,.int 256,.int 512])=Hk at kX⊢
    have sk:=(si.trans sl).trans kX
    have vk:=(vb.up sl).up kX
    refine Bj (fun _=>?_) (fun _=>?_)
    ·refine⟨_,rfl,Ax,fun B G=>⟨_,rfl,Dg,fun p2 I=>?_⟩⟩
     have J:=AE.new (o:=.lst [w]) G
     have U:upd Hk B (.lst [w]) B=some (.lst [w]):=AF
     generalize upd Hk B (.lst [w])=Hm at J U I⊢
     have M:=AE.new (o:=.tup [.str "row",.ref B,.bl mo]) I
     refine⟨.ref p2,.row [b] mo,_,_,rfl,(sk.trans J).trans M,.tup (Bf.of AF) (.cons (.str _) (.cons (.lst (.inl (M _ _ U)) (.cons ((vk.up J).up M) .nil)) (.cons (.bl _) .nil))),⟨bo,trivial⟩,?_,?_,⟨bf,trivial⟩⟩
     ·simp only[Ak.size,Ak.AL];lia
     ·simp only[Ak.deep,Ak.AW];lia
    ·have m4:=Cw (0+(i:Int)) (n:=4) (by decide)
     obtain⟨jj,jW⟩:∃j:Nat,(0+(i:Int)) % 4=(j:Int):=⟨((0+(i:Int)) % 4).toNat,by lia⟩
     obtain⟨y,hy⟩:∃y,ys[jj]?=some y:=⟨_,AGS (by rw[hn.len];lia)⟩
     refine fun B G=>?_
     have J:=AE.new (o:=.dK []) G
     refine⟨_,rfl,_,rfl,_,_,rfl,rfl,(by show(0:Int)<_;decide),nm,_,_,_,rfl,rfl,An.of ((sk.trans J) _ _ hn.at_),by rw[jW];exact BA (by rw[List.getElem?_map,hy];rfl),_,rfl,AF,[(Sum.inr y,w)],rfl,by simp,?_⟩
     have m1:CN [] [((Sum.inr y:Key),w)]=[(Sum.inr y,w)]:=rfl
     rw[m1]
     have t1':AE Hk (upd (upd Hk B (.dK [])) B (.dK [(Sum.inr y,w)])):=J.put G
     have U:upd (upd Hk B (.dK [])) B (.dK [(Sum.inr y,w)]) B=some (.dK [(Sum.inr y,w)]):=AF
     generalize upd (upd Hk B (.dK [])) B (.dK [(Sum.inr y,w)])=Hm at t1' U⊢
     refine⟨Nat.zero_le _,fun p2 I=>?_⟩
     obtain⟨Hn,u,M,f2⟩:=BZ (o:=.lst []) I
     rw[u];clear u
     refine⟨_,rfl,Ah (show 4<=1000 by decide),fun p3 gS=>?_⟩
     have N:=AE.new (o:=.tup [.str "table",.ref B,.ref p2,.bl mo]) gS
     have t12:=t1'.trans M
     refine⟨.ref p3,.tab [y] [b] [] mo,_,_,rfl,(sk.trans t12).trans N,.tup (Bf.of AF) (.cons (.str _) (.cons (.BX (ks:=[y]) (.inl (N _ _ (M _ _ U))) rfl (.cons ((vk.up t12).up N) .nil)) (.cons (.lst (.inl (N _ _ f2)) .nil) (.cons (.bl _) .nil)))),?_,?_,?_,⟨by simp,bf,trivial⟩⟩
     ·simp only[Ak.ok]
      exact⟨rfl,by simp,fun k hk=>by rw[List.mem_singleton.mp hk];exact hn.nb _ (AGV hy),by simp,⟨by simp,.nil,rfl⟩,fun x hx=>(nomatch hx),bo,trivial⟩
     ·simp only[Ak.size,Ak.AL];lia
     ·simp only[Ak.deep,Ak.AW];lia
   ·rintro σ Hi ⟨w,b,o5,o6,rfl,si,vb,bo,bz,bd,bf⟩
    exact key _ _ ⟨w,b,o5,o6,rfl,si,vb,bo,by lia,by lia,bf,fun z=>absurd wy0 z⟩
  subst es
  refine⟨_,rfl,rfl,_,rfl,Bj (fun h1=>?_) (fun _=>⟨_,rfl,q w b H1 s1 vb bo (by lia) bd bf⟩)⟩
  have wy1:wy=1:=V.int.inj (of_decide_eq_true h1)
  have bw:=bw (by lia)
  have m4:=Cw O (n:=4) (by decide)
  obtain⟨n4,hn4⟩:∃k:Nat,9+O % 4=(k:Int):=⟨(9+O % 4).toNat,by lia⟩
  have n12:n4<=12:=by lia
  refine⟨_,rfl,_,_,rfl,rfl,(by show(0:Int)<_;decide),_,_,rfl,rfl,?_⟩
  rw[hn4]
  refine⟨n4,rfl,by lia,by lia,?_⟩
  refine Gx none n4 (fun i=>.int (0+(i:Int))) (fun i us H2=>∃X:List Ak,us=Ak.CY X/\Ak.DD X/\Ak.AL X<=i/\Ak.AW X<=1/\Ak.IA X) (by lia) (fun D hD=>⟨[],rfl,trivial,by simp[Ak.AL],by simp[Ak.AW],trivial⟩) (fun i us H2 D ws bt hD iv=>iv) (fun l' z=>nomatch z) (fun i us H2 hi s iv=>hi) (fun i us H2 v H' hi s iv y=>⟨y.2,y.1⟩) (fun us H2 s iv=>Nat.le_refl _) (fun i us H2 R hi bt ⟨X,e1,e2,e3,e4,e5⟩ lu k=>?_) (fun D H2 ws us hD bt d2 lu vl ⟨X,e1,e2,e3,e4,e5⟩=>?_)
  ·refine⟨Ax,fun q1 RP=>?_⟩
   obtain⟨H3,u,J,U⟩:=BZ (o:=.tup [.str "any"]) RP
   rw[u];clear u
   refine⟨_,rfl,Ad,fun q2 nW=>?_⟩
   obtain⟨H4,u,M,f2⟩:=BZ (o:=.tup [.str "just",.int (0+(i:Int))]) nW
   rw[u];clear u
   refine⟨Ad,fun q3 rW=>?_⟩
   obtain⟨H5,u,N,f3⟩:=BZ (o:=.lst [.ref q1,.ref q2]) rW
   rw[u];clear u
   refine⟨_,rfl,c,8,rfl,by decide,fun r8 _ _=>?_⟩
   have m2:=Cw (r8/(0+(i:Int)+1)) (n:=2) (by decide)
   obtain⟨v2,pq,mv2⟩:=Cd (xs:=[V.ref q1,V.ref q2]) (i:=r8/(0+(i:Int)+1) % 2) m2.1 m2.2
   refine⟨_,rfl,_,_,rfl,rfl,_,_,rfl,rfl,⟨by lia,by lia⟩,_,_,rfl,rfl,(by show(0:Int)<_;decide),q3,_,_,_,rfl,rfl,An.of f3,pq,?_⟩
   have tt:=(J.trans M).trans N
   have add:∀a:Ak,a.ok->a.size=1->a.deep=1->Val (nw H2 H5) v2 a.pt->a.Fz->R v2 H5:=fun a h1 h2 h3 h4 h5=>k v2 a.pt H5 (.of tt) h4 ⟨X++[a],by rw[Ak.Cf,e1];rfl,Ak.CQ e2 (Ak.JL h1),by rw[Ak.Am,Ak.Fp];lia,by rw[Ak.Bi,Ak.Fq];lia,Ak.EI e5 ⟨h5,trivial⟩⟩
   simp only[List.mem_cons,List.not_mem_nil,or_false]at mv2
   rcases mv2 with rfl|rfl
   ·exact add .any trivial rfl rfl (.tup (Bf.of (by rw[BB RP];exact(M.trans N) _ _ U)) (.cons (.str _) .nil)) trivial
   ·exact add (.As (.int (0+(i:Int)))) (by simp only[Ak.ok];exact⟨.one (.int _),trivial,by simp[Pt.size]⟩) rfl rfl (.tup (Bf.of (by rw[BB (J.free nW)];exact N _ _ f2)) (.cons (.str _) (.cons (.int _) .nil))) trivial
  ·subst e1
   have s2:=bt.same
   refine⟨_,rfl,_,rfl,Ax,fun B G=>?_⟩
   obtain⟨H3,u,J,U⟩:=BZ (o:=.lst [w]) G
   rw[u];clear u
   have lws:=vl.length
   refine⟨D,B,_,_,rfl,rfl,J _ _ d2,U,Ah (by simp only[List.length_cons,List.length_nil];lia),fun p2 I=>?_⟩
   obtain⟨H4,u,M,f2⟩:=BZ (o:=.lst (ws++[w])) I
   rw[u];clear u
   refine⟨_,rfl,_,_,rfl,rfl,⟨by decide,by decide⟩,_,_,rfl,rfl,(by show(0:Int)<_;decide),rfl,Dg,fun p3 gS=>?_⟩
   generalize decide (V.int (O/4 % 2)=V.int 1)=mo
   have N:=AE.new (o:=.tup [.str "row",.ref p2,.bl mo]) gS
   have tt:=(J.trans M).trans N
   refine⟨_,rfl,q (.ref p3) (.row (X++[b]) mo) _ ((s1.trans s2).trans tt) (.tup (Bf.of AF) (.cons (.str _) (.cons (.lst (.inl (N _ _ f2)) ?_) (.cons (.bl _) .nil)))) (Ak.CQ e2 (Ak.JL bo)) ?_ ?_ (Ak.EI e5 ⟨bf,trivial⟩)⟩
   ·rw[Ak.Cf]
    exact((vl.up Ey).up tt).snoc ((vb.up s2).up tt)
   ·simp only[Ak.size];rw[Ak.Am,Ak.Fp];lia
   ·simp only[Ak.deep];rw[Ak.Bi,Ak.Fq];lia
theorem bX:Al ["_law_script","_law_names_here","_law_drawn","_law_asks_here","_law_told_here","_law_makes_here","_law_kept","_law_one","_law_k","_law_cell_here","_law_wrong_here"] ["_law_script"] (AI NL):={}
theorem fK {f:Addr} {fd:FuncData} (F:DN K "law" "law" NL f fd) (T:Txt mg) (M:Df P w K mg base "good_form" ["asks"] 7 SR) (J:Df P w K mg base "good_makes" ["makes","asks"] 5 Sl) (kY:Df P w K mg base "_law_cell" ["_law_script","_law_k"] 1 (Vo K)) (fO:Df P w K mg base "_law_names" ["_law_cell_here"] 2 Pd) (Xc:Df P w K mg base "_law_copy" ["_law_thing"] 50 (JK 50)) (Xe:Df P w K mg base "_law_asks" ["_law_cells","_law_deep","_law_names_here"] 10 (Mu 10)) (Xh:Df P w K mg base "_law_told" ["_law_asks_here","_law_path"] 25 (HK 25)) (RS:Df P w K mg base "_law_makes" ["_law_cells","_law_deep","_law_told_here","_law_names_here"] 20 (HP 20)) (fP:Df P w K mg base "_law_wrong" ["_law_cell_here","_law_told_here","_law_names_here"] 4 Sy) (NW:Df P w K mg base "_law_within" ["_law_makes_here","_law_cell_here","_law_deep","_law_wrong_here"] 20 (JP 20)) (fH:Df P w K mg base "_law_all" ["_law_makes_here"] 20 (NK 20)) (fQ:Df P w K mg base "_law_large" ["_law_asks_here","_law_cell_here","_law_names_here"] 2 SH):BH P w K mg base Cs 60 f fd ["_law_script"] (OT K):=by
 obtain⟨gc,gg,N,O,S,U⟩:=M.ex
 obtain⟨fS,fU,k,l,p,t⟩:=J.ex
 obtain⟨ABJ,ABK,B,D,G,I⟩:=kY.ex
 obtain⟨fNames,ri,fV,fW,fX,fY⟩:=fO.ex
 obtain⟨jg,jh,kZ,ka,kb,kc⟩:=Xc.ex
 obtain⟨jk,jl,TH,TJ,TL,TM⟩:=Xe.ex
 obtain⟨jr,js,ke,kg,kh,ki⟩:=Xh.ex
 obtain⟨Xp,Xq,RT,RU,RV,RW⟩:=RS.ex
 obtain⟨rj,rk,fZ,ff,fg,fh⟩:=fP.ex
 obtain⟨Zu,Zv,Z_,Z',aB,aC⟩:=NW.ex
 obtain⟨rY,rZ,Zw,Zx,Zy,Zz⟩:=fH.ex
 obtain⟨rm,rp,fj,fk,fm,fu⟩:=fQ.ex
 refine F.ok bX (fun vs H Q E h=>?_) (fun Gm A outer s H vs Q E X h=>?_)
 ·obtain⟨a,ns,rfl,hS,hlen,q⟩:=h
  rfl
 ·obtain⟨a,ns,rfl,hS,hlen,q⟩:=h
  have nd:=bX.nd
  have hu:=BQ X
  have L:Ao 7 _:=X.mm
  have d:Ao 5 _:=X.mm
  have u:Ao 1 _:=X.mm
  have aD:Ao 2 _:=X.mm
  have fx:Ao 50 _:=X.mm
  have fy:Ao 10 _:=X.mm
  have f_:Ao 25 _:=X.mm
  have NV:Ao 20 _:=X.mm
  have aE:Ao 4 _:=X.mm
  have Y:Ao 20 _:=X.mm
  have kj:Ao 20 _:=X.mm
  have aF:Ao 2 _:=X.mm
  refine⟨_,(AD (Ai 1 nd (AK fY aD rfl fX fV fW .nil AX (AA (AK I u rfl G B D .nil AX (AA (pv 0) (AA AG AB))) AB)))
   (AD (Ai 2 nd (AK TM fy rfl TL TH TJ .nil AX (AA (Ba (fv:=["_law_script"]) (fs:=[0]) rfl (.of (by rfl)) (BJ rfl T.range (AA AG AB)) (fun _ _ _ _=>BV) (fun C s0 H0 fp=>(AK I u rfl G B D .nil AX (AA (pv 1) (AA (AN By AG (pv 0)) AB))))) (AA AG (AA (pv 1) AB)))))
   (AD (Ai 3 nd (AK U L rfl S N O .nil AX (AA (AK fu aF rfl fm fj fk .nil AX (AA (pv 2) (AA (AK I u rfl G B D .nil AX (AA (pv 0) (AA AG AB))) (AA (pv 1) AB)))) AB)))
   (AD (Ai 4 nd (AK ki f_ rfl kh ke kg .nil AX (AA (pv 3) (AA (Aa AB) AB))))
   (AD (Ai 5 nd (AK RW NV rfl RV RT RU .nil AX (AA (Ba (fv:=["_law_script"]) (fs:=[0]) rfl (.of (by rfl)) (BJ rfl T.range (AA AG AB)) (fun _ _ _ _=>BV) (fun C s0 H0 fp=>(AK I u rfl G B D .nil AX (AA (pv 1) (AA (AN By AG (pv 0)) AB))))) (AA AG (AA (pv 4) (AA (pv 1) AB))))))
   (AD (Ai 6 nd (AK kc fx rfl kb kZ ka .nil AX (AA (Aa (AA (pv 3) (AA (pv 5) AB))) AB)))
   (AD (CM PassesOwn.never rfl (Bg (AK Zz kj rfl Zy Zw Zx .nil AX (AA (pv 5) AB))) (C_ 7 nd) (AH (Ap (AO Li (AK t d rfl p k l .nil AX (AA (pv 7) (AA (pv 3) AB))) Gb (AS _)) (AH (AQ Gb)) AV)))
   (AD (CM PassesOwn.never rfl (BJ rfl T.range (AA AG AB)) (C_ 8 nd) (AD (Ai 9 nd (AK I u rfl G B D .nil AX (AA (pv 0) (AA (AN By AG (pv 8)) AB))))
   (AD (Ai 10 nd (AK aC Y rfl aB Z_ Z' .nil AX (AA (pv 5) (AA (pv 9) (AA AG (AA (AK fh aE rfl fg fZ ff .nil AX (AA (pv 9) (AA (pv 4) (AA (pv 1) AB)))) AB))))))
   (AH (Ap (AO Li (AK t d rfl p k l .nil AX (AA (pv 10) (AA (pv 3) AB))) Gb (AS _)) (AH (AQ Gb)) AV)))))
   (AH (AQ (JT (CH cS (AK t d rfl p k l .nil AX (AA (pv 5) (AA (pv 3) AB))) Gb (AS _)) (Em (CH (dJ (Ao.units X):EL _ _ dI) (Aa (AA (pv 3) (AA (pv 5) AB))) (pv 6) (AS _)))))))))))))),?_⟩
  refine⟨_,rfl,a,ns,0,rfl,hS,fun c0 _=>⟨c0,rfl,fun nm ys H1 s1 nn hn nN=>?_⟩⟩
  refine⟨12,rfl,by decide,by decide,Dw (n:=12) (fun i=>.int (0+(i:Int))) (fun _ v=>∃z:Int,v=.int z) (by decide) (fun i H2 hi s2=>hi) (fun i H2 v H' hi s2 y=>⟨y.2,y.1⟩) (fun H2 s2=>Nat.le_refl _) (fun i H2 R hi s2 r=>⟨_,rfl,_,rfl,_,_,rfl,rfl,a,ns,1+i,(by show[V.ref a,V.int (1+(0+(i:Int)))]=_;simp),(s1.trans s2).seq hS,fun c _=>r _ H2 (AE.refl _) ⟨c,rfl⟩⟩) (fun D1 H2 kK rq s2 d1 Xi ov1=>?_)⟩
  obtain⟨ml,rfl⟩:=ints_of ov1
  rw[List.length_map]at Xi
  have D1n:nm≠D1:=fun z=>by rw[<-z,hn.at_]at rq;cases rq
  refine⟨_,rfl,D1,4,nm,ml,ys,rfl,by decide,d1,by lia,D1n,hn.up s2,fun v1 a1 AD9 H3 rD en le3 v3 rT sz3 dp3 fw3=>?_⟩
  have s13:AE H1 H3:=rD.over s2 rq
  have S3:=s1.trans s13
  have V1:Val H3 v1 a1.pt:=v3.up Ey
  refine⟨_,rfl,_,rfl,a,ns,0,rfl,S3.seq hS,fun c1 _=>⟨_,rfl,v1,a1,c1,nm,ys,rfl,V1,rT,by lia,by lia,fw3,hn.up s13,fun w0 b H4 s4 vb bo bz bd bf=>?_⟩⟩
  have bG:=Ak.jB b bo
  have bw:=Ak.av b bo
  have bd2:=Ak.ax b bo
  have bs:=Ak.Wu b bo
  refine⟨H4,w0,b,rfl,AE.refl _,vb,bG,by lia,fun w g H5 s5 vg gd=>?_⟩
  obtain⟨gG,gw,gdp⟩:=gd.keeps bG
  have gs:=Ak.S_ g (gd.RA bG bs)
  have gA:PX g:=⟨gG,gs,by lia,by lia,gd.Fz bG bf⟩
  have vg5:Val H5 w g.pt:=vg.up Ey
  have S5:=(S3.trans s4).trans s5
  have hn5:=((hn.up s13).up s4).up s5
  clear vg V1 vb v3
  refine⟨_,rfl,Nat.zero_le _,fun pE hE=>?_⟩
  obtain⟨HE,eH,sE,fE⟩:=BZ (o:=.tup []) hE
  rw[eH];clear eH
  refine⟨HE,w,g,pE,[],rfl,AE.refl _,vg5.up sE,gG,gs,by lia,fE,by simp only[List.length_nil];lia,by lia,fun DT ws HT sT nT fT neT lT taT=>?_⟩
  have tA:EU (K:=K) HT g DT ws:=⟨fT,neT,by lia,fun w hw=>(taT w hw).up (Mv (AE.refl _) sT)⟩
  clear taT
  have rx:=sE.trans sT
  have ST:=S5.trans rx
  have hnT:=hn5.up rx
  have vgT:=vg5.up rx
  refine⟨16,rfl,by decide,by decide,Dw (n:=16) (fun i=>.int (0+(i:Int))) (fun _ v=>∃z:Int,v=.int z) (by decide) (fun i H2 hi s2=>hi) (fun i H2 v H' hi s2 y=>⟨y.2,y.1⟩) (fun H2 s2=>Nat.le_refl _) (fun i H2 R hi s2 r=>⟨_,rfl,_,rfl,_,_,rfl,rfl,a,ns,13+i,(by show[V.ref a,V.int (13+(0+(i:Int)))]=_;simp),(ST.trans s2).seq hS,fun c _=>r _ H2 (AE.refl _) ⟨c,rfl⟩⟩) (fun D2 H6 vs2 Xv s6 d2 mW ov2=>?_)⟩
  obtain⟨gT,rfl⟩:=ints_of ov2
  rw[List.length_map]at mW
  refine⟨_,rfl,_,rfl,HT,g,D2,DT,nm,ws,ys,gT,3,rfl,⟨s6,Xv,gA,tA,hnT,d2,by lia⟩,by decide,fun vm m cs3 H7 bt7 nV le7 md=>?_⟩
  have s7:AE HT H7:=bt7.over s6 Xv
  have vm7:Val H7 vm m.pt:=md.val.up fun b o e=>by
   unfold ov at e
   cases h:HT b with
   |some z=>rw[h]at e;cases e;exact s7 _ _ h
   |none=>rw[h]at e;exact Ey _ _ e
  have S7:=ST.trans s7
  have hn7:=hnT.up s7
  have vg7:=vgT.up s7
  have tA7:=tA.up s7
  have bV:=md.ok
  have kH:=md.gd
  have rH:=md.sz
  have mdp:=md.dp
  have mb3:Mb 3=16885:=rfl
  rw[mb3]at rH
  have mn:=AM.nice m bV
  have mpd:=AM.S' m bV
  have gn:=Ak.Ot g gG (by lia)
  have gpd:=Ak.a_ g
  refine⟨_,rfl,_,rfl,Ad,fun pt hpt=>?_⟩
  obtain⟨H8,eH,sp,fp⟩:=BZ (o:=.tup [w,vm]) hpt
  rw[eH];clear eH
  have tn:(Pt.tup [g.pt,m.pt]).nice:=by simp only[Pt.nice,Pt.CG];exact⟨by simp,gn,mn,trivial⟩
  have td:(Pt.tup [g.pt,m.pt]).deep<=50:=by simp only[Pt.deep,Pt.AW];lia
  refine⟨_,_,rfl,.tup (.of fp) (.cons (vg7.up sp) (.cons (vm7.up sp) .nil)),tn,td,fun wK HF sF vK=>?_⟩
  have sF:=sp.trans sF
  have vKF:Val HF wK (.tup [g.pt,m.pt]):=vK.up Ey
  have SF:=S7.trans sF
  have hnF:=hn7.up sF
  have vgF:=vg7.up sF
  have vmF:=vm7.up sF
  have tAF:=tA7.up sF
  clear vK
  refine⟨_,rfl,HF,vm,g,m,rfl,LI.of (AE.refl _),vmF,bV,kH,by lia,by lia,fun DA wa HA sA nA fA lA hwa=>?_⟩
  have SA:=SF.trans sA
  refine⟨DA,rfl,⟨_,An.of fA⟩,DQ (K:=K) (xs:=wa) (fun j σ Hj=>∃(o7:Option V),σ=[some (.ref a),some (.ref nm),some v1,some w,some (.ref DT),some vm,some wK,o7,none,none,none]/\AE HA Hj) ⟨none,rfl,AE.refl _⟩ (fun j σ Hj _ ⟨_,_,sj⟩=>An.of (sj _ _ fA)) ?_ ?_⟩
  ·rintro j x σ Hj hx ⟨o7,rfl,sj⟩
   obtain⟨m',vx,xok,xgd,xsz⟩:=hwa x (AGV hx)
   refine⟨_,rfl,_,rfl,x,w,m',g,rfl,(vx.up sA).up sj,xok,by lia,(vgF.up sA).up sj,gG,gs,by lia,fun Hk sk=>?_⟩
   rw[xgd]
   exact⟨_,_,rfl,rfl,_,rfl,BK ⟨_,rfl,sj.trans sk⟩⟩
  rintro σ HB ⟨o7,rfl,sB⟩
  have Z:=sA.trans sB
  have SB:=SF.trans Z
  have hnB:=hnF.up Z
  have ry:=vgF.up Z
  have rz:=vmF.up Z
  have tAB:=tAF.up Z
  have vKB:=vKF.up Z
  refine⟨3,rfl,by decide,by decide,Ci (lo:=0) (n:=3) (fun i σ Hi=>∃(o8 o9 o10:Option V),σ=[some (.ref a),some (.ref nm),some v1,some w,some (.ref DT),some vm,some wK,o7,o8,o9,o10]/\AE HB Hi) ⟨none,none,none,rfl,AE.refl _⟩ ?_ ?_⟩
  ·rintro i σ Hi hi ⟨o8,o9,o10,rfl,si⟩
   refine⟨_,rfl,_,rfl,_,_,rfl,rfl,a,ns,29+i,(by show[V.ref a,V.int (29+(0+(i:Int)))]=_;simp),(SB.trans si).seq hS,fun c _=>?_⟩
   refine⟨_,rfl,_,rfl,_,rfl,_,rfl,_,rfl,Hi,c,DT,nm,g,ws,ys,rfl,AE.refl _,gA,tAB.up si,hnB.up si,nN,fun vw mw Hj sj vvw e_ r_ kT kU=>?_⟩
   refine⟨Hj,vm,vw,c,3,g,m,mw,rfl,AE.refl _,(rz.up si).up sj,bV,vvw,e_,r_,kT,kU,by lia,by lia,fun v' m' Hk sk vv vok sH vsz vdp=>?_⟩
   refine⟨_,rfl,_,rfl,v',w,m',g,rfl,vv.up (Mv (AE.refl _) sk),vok,by lia,(((ry.up si).up sj).up sk),gG,gs,by lia,fun Hl sl=>?_⟩
   rw[sH]
   exact⟨_,_,rfl,rfl,_,rfl,BK ⟨_,_,_,rfl,((si.trans sj).trans sk).trans sl⟩⟩
  rintro σ HC ⟨o8,o9,o10,rfl,sC⟩
  refine⟨_,rfl,_,rfl,vm,w,m,g,rfl,rz.up sC,bV,by lia,ry.up sC,gG,gs,by lia,fun HD sD=>?_⟩
  rw[kH]
  refine⟨_,_,rfl,rfl,_,rfl,Cr ?_⟩
  refine⟨_,rfl,_,rfl,Ad,fun pz hpz=>?_⟩
  obtain⟨HG,eH,sz,fz⟩:=BZ (o:=.tup [w,vm]) hpz
  rw[eH];clear eH
  have sI:=(sC.trans sD).trans sz
  have eb:=Pt.KR _ (Pt.Wr _ tn)
  refine⟨_,rfl,.tup [g.pt,m.pt],.tup [g.pt,m.pt],.tup (.of fz) (.cons (ry.up sI) (.cons (rz.up sI) .nil)),vKB.up sI,fun c z=>(nomatch z),.inr eb,by lia,?_⟩
  rw[eb]
  exact q _
end
end df
namespace df
open PySem L2
theorem km (us:List Value) (h:us.length=1):∃a,us=[a]:=by
 rcases us with _|⟨a,us⟩<;>simp only[List.length_cons,List.length_nil]at h<;>try omega
 rcases us with _|⟨y,us⟩<;>simp only[List.length_cons,List.length_nil]at h<;>try omega
 exact⟨a,rfl⟩
theorem ko (us:List Value) (h:us.length=2):∃a b,us=[a,b]:=by
 rcases us with _|⟨a,us⟩<;>simp only[List.length_cons,List.length_nil]at h<;>try omega
 rcases us with _|⟨b,us⟩<;>simp only[List.length_cons,List.length_nil]at h<;>try omega
 rcases us with _|⟨y,us⟩<;>simp only[List.length_cons,List.length_nil]at h<;>try omega
 exact⟨a,b,rfl⟩
theorem kq (us:List Value) (h:us.length=3):∃a b c,us=[a,b,c]:=by
 rcases us with _|⟨a,us⟩<;>simp only[List.length_cons,List.length_nil]at h<;>try omega
 rcases us with _|⟨b,us⟩<;>simp only[List.length_cons,List.length_nil]at h<;>try omega
 rcases us with _|⟨c,us⟩<;>simp only[List.length_cons,List.length_nil]at h<;>try omega
 rcases us with _|⟨y,us⟩<;>simp only[List.length_cons,List.length_nil]at h<;>try omega
 exact⟨a,b,c,rfl⟩
theorem kr (us:List Value) (h:us.length=4):∃a b c d,us=[a,b,c,d]:=by
 rcases us with _|⟨a,us⟩<;>simp only[List.length_cons,List.length_nil]at h<;>try omega
 rcases us with _|⟨b,us⟩<;>simp only[List.length_cons,List.length_nil]at h<;>try omega
 rcases us with _|⟨c,us⟩<;>simp only[List.length_cons,List.length_nil]at h<;>try omega
 rcases us with _|⟨d,us⟩<;>simp only[List.length_cons,List.length_nil]at h<;>try omega
 rcases us with _|⟨y,us⟩<;>simp only[List.length_cons,List.length_nil]at h<;>try omega
 exact⟨a,b,c,d,rfl⟩
theorem ku (us:List Value) (h:us.length=5):∃a b c d e,us=[a,b,c,d,e]:=by
 rcases us with _|⟨a,us⟩<;>simp only[List.length_cons,List.length_nil]at h<;>try omega
 rcases us with _|⟨b,us⟩<;>simp only[List.length_cons,List.length_nil]at h<;>try omega
 rcases us with _|⟨c,us⟩<;>simp only[List.length_cons,List.length_nil]at h<;>try omega
 rcases us with _|⟨d,us⟩<;>simp only[List.length_cons,List.length_nil]at h<;>try omega
 rcases us with _|⟨e,us⟩<;>simp only[List.length_cons,List.length_nil]at h<;>try omega
 rcases us with _|⟨y,us⟩<;>simp only[List.length_cons,List.length_nil]at h<;>try omega
 exact⟨a,b,c,d,e,rfl⟩
theorem bi {K:AGW} {x qual:Str} {st:Stmt} {f:Addr} {d:FuncData} (F:DN K x qual st f d) (b:List Str)
  (h:∀(kV doc e:Value) (g:Option Addr) (c ct:Value) (us:List Value),us.length=b.length->bindArgs (PySem.W.fnOf x qual (Af st) (Ac st) (AI st) .none kV doc e g c ct) ⟨us,[]⟩=pure (b.zip us):=by intro _ _ _ _ _ _ us a;first|(obtain⟨_,rfl⟩:=km us a;rfl)|(obtain⟨_,_,rfl⟩:=ko us a;rfl)|(obtain⟨_,_,_,rfl⟩:=kq us a;rfl)|(obtain⟨_,_,_,_,rfl⟩:=kr us a;rfl)|(obtain⟨_,_,_,_,_,rfl⟩:=ku us a;rfl)):Binds K d b []:=F.binds h
theorem all_mk {l:PySem.W.OpenLaw} {w:World} {K:AGW} {h:Heap} {mg:Str->Option Value} {fa f1 f2 f3 f4 f5 f6 f7 f8 f9 f10 f11 f12 f13 f14 f15 f16 f17 f18 f19 f20 f21 f22 f23 f24 f25 f26 f27 f28 f29 f30 f31 f32 f33 f34 f35 f36 f37 f38:Addr} (X:K.In h) (G:h.Ns mainGlobals mg) (hfa:mg "law"=some (.ref fa))
  {od1 an1 od2 an2 od3 an3 od4 an4 od5 an5 od6 an6 od7 an7 od8 an8 od9 an9 sJ sM sN sP sQ sR sS sU sV sW sX sY sZ sf sg sh su sy s_ tD tE tF tG tH tJ tK tO tP tQ tR tS tU tV tW tX tY tZ tm tq t_ uA uB uC uD uE uF uG uH uI uJ uK uL uM uN uO uP uQ Z:Option Addr} {sl1 kX sl3 sl4 sl5 sl6 sl7 sl8 sl9 uR uS uT uU uV uW uX uY uZ ub uc ud ue uf ug uh ui uj uk um uo uq ur uu uv uw ux uy uz:Array (Option Value)} {oc1 kV1 dc1 pm1 cd1 ct1 oc2 kV2 dc2 pm2 cd2 ct2 oc3 kV3 dc3 pm3 cd3 ct3 oc4 kV4 dc4 pm4 cd4 ct4 oc5 kV5 dc5 pm5 cd5 ct5 oc6 kV6 dc6 pm6 cd6 ct6 oc7 kV7 dc7 pm7 cd7 ct7 oc8 kV8 dc8 pm8 cd8 ct8 oc9 kV9 dc9 pm9 cd9 ct9 u_ vD vE vF kv vG vH vI vJ vM kx vN vO vP vQ vR ky vS vT vU vV vW kz vX vY vZ vc vd k_ ve vf vh vi vn lC vo vp vq vr vt lD vu v_ wA wB wC lF wD wF wG wH wI lG wJ wL wM wN wO lH wQ wR wU wV wW lI wX wY wZ wb wc lJ we wg wh wk wm lK wq wu wz w_ xA lL xB xC xD xE xF lM xG xH xI xJ xK lN xM xN xO xP xQ lO xR xS xT xU xV lP xW xX xY xZ xa lQ xb xc xf xg xh lS xi xj xk xl xm lU xn xo xp xq xr lV xt xu xw xx xy lW x_ yA yB yC yD lX yE yF yG yH yI lY yJ yK yL yM yN lZ yO yP yQ yR yS lb yT yU yV yW yX lg yY yZ lh lj l_ O mB:Value}
  (a1:PySem.W.nsIn K mainGlobals "gathered"=some (some (.ref f1))) (l1:K.lookup f1=some ⟨oc1,od1,.func (PySem.W.fnOf "gathered" "gathered" (Af Dn) (Ac Dn) (AI Dn) .none kV1 dc1 pm1 an1 cd1 ct1),sl1⟩) (c1:PySem.W.codeIn K cd1 "gathered"=true) (k1:PySem.W.keepIn K (.ref f1)=true)
  (a2:PySem.W.nsIn K mainGlobals "folded"=some (some (.ref f2))) (l2:K.lookup f2=some ⟨oc2,od2,.func (PySem.W.fnOf "folded" "folded" (Af Fu) (Ac Fu) (AI Fu) .none kV2 dc2 pm2 an2 cd2 ct2),kX⟩) (c2:PySem.W.codeIn K cd2 "folded"=true) (k2:PySem.W.keepIn K (.ref f2)=true)
  (a3:PySem.W.nsIn K mainGlobals "steps_of"=some (some (.ref f3))) (l3:K.lookup f3=some ⟨oc3,od3,.func (PySem.W.fnOf "steps_of" "steps_of" (Af EA) (Ac EA) (AI EA) .none kV3 dc3 pm3 an3 cd3 ct3),sl3⟩) (c3:PySem.W.codeIn K cd3 "steps_of"=true) (k3:PySem.W.keepIn K (.ref f3)=true)
  (a4:PySem.W.nsIn K mainGlobals "inner_of"=some (some (.ref f4))) (l4:K.lookup f4=some ⟨oc4,od4,.func (PySem.W.fnOf "inner_of" "inner_of" (Af Ej) (Ac Ej) (AI Ej) .none kV4 dc4 pm4 an4 cd4 ct4),sl4⟩) (c4:PySem.W.codeIn K cd4 "inner_of"=true) (k4:PySem.W.keepIn K (.ref f4)=true)
  (a5:PySem.W.nsIn K mainGlobals "outer_copy"=some (some (.ref f5))) (l5:K.lookup f5=some ⟨oc5,od5,.func (PySem.W.fnOf "outer_copy" "outer_copy" (Af DG) (Ac DG) (AI DG) .none kV5 dc5 pm5 an5 cd5 ct5),sl5⟩) (c5:PySem.W.codeIn K cd5 "outer_copy"=true) (k5:PySem.W.keepIn K (.ref f5)=true)
  (a6:PySem.W.nsIn K mainGlobals "copy_of"=some (some (.ref f6))) (l6:K.lookup f6=some ⟨oc6,od6,.func (PySem.W.fnOf "copy_of" "copy_of" (Af Fv) (Ac Fv) (AI Fv) .none kV6 dc6 pm6 an6 cd6 ct6),sl6⟩) (c6:PySem.W.codeIn K cd6 "copy_of"=true) (k6:PySem.W.keepIn K (.ref f6)=true)
  (a7:PySem.W.nsIn K mainGlobals "holds"=some (some (.ref f7))) (l7:K.lookup f7=some ⟨oc7,od7,.func (PySem.W.fnOf "holds" "holds" (Af IP) (Ac IP) (AI IP) .none kV7 dc7 pm7 an7 cd7 ct7),sl7⟩) (c7:PySem.W.codeIn K cd7 "holds"=true) (k7:PySem.W.keepIn K (.ref f7)=true)
  (a8:PySem.W.nsIn K mainGlobals "holder_in"=some (some (.ref f8))) (l8:K.lookup f8=some ⟨oc8,od8,.func (PySem.W.fnOf "holder_in" "holder_in" (Af Dp) (Ac Dp) (AI Dp) .none kV8 dc8 pm8 an8 cd8 ct8),sl8⟩) (c8:PySem.W.codeIn K cd8 "holder_in"=true) (k8:PySem.W.keepIn K (.ref f8)=true)
  (a9:PySem.W.nsIn K mainGlobals "inner_nodes"=some (some (.ref f9))) (l9:K.lookup f9=some ⟨oc9,od9,.func (PySem.W.fnOf "inner_nodes" "inner_nodes" (Af Co) (Ac Co) (AI Co) .none kV9 dc9 pm9 an9 cd9 ct9),sl9⟩) (c9:PySem.W.codeIn K cd9 "inner_nodes"=true) (k9:PySem.W.keepIn K (.ref f9)=true)
  (a10:PySem.W.nsIn K mainGlobals "filled"=some (some (.ref f10))) (l10:K.lookup f10=some ⟨u_,sJ,.func (PySem.W.fnOf "filled" "filled" (Af Fw) (Ac Fw) (AI Fw) .none vD vE vF sM kv vG),uR⟩) (c10:PySem.W.codeIn K kv "filled"=true) (k10:PySem.W.keepIn K (.ref f10)=true)
  (a11:PySem.W.nsIn K mainGlobals "inner_just"=some (some (.ref f11))) (l11:K.lookup f11=some ⟨vH,sN,.func (PySem.W.fnOf "inner_just" "inner_just" (Af DH) (Ac DH) (AI DH) .none vI vJ vM sP kx vN),uS⟩) (c11:PySem.W.codeIn K kx "inner_just"=true) (k11:PySem.W.keepIn K (.ref f11)=true)
  (a12:PySem.W.nsIn K mainGlobals "is_open"=some (some (.ref f12))) (l12:K.lookup f12=some ⟨vO,sQ,.func (PySem.W.fnOf "is_open" "is_open" (Af Fx) (Ac Fx) (AI Fx) .none vP vQ vR sR ky vS),uT⟩) (c12:PySem.W.codeIn K ky "is_open"=true) (k12:PySem.W.keepIn K (.ref f12)=true)
  (a13:PySem.W.nsIn K mainGlobals "good_form"=some (some (.ref f13))) (l13:K.lookup f13=some ⟨vT,sS,.func (PySem.W.fnOf "good_form" "good_form" (Af Dq) (Ac Dq) (AI Dq) .none vU vV vW sU kz vX),uU⟩) (c13:PySem.W.codeIn K kz "good_form"=true) (k13:PySem.W.keepIn K (.ref f13)=true)
  (a14:PySem.W.nsIn K mainGlobals "good_part"=some (some (.ref f14))) (l14:K.lookup f14=some ⟨vY,sV,.func (PySem.W.fnOf "good_part" "good_part" (Af Ds) (Ac Ds) (AI Ds) .none vZ vc vd sW k_ ve),uV⟩) (c14:PySem.W.codeIn K k_ "good_part"=true) (k14:PySem.W.keepIn K (.ref f14)=true)
  (a15:PySem.W.nsIn K mainGlobals "good_row"=some (some (.ref f15))) (l15:K.lookup f15=some ⟨vf,sX,.func (PySem.W.fnOf "good_row" "good_row" (Af Ek) (Ac Ek) (AI Ek) .none vh vi vn sY lC vo),uW⟩) (c15:PySem.W.codeIn K lC "good_row"=true) (k15:PySem.W.keepIn K (.ref f15)=true)
  (a16:PySem.W.nsIn K mainGlobals "good_table"=some (some (.ref f16))) (l16:K.lookup f16=some ⟨vp,sZ,.func (PySem.W.fnOf "good_table" "good_table" (Af DI) (Ac DI) (AI DI) .none vq vr vt sf lD vu),uX⟩) (c16:PySem.W.codeIn K lD "good_table"=true) (k16:PySem.W.keepIn K (.ref f16)=true)
  (a17:PySem.W.nsIn K mainGlobals "found_asks"=some (some (.ref f17))) (l17:K.lookup f17=some ⟨v_,sg,.func (PySem.W.fnOf "found_asks" "found_asks" (Af DJ) (Ac DJ) (AI DJ) .none wA wB wC sh lF wD),uY⟩) (c17:PySem.W.codeIn K lF "found_asks"=true) (k17:PySem.W.keepIn K (.ref f17)=true)
  (a18:PySem.W.nsIn K mainGlobals "tells"=some (some (.ref f18))) (l18:K.lookup f18=some ⟨wF,su,.func (PySem.W.fnOf "tells" "tells" (Af IQ) (Ac IQ) (AI IQ) .none wG wH wI sy lG wJ),uZ⟩) (c18:PySem.W.codeIn K lG "tells"=true) (k18:PySem.W.keepIn K (.ref f18)=true)
  (a19:PySem.W.nsIn K mainGlobals "good_makes"=some (some (.ref f19))) (l19:K.lookup f19=some ⟨wL,s_,.func (PySem.W.fnOf "good_makes" "good_makes" (Af DK) (Ac DK) (AI DK) .none wM wN wO tD lH wQ),ub⟩) (c19:PySem.W.codeIn K lH "good_makes"=true) (k19:PySem.W.keepIn K (.ref f19)=true)
  (a20:PySem.W.nsIn K mainGlobals "is_good_part"=some (some (.ref f20))) (l20:K.lookup f20=some ⟨wR,tE,.func (PySem.W.fnOf "is_good_part" "is_good_part" (Af Cp) (Ac Cp) (AI Cp) .none wU wV wW tF lI wX),uc⟩) (c20:PySem.W.codeIn K lI "is_good_part"=true) (k20:PySem.W.keepIn K (.ref f20)=true)
  (a21:PySem.W.nsIn K mainGlobals "is_good_rest"=some (some (.ref f21))) (l21:K.lookup f21=some ⟨wY,tG,.func (PySem.W.fnOf "is_good_rest" "is_good_rest" (Af Cq) (Ac Cq) (AI Cq) .none wZ wb wc tH lJ we),ud⟩) (c21:PySem.W.codeIn K lJ "is_good_rest"=true) (k21:PySem.W.keepIn K (.ref f21)=true)
  (a22:PySem.W.nsIn K mainGlobals "_law_cell"=some (some (.ref f22))) (l22:K.lookup f22=some ⟨wg,tJ,.func (PySem.W.fnOf "_law_cell" "_law_cell" (Af MD) (Ac MD) (AI MD) .none wh wk wm tK lK wq),ue⟩) (c22:PySem.W.codeIn K lK "_law_cell"=true) (k22:PySem.W.keepIn K (.ref f22)=true)
  (a23:PySem.W.nsIn K mainGlobals "_law_mix"=some (some (.ref f23))) (l23:K.lookup f23=some ⟨wu,tO,.func (PySem.W.fnOf "_law_mix" "_law_mix" (Af RH) (Ac RH) (AI RH) .none wz w_ xA tP lL xB),uf⟩) (c23:PySem.W.codeIn K lL "_law_mix"=true) (k23:PySem.W.keepIn K (.ref f23)=true)
  (a24:PySem.W.nsIn K mainGlobals "_law_names"=some (some (.ref f24))) (l24:K.lookup f24=some ⟨xC,tQ,.func (PySem.W.fnOf "_law_names" "_law_names" (Af IS) (Ac IS) (AI IS) .none xD xE xF tR lM xG),ug⟩) (c24:PySem.W.codeIn K lM "_law_names"=true) (k24:PySem.W.keepIn K (.ref f24)=true)
  (a25:PySem.W.nsIn K mainGlobals "_law_doc"=some (some (.ref f25))) (l25:K.lookup f25=some ⟨xH,tS,.func (PySem.W.fnOf "_law_doc" "_law_doc" (Af Um) (Ac Um) (AI Um) .none xI xJ xK tU lN xM),uh⟩) (c25:PySem.W.codeIn K lN "_law_doc"=true) (k25:PySem.W.keepIn K (.ref f25)=true)
  (a26:PySem.W.nsIn K mainGlobals "_law_copy"=some (some (.ref f26))) (l26:K.lookup f26=some ⟨xN,tV,.func (PySem.W.fnOf "_law_copy" "_law_copy" (Af Kk) (Ac Kk) (AI Kk) .none xO xP xQ tW lO xR),ui⟩) (c26:PySem.W.codeIn K lO "_law_copy"=true) (k26:PySem.W.keepIn K (.ref f26)=true)
  (a27:PySem.W.nsIn K mainGlobals "_law_asks"=some (some (.ref f27))) (l27:K.lookup f27=some ⟨xS,tX,.func (PySem.W.fnOf "_law_asks" "_law_asks" (Af Kl) (Ac Kl) (AI Kl) .none xT xU xV tY lP xW),uj⟩) (c27:PySem.W.codeIn K lP "_law_asks"=true) (k27:PySem.W.keepIn K (.ref f27)=true)
  (a28:PySem.W.nsIn K mainGlobals "_law_told"=some (some (.ref f28))) (l28:K.lookup f28=some ⟨xX,tZ,.func (PySem.W.fnOf "_law_told" "_law_told" (Af Km) (Ac Km) (AI Km) .none xY xZ xa tm lQ xb),uk⟩) (c28:PySem.W.codeIn K lQ "_law_told"=true) (k28:PySem.W.keepIn K (.ref f28)=true)
  (a29:PySem.W.nsIn K mainGlobals "_law_out"=some (some (.ref f29))) (l29:K.lookup f29=some ⟨xc,tq,.func (PySem.W.fnOf "_law_out" "_law_out" (Af Uo) (Ac Uo) (AI Uo) .none xf xg xh t_ lS xi),um⟩) (c29:PySem.W.codeIn K lS "_law_out"=true) (k29:PySem.W.keepIn K (.ref f29)=true)
  (a30:PySem.W.nsIn K mainGlobals "_law_open"=some (some (.ref f30))) (l30:K.lookup f30=some ⟨xj,uA,.func (PySem.W.fnOf "_law_open" "_law_open" (Af ME) (Ac ME) (AI ME) .none xk xl xm uB lU xn),uo⟩) (c30:PySem.W.codeIn K lU "_law_open"=true) (k30:PySem.W.keepIn K (.ref f30)=true)
  (a31:PySem.W.nsIn K mainGlobals "_law_table"=some (some (.ref f31))) (l31:K.lookup f31=some ⟨xo,uC,.func (PySem.W.fnOf "_law_table" "_law_table" (Af GY) (Ac GY) (AI GY) .none xp xq xr uD lV xt),uq⟩) (c31:PySem.W.codeIn K lV "_law_table"=true) (k31:PySem.W.keepIn K (.ref f31)=true)
  (a32:PySem.W.nsIn K mainGlobals "_law_makes"=some (some (.ref f32))) (l32:K.lookup f32=some ⟨xu,uE,.func (PySem.W.fnOf "_law_makes" "_law_makes" (Af GZ) (Ac GZ) (AI GZ) .none xw xx xy uF lW x_),ur⟩) (c32:PySem.W.codeIn K lW "_law_makes"=true) (k32:PySem.W.keepIn K (.ref f32)=true)
  (a33:PySem.W.nsIn K mainGlobals "_law_beyond"=some (some (.ref f33))) (l33:K.lookup f33=some ⟨yA,uG,.func (PySem.W.fnOf "_law_beyond" "_law_beyond" (Af Fy) (Ac Fy) (AI Fy) .none yB yC yD uH lX yE),uu⟩) (c33:PySem.W.codeIn K lX "_law_beyond"=true) (k33:PySem.W.keepIn K (.ref f33)=true)
  (a34:PySem.W.nsIn K mainGlobals "_law_wrong"=some (some (.ref f34))) (l34:K.lookup f34=some ⟨yF,uI,.func (PySem.W.fnOf "_law_wrong" "_law_wrong" (Af IT) (Ac IT) (AI IT) .none yG yH yI uJ lY yJ),uv⟩) (c34:PySem.W.codeIn K lY "_law_wrong"=true) (k34:PySem.W.keepIn K (.ref f34)=true)
  (a35:PySem.W.nsIn K mainGlobals "_law_within"=some (some (.ref f35))) (l35:K.lookup f35=some ⟨yK,uK,.func (PySem.W.fnOf "_law_within" "_law_within" (Af FC) (Ac FC) (AI FC) .none yL yM yN uL lZ yO),uw⟩) (c35:PySem.W.codeIn K lZ "_law_within"=true) (k35:PySem.W.keepIn K (.ref f35)=true)
  (a36:PySem.W.nsIn K mainGlobals "_law_all"=some (some (.ref f36))) (l36:K.lookup f36=some ⟨yP,uM,.func (PySem.W.fnOf "_law_all" "_law_all" (Af RI) (Ac RI) (AI RI) .none yQ yR yS uN lb yT),ux⟩) (c36:PySem.W.codeIn K lb "_law_all"=true) (k36:PySem.W.keepIn K (.ref f36)=true)
  (a37:PySem.W.nsIn K mainGlobals "_law_large"=some (some (.ref f37))) (l37:K.lookup f37=some ⟨yU,uO,.func (PySem.W.fnOf "_law_large" "_law_large" (Af IU) (Ac IU) (AI IU) .none yV yW yX uP lg yY),uy⟩) (c37:PySem.W.codeIn K lg "_law_large"=true) (k37:PySem.W.keepIn K (.ref f37)=true)
  (a38:PySem.W.nsIn K mainGlobals "law"=some (some (.ref f38))) (l38:K.lookup f38=some ⟨yZ,uQ,.func (PySem.W.fnOf "law" "law" (Af NL) (Ac NL) (AI NL) .none lh lj l_ Z O mB),uz⟩) (c38:PySem.W.codeIn K O "law"=true) (k38:PySem.W.keepIn K (.ref f38)=true)
  (z1:PySem.W.nsIn K mainGlobals "isinstance"=some none)
  (z2:PySem.W.nsIn K mainGlobals "int"=some none)
  (z3:PySem.W.nsIn K mainGlobals "bool"=some none)
  (z4:PySem.W.nsIn K mainGlobals "str"=some none)
  (z5:PySem.W.nsIn K mainGlobals "list"=some none)
  (z6:PySem.W.nsIn K mainGlobals "dict"=some none)
  (z7:PySem.W.nsIn K mainGlobals "tuple"=some none)
  (z8:PySem.W.nsIn K mainGlobals "len"=some none)
  (z9:PySem.W.nsIn K mainGlobals "range"=some none)
  (z10:PySem.W.nsIn K mainGlobals "max"=some none)
  (z11:PySem.W.nsIn K mainGlobals "min"=some none)
  (z12:PySem.W.nsIn K mainGlobals "sorted"=some none)
  (z13:PySem.W.nsIn K mainGlobals "all"=some none)
  (z14:PySem.W.nsIn K mainGlobals "any"=some none)
  (z15:PySem.W.nsIn K mainGlobals "reversed"=some none)
  (z16:PySem.W.nsIn K mainGlobals "ValueError"=some none)
  (z17:PySem.W.nsIn K mainGlobals "sum"=some none)
  {aA:Addr}
  (zZ:PySem.W.nsIn K mainGlobals "zip"=some none)
  (eA:PySem.W.nsIn K mainGlobals "ANY"=some (some (.ref aA)))
  (hA:Ys K aA ["any"]=true)
  :∃fd:FuncData,(∀(s:Shared) (v:Value),BindsTo s fd ⟨[v],[]⟩ [("_law_script",v)])/\∀base:Heap,K.In base->base.Ns mainGlobals mg->BH l.prog w K mg base Cs 60 fa fd ["_law_script"] (OT K):=by
 haveI:BY K:=⟨trivial⟩
 have e:=hfa.symm.trans (PySem.W.mg_of X G a38)
 cases e
 have c:=fun{x:Str} {v:Value} (a:PySem.W.nsIn K mainGlobals x=some (some v))=>PySem.W.mg_of X G a
 have T:Txt mg:=by constructor<;>(apply PySem.W.mg_none_of X G;assumption)
 have F1:=A' (st:=Dn) l1 c1 k1
 have b1:=bi F1 ["root","inner"]
 have m1:=c a1
 have F2:=A' (st:=Fu) l2 c2 k2
 have b2:=bi F2 ["root","inner","join"]
 have m2:=c a2
 have F3:=A' (st:=EA) l3 c3 k3
 have b3:=bi F3 ["doc"]
 have m3:=c a3
 have F4:=A' (st:=Ej) l4 c4 k4
 have b4:=bi F4 ["doc"]
 have m4:=c a4
 have F5:=A' (st:=DG) l5 c5 k5
 have b5:=bi F5 ["doc"]
 have m5:=c a5
 have F6:=A' (st:=Fv) l6 c6 k6
 have b6:=bi F6 ["doc"]
 have m6:=c a6
 have F7:=A' (st:=IP) l7 c7 k7
 have b7:=bi F7 ["doc","step"]
 have m7:=c a7
 have F8:=A' (st:=Dp) l8 c8 k8
 have b8:=bi F8 ["node"]
 have m8:=c a8
 have F9:=A' (st:=Co) l9 c9 k9
 have b9:=bi F9 ["node"]
 have m9:=c a9
 have ya:=A' (st:=Fw) l10 c10 k10
 have b10:=bi ya ["holder","told"]
 have m10:=c a10
 have yb:=A' (st:=DH) l11 c11 k11
 have b11:=bi yb ["holder"]
 have m11:=c a11
 have yc:=A' (st:=Fx) l12 c12 k12
 have b12:=bi yc ["asks"]
 have m12:=c a12
 have yd:=A' (st:=Dq) l13 c13 k13
 have b13:=bi yd ["asks"]
 have m13:=c a13
 have ye:=A' (st:=Ds) l14 c14 k14
 have b14:=bi ye ["asks","told"]
 have m14:=c a14
 have yf:=A' (st:=Ek) l15 c15 k15
 have b15:=bi yf ["cells","more"]
 have m15:=c a15
 have yg:=A' (st:=DI) l16 c16 k16
 have b16:=bi yg ["names","lacking","more"]
 have m16:=c a16
 have yh:=A' (st:=DJ) l17 c17 k17
 have b17:=bi yh ["asks","path"]
 have m17:=c a17
 have yi:=A' (st:=IQ) l18 c18 k18
 have b18:=bi yi ["asks","step"]
 have m18:=c a18
 have yj:=A' (st:=DK) l19 c19 k19
 have b19:=bi yj ["makes","asks"]
 have m19:=c a19
 have yn:=A' (st:=Cp) l20 c20 k20
 have b20:=bi yn ["makes","asks"]
 have m20:=c a20
 have yo:=A' (st:=Cq) l21 c21 k21
 have b21:=bi yo ["makes","found"]
 have m21:=c a21
 have yq:=A' (st:=MD) l22 c22 k22
 have b22:=bi yq ["_law_script","_law_k"]
 have m22:=c a22
 have yr:=A' (st:=RH) l23 c23 k23
 have b23:=bi yr ["_law_cell_here","_law_k"]
 have m23:=c a23
 have yt:=A' (st:=IS) l24 c24 k24
 have b24:=bi yt ["_law_cell_here"]
 have m24:=c a24
 have yu:=A' (st:=Um) l25 c25 k25
 have b25:=bi yu ["_law_cell_here","_law_k","_law_names_here"]
 have m25:=c a25
 have yw:=A' (st:=Kk) l26 c26 k26
 have b26:=bi yw ["_law_thing"]
 have m26:=c a26
 have yx:=A' (st:=Kl) l27 c27 k27
 have b27:=bi yx ["_law_cells","_law_deep","_law_names_here"]
 have m27:=c a27
 have yy:=A' (st:=Km) l28 c28 k28
 have b28:=bi yy ["_law_asks_here","_law_path"]
 have m28:=c a28
 have yz:=A' (st:=Uo) l29 c29 k29
 have b29:=bi yz ["_law_path","_law_there"]
 have m29:=c a29
 have y_:=A' (st:=ME) l30 c30 k30
 have b30:=bi y_ ["_law_cell_here","_law_k","_law_told_here","_law_word"]
 have m30:=c a30
 have F31:=A' (st:=GY) l31 c31 k31
 have b31:=bi F31 ["_law_cells","_law_cell_here","_law_deep","_law_told_here","_law_names_here"]
 have m31:=c a31
 have zA:=A' (st:=GZ) l32 c32 k32
 have b32:=bi zA ["_law_cells","_law_deep","_law_told_here","_law_names_here"]
 have m32:=c a32
 have zB:=A' (st:=Fy) l33 c33 k33
 have b33:=bi zB ["_law_path","_law_there","_law_names_here"]
 have m33:=c a33
 have zC:=A' (st:=IT) l34 c34 k34
 have b34:=bi zC ["_law_cell_here","_law_told_here","_law_names_here"]
 have m34:=c a34
 have zD:=A' (st:=FC) l35 c35 k35
 have b35:=bi zD ["_law_makes_here","_law_cell_here","_law_deep","_law_wrong_here"]
 have m35:=c a35
 have zE:=A' (st:=RI) l36 c36 k36
 have b36:=bi zE ["_law_makes_here"]
 have m36:=c a36
 have zF:=A' (st:=IU) l37 c37 k37
 have b37:=bi zF ["_law_asks_here","_law_cell_here","_law_names_here"]
 have m37:=c a37
 have F38:=A' (st:=NL) l38 c38 k38
 have zG:=PySem.W.mg_none_of X G zZ
 have mA:=PySem.W.mg_of X G eA
 refine⟨PySem.W.fnOf "law" "law" (Af NL) (Ac NL) (AI NL) .none lh lj l_ Z O mB,fun s v=>.of_eq rfl,fun base _ _=>?_⟩
 have d:=@Df.mk' l.prog w K mg base
 have k:=d F3 b3 m3 (Ko F3 T)
 have f:=d F4 b4 m4 (RJ F4 T k)
 have i:=d F8 b8 m8 (Pp F8 T)
 have j:=d F1 b1 m1 (Pl F1 T F9.kp b9 (GG F9 T f i))
 have z:=d F3 b3 m3 (NM F3 T)
 have u:=d F5 b5 m5 (NN F5 T)
 have F:=d F6 b6 m6 (Ur F6 T z u)
 have r:=d ya b10 m10 (Ut ya T k zG)
 have g:=d yb b11 m11 (NO yb T f r)
 have A:=d yf b15 m15 (RN yf T g)
 have o:=d yg b16 m16 (NP yg T g)
 have H:=d F2 b2 m2 (Up F2 T j F9.kp b9 (GG F9 T f i) ye.kp b14 (Px ye T F r A o mA hA))
 have y:=d yd b13 m13 (Pu yd T H m9 m14)
 have t:=d F7 b7 m7 (XW F7 T)
 have p:=d yh b17 m17 (NQ yh T t)
 have B:=d yc b12 m12 (Uu yc T)
 have I:=d yi b18 m18 (XY yi T t)
 have m:=d yo b21 m21 (LO yo T B I)
 have n:=d yn b20 m20 (LN yn T p m)
 have q:=d yj b19 m19 (NR yj T j n m9)
 have P:=d yq b22 m22 (Za yq T)
 have b:=d yr b23 m23 (Zb yr T)
 have J:=d yt b24 m24 (Xa yt T b)
 have Q:=d yw b26 m26 (P_ yw T b26 m26 50)
 have E:=d yu b25 m25 (eF yu T b)
 have R:=d yx b27 m27 (P' yx T b27 m27 b E 10)
 have S:=d yy b28 m28 (QA yy T b28 m28 25)
 have V:=d yz b29 m29 (eT yz T)
 have U:=d y_ b30 m30 (Zk y_ T b)
 have L:=d zA b32 m32 (Xs zA F31 T b32 m32 b31 m31 b E V U 20).1
 have C:=d zB b33 m33 (Uy zB T)
 have M:=d zC b34 m34 (Xt zC T b C)
 have D:=d zD b35 m35 (Kv zD T b35 m35 b 20)
 have Y:=d zE b36 m36 (TV zE T b36 m36 20)
 have N:=d zF b37 m37 (Xw zF T b)
 exact fK F38 T y q P J Q R S L M D Y N
theorem walk {l:PySem.W.OpenLaw} {q:Program} {loose:List Str} {g:(Str->Option Value)->Heap->Prop} {YP:World->Heap->Prop} {d:DefRec} {K:Params->AGW} (i:l.most=some 63) (b:d.params.defaults=[])
  (j:∀(w:World) (h:Heap),YP w h->(K w.params).In h)
  (F:∀(w:World) (mg:Str->Option Value) (c:Addr) (h:Heap),(K w.params).In h->h.Ns mainGlobals mg->mg d.name=some (.ref c)->
   ∃e:FuncData,(∀(s:Shared) (u:Value),BindsTo s e ⟨[u],[]⟩ [("_law_script",u)])/\∀base:Heap,(K w.params).In base->base.Ns mainGlobals mg->BH l.prog w (K w.params) mg base Cs 60 c e ["_law_script"] (OT (K w.params))):
  PySem.W.WalkO q loose g YP l.row.toRowW d [] (fun f vs=>PySem.call f vs):=
 L2.YU (n:=63) (k:=60) (x:="_law_script") (CX:=fun _=>Cs) (sp:=fun w=>OT (K w.params)) i (by decide) b ⟨rfl,by decide,by decide,rfl⟩ j F (fun _ _ a m o _ p=>⟨a,m,rfl,p,o,fun _=>rfl⟩) fun _ _ _ _ _ z=>z
theorem walkZ {l:PySem.W.OpenLaw} {q:Program} {loose:List Str} {m:(Str->Option Value)->Heap->Prop} {d:DefRec} {K:Params->AGW} {as:List Addr} {n t:Nat} (e:∀P:Params,as=List.map (fun x=>x.fst) (K P)) (p:l.most=some 63) (g:d.params.defaults=[])
  (F:∀(w:World) (mg:Str->Option Value) (j:Addr) (h:Heap),(K w.params).In h->h.Ns mainGlobals mg->mg d.name=some (.ref j)->
   ∃k:FuncData,(∀(s:Shared) (u:Value),BindsTo s k ⟨[u],[]⟩ [("_law_script",u)])/\∀base:Heap,(K w.params).In base->base.Ns mainGlobals mg->BH l.prog w (K w.params) mg base Cs 60 j k ["_law_script"] (OT (K w.params))):
  PySem.W.WalkX q loose m (PySem.W.X.obsZ as) (PySem.W.X.valZ K n t) l.row.toRowW d [] (fun f vs=>PySem.call f vs):=
 fun w b c mg r G y a o v A doc B kV C D E H I J args vals i L M N O Q R=>
  walk (YP:=fun w h=>(K w.params).In h) p g (fun _ _ z=>z) F w b c mg r G ((show(K w.params).In b.heap from(PySem.W.X.z_facts e y).2.1).keeps L.keeps) a o v A doc B kV C D E H I J args vals i M N O Q R
end df
def PySem.W.Fast.tw10418692876679509192:=0
def PySem.W.Fast.tw16561419949335095173:=0
def PySem.W.Fast.tw2127038064477436912:=0
def PySem.W.Fast.tw13413669427942568822:=0
def PySem.W.Fast.tw2756290691388595479:=0
def PySem.W.Fast.tw953855216462529869:=0
def PySem.W.Fast.tw7741415331792088344:=0
def PySem.W.Fast.tw1790018877665475832:=0
def PySem.W.Fast.tw5470640764302732570:=0
def PySem.W.Fast.tw7468093242889663635:=0
def PySem.W.Fast.tw11023120140286776636:=0
def PySem.W.Fast.tw8120474617036788515:=0
def PySem.W.Fast.tw10400184163525307778:=0
def PySem.W.Fast.tw1087167014067364636:=0
def PySem.W.Fast.tw14282916512481895524:=0
def PySem.W.Fast.tw4586906982237228670:=0
def PySem.W.Fast.tw15907014081092506141:=0
def PySem.W.Fast.tw7842560866282307881:=0
def PySem.W.Fast.tw5677051184131423180:=0
def PySem.W.Fast.tw17042877273916950253:=0
def PySem.W.Fast.tw12775308650005421381:=0
def PySem.W.Fast.tw6014581789253715549:=0
def PySem.W.Fast.tw10571855950114359010:=0
def PySem.W.Fast.tw12702386223158881965:=0
def PySem.W.Fast.tw15303609536295161451:=0
def PySem.W.Fast.tw7984319941113577253:=0
def PySem.W.Fast.tw3400607689325190904:=0
def PySem.W.Fast.tw6036839517073993340:=0
open PySem PySem.W PyProof.Rows
set_option maxRecDepth 100000 in
set_option maxHeartbeats 0 in
theorem PySem.Challenge.cw_patchbough_k54_makes_over_asks_holds : PySem.Challenge.rw_patchbough_k54_makes_over_asks.Holds := by
 w_on;o_law;z_head;(case hw=>w_witness2)
 k_fill
 refine df.walkZ (l:=PySem.Challenge.rw_patchbough_k54_makes_over_asks) (fun _=>rfl) rfl rfl ?F
 case F=>
  intro w c d h b G a
  refine' df.all_mk b G a ?a1 ?l1 ?c1 ?k1 ?a2 ?l2 ?c2 ?k2 ?a3 ?l3 ?c3 ?k3 ?a4 ?l4 ?c4 ?k4 ?a5 ?l5 ?c5 ?k5 ?a6 ?l6 ?c6 ?k6 ?a7 ?l7 ?c7 ?k7 ?a8 ?l8 ?c8 ?k8 ?a9 ?l9 ?c9 ?k9 ?a10 ?l10 ?c10 ?k10 ?a11 ?l11 ?c11 ?k11 ?a12 ?l12 ?c12 ?k12 ?a13 ?l13 ?c13 ?k13 ?a14 ?l14 ?c14 ?k14 ?a15 ?l15 ?c15 ?k15 ?a16 ?l16 ?c16 ?k16 ?a17 ?l17 ?c17 ?k17 ?a18 ?l18 ?c18 ?k18 ?a19 ?l19 ?c19 ?k19 ?a20 ?l20 ?c20 ?k20 ?a21 ?l21 ?c21 ?k21 ?a22 ?l22 ?c22 ?k22 ?a23 ?l23 ?c23 ?k23 ?a24 ?l24 ?c24 ?k24 ?a25 ?l25 ?c25 ?k25 ?a26 ?l26 ?c26 ?k26 ?a27 ?l27 ?c27 ?k27 ?a28 ?l28 ?c28 ?k28 ?a29 ?l29 ?c29 ?k29 ?a30 ?l30 ?c30 ?k30 ?a31 ?l31 ?c31 ?k31 ?a32 ?l32 ?c32 ?k32 ?a33 ?l33 ?c33 ?k33 ?a34 ?l34 ?c34 ?k34 ?a35 ?l35 ?c35 ?k35 ?a36 ?l36 ?c36 ?k36 ?a37 ?l37 ?c37 ?k37 ?a38 ?l38 ?c38 ?k38 ?z1 ?z2 ?z3 ?z4 ?z5 ?z6 ?z7 ?z8 ?z9 ?z10 ?z11 ?z12 ?z13 ?z14 ?z15 ?z16 ?z17 ?zZ ?eA ?hA
  (case a1|l1|c1|k1|a2|l2|c2|k2|a3|l3|c3|k3|a4|l4|c4|k4|a5|l5|c5|k5|a6|l6|c6|k6|a7|l7|c7|k7|a8|l8|c8|k8|a9|l9|c9|k9|a10|l10|c10|k10|a11|l11|c11|k11|a12|l12|c12|k12|a13|l13|c13|k13|a14|l14|c14|k14|a15|l15|c15|k15|a16|l16|c16|k16|a17|l17|c17|k17|a18|l18|c18|k18|a19|l19|c19|k19|a20|l20|c20|k20|a21|l21|c21|k21|a22|l22|c22|k22|a23|l23|c23|k23|a24|l24|c24|k24|a25|l25|c25|k25|a26|l26|c26|k26|a27|l27|c27|k27|a28|l28|c28|k28|a29|l29|c29|k29|a30|l30|c30|k30|a31|l31|c31|k31|a32|l32|c32|k32|a33|l33|c33|k33|a34|l34|c34|k34|a35|l35|c35|k35|a36|l36|c36|k36|a37|l37|c37|k37|a38|l38|c38|k38|z1|z2|z3|z4|z5|z6|z7|z8|z9|z10|z11|z12|z13|z14|z15|z16|z17|zZ|eA=>k_is)
  (case hA=>kernel_rfl)
#print axioms PySem.Challenge.cw_patchbough_k54_makes_over_asks_holds
