import PyProof.Rows.All
import Wide.All
import OpenK.AllK
import Wide.FinOn
import Lean
import PyProof.EqAt
import PyProof.EqKinds
import PyProof.TupleCall
import PyProof.ReprRoads
import PyProof.ReprBulk
import PyProof.ZipIter
import KE.KItemsList
import PyProof.P3Eq
import KE.KEqDict
import PyProof.Rows.Range3
import KE.KLam
import PyProof.Rows.SetFrom
import KE.KDictList
import PySem.Challenge.RW_patchbough_k44_a_least_document
set_option compiler.extract_closed false
set_option bootstrap.genMatcherCode false
noncomputable section
set_option Elab.async false
set_option linter.all false
set_option maxRecDepth 100000
set_option maxHeartbeats 40000000
theorem rW{α:Type _}{l:List α}{i:Nat}(h:i<l.length):l[i]?=some l[i]:=List.getElem?_eq_getElem h
theorem rX{α:Type _}{l:List α}{i:Nat}{a:α}(h:l[i]?=some a):∃h:i<l.length,l[i]=a:=List.getElem?_eq_some_iff.mp h
theorem rY{α:Type _}{a b:α}(h:some a=some b):a=b:=Option.some.inj h
theorem rZ{α:Type _}{l:List α}{i:Nat}{a:α}(h:l[i]?=some a):a∈l:=List.mem_of_getElem? h
abbrev rg:=PySem.W.Frag
namespace L2
open PySem PySem.Spec PyProof.Rows
abbrev Key:=Sum Int Str
noncomputable def Ic:Key->Value->Bool
 | .inl k,v=>Value.isInt k v
 | .inr x,v=>Value.isStrOf x v
noncomputable def dO(w:World):Key->Int
 | .inl k=>hashInt k
 | .inr x=>hashStr w x
theorem BK:∀{k:Key}{v:Value},Ic k v=true->(∃i t,k=Sum.inl i/\v=Value.int i t)∨(∃x t,k=Sum.inr x/\v=Value.str x t)
 | .inl i,v,h=>by
  obtain⟨t,e⟩:=Value.isInt_shape (k:=i) (v:=v) h;exact .inl ⟨i,t,rfl,e⟩
 | .inr x,v,h=>by
  obtain⟨t,e⟩:=Value.isStrOf_shape (x:=x) (v:=v) h;exact .inr ⟨x,t,rfl,e⟩
theorem RF(i:Int)(t:Tok):Ic (.inl i) (.int i t)=true:=by simp[Ic,Value.isInt]
theorem RG(x:Str)(t:Tok):Ic (.inr x) (.str x t)=true:=by simp[Ic,Value.isStrOf]
theorem Xz(a b:Int):decide ((Sum.inl a:Key)=Sum.inl b)=(a==b):=by
 by_cases e:a=b
 ·subst e;simp
 ·have h:¬(Sum.inl a:Key)=Sum.inl b:=fun q=>e (Sum.inl.inj q);rw[decide_eq_false h];exact(beq_eq_false_iff_ne.mpr e).symm
theorem X_(a b:Str):decide ((Sum.inr a:Key)=Sum.inr b)=decide (a=b):=by
 by_cases e:a=b
 ·subst e;simp
 ·have h:¬(Sum.inr a:Key)=Sum.inr b:=fun q=>e (Sum.inr.inj q);rw[decide_eq_false h,decide_eq_false e]
theorem X'(a:Int)(b:Str):decide ((Sum.inl a:Key)=Sum.inr b)=false:=decide_eq_false (fun q=>nomatch q)
theorem YA(a:Str)(b:Int):decide ((Sum.inr a:Key)=Sum.inl b)=false:=decide_eq_false (fun q=>nomatch q)
def AZ(prog:Program)(w:World):PySem.KeyKind prog w Key where
 is:=Ic
 hash:=dO w
 inj:=fun v a b ha hb=>by
  rcases BK ha with⟨i,t,rfl,rfl⟩|⟨x,t,rfl,rfl⟩
  ·rcases BK hb with⟨j,u,rfl,e⟩|⟨y,u,rfl,e⟩
   ·injection e with e1 _;rw[e1]
   ·exact nomatch e
  ·rcases BK hb with⟨j,u,rfl,e⟩|⟨y,u,rfl,e⟩
   ·exact nomatch e
   ·injection e with e1 _;rw[e1]
 byValue:=fun k v h=>by
  rcases BK h with⟨i,t,rfl,rfl⟩|⟨x,t,rfl,rfl⟩<;>rfl
 pyHash:=fun hv h=>by
  rcases BK hv with⟨i,t,rfl,rfl⟩|⟨x,t,rfl,rfl⟩
  ·exact wpAny_pyHash_int h
  ·exact wpAny_pyHash_str h
 eqBool:=fun hu hv h=>by
  rcases BK hu with⟨i,t,rfl,rfl⟩|⟨x,t,rfl,rfl⟩
  ·rcases BK hv with⟨j,u,rfl,rfl⟩|⟨y,u,rfl,rfl⟩
   ·rw[Xz]at h;exact wpAny_eqBool_int h
   ·rw[X']at h;exact SeqAt.EqAt.int_str i t y u _ _ _ _ h
  ·rcases BK hv with⟨j,u,rfl,rfl⟩|⟨y,u,rfl,rfl⟩
   ·rw[YA]at h;exact SeqAt.EqAt.str_int x t j u _ _ _ _ h
   ·rw[X_]at h;exact wpAny_eqBool_str h
 «strs»:=fun k x t v h=>by
  rcases BK h with⟨i,u,rfl,e⟩|⟨y,u,rfl,e⟩
  ·exact nomatch e
  ·injection e with e1 _;subst e1;cases v<;>rfl
theorem Mu(prog:Program)(w:World)(i:Int)(t:Tok):(AZ prog w).is (.inl i) (.int i t)=true:=RF i t
theorem Mv(prog:Program)(w:World)(x:Str)(t:Tok):(AZ prog w).is (.inr x) (.str x t)=true:=RG x t
inductive V where
 |Ai|bl (b:Bool)|int (i:Int)|str (x:Str)|QD (b:Array UInt8)|YB (b:UInt64)|ref (a:Addr)|ty (n:String)
 deriving DecidableEq
def RelV:V->Value->Prop
 | .Ai,u=>u=Value.none
 | .bl b,u=>u=Value.bool b
 | .int i,u=>∃t,u=Value.int i t
 | .str x,u=>∃t,u=Value.str x t
 | .QD b,u=>∃t,u=Value.bytes b t
 | .YB b,u=>∃t,u=Value.float b t
 | .ref a,u=>u=Value.ref a
 | .ty n,u=>u=Value.type n
abbrev Vals:List V->List Value->Prop:=Paired RelV
theorem Vals.length{xs:List V}{us:List Value}(r:Vals xs us):xs.length=us.length:=Paired.length r
variable{us:List Value}{xs:List V}
theorem Vals.inv{x:V}(r:Vals (x::xs) us):∃u ur,us=u::ur/\RelV x u/\Vals xs ur:=by
 cases r with
 |cons a b=>exact⟨_,_,rfl,a,b⟩
variable{i:Nat}
theorem Vals.get{x:V}(r:Vals xs us)(e:xs[i]?=some x):∃u,us[i]?=some u/\RelV x u:=by
 induction r generalizing i with
 |nil=>rw[List.getElem?_nil]at e;exact nomatch e
 |cons a b c=>
  cases i with
  |zero=>exact⟨_,rfl,rY e▸a⟩
  |succ j=>exact c (i:=j) e
theorem Vals.set{x:V}{u:Value}(r:RelV x u):∀{xs:List V}{us:List Value}(i:Nat),Vals xs us->Vals (xs.set i x) (us.set i u)
 |_,_,_,.nil=>.nil
 |_,_,0,.cons _ t=>.cons r t
 |_,_,i+1,.cons q t=>.cons q (Vals.set r i t)
theorem Vals.append{ys:List V}{ws:List Value}(r:Vals xs us)(s:Vals ys ws):Vals (xs++ys) (us++ws):=by
 induction r with
 |nil=>exact s
 |cons a _ b=>exact .cons a b
theorem Vals.take:∀{xs:List V}{us:List Value}(n:Nat),Vals xs us->Vals (xs.take n) (us.take n)
 |_,_,0,_=>.nil
 |_,_,_+1,.nil=>.nil
 |_,_,n+1,.cons r t=>.cons r (Vals.take n t)
theorem Vals.drop:∀{xs:List V}{us:List Value}(n:Nat),Vals xs us->Vals (xs.drop n) (us.drop n)
 |_,_,0,r=>r
 |_,_,_+1,.nil=>.nil
 |_,_,n+1,.cons _ t=>Vals.drop n t
def Dr:Option V->Option Value->Prop
 |some v,some u=>RelV v u
 |none,none=>True
 |_,_=>False
def KV{a:Type}:List (a×V)->List (a×Value)->Prop:=Paired fun(p:a×V)(q:a×Value)=>p.1=q.1/\RelV p.2 q.2
noncomputable def kV:Key->V
 | .inl i=>.int i
 | .inr x=>.str x
inductive HO where
 |lst (xs:List V)
 |tup (xs:List V)
 |dK (kvs:List (Key×V))|dT (kvs:List (List Key×V))
 |set (S:Int->Bool) (n:Nat)
 |ins (C a:Addr) (fs:List (Str×V))
 |own (x:Addr)
 |xd (fs:List (Str×V))
 |met (f x:Addr)
 |Va (lo b:Int)
 |BP (o:Obj) (u:HO)
 |IC (ps:Array Value)
 |ext (c:Heap->Prop)
abbrev Hp:=Addr->Option HO
def upd(H:Hp)(a:Addr)(o:HO):Hp:=fun b=>if b=a then some o else H b
variable{H:Hp}{a:Addr}
theorem AB{o:HO}:upd H a o a=some o:=by unfold upd;rw[if_pos rfl]
variable{b:Addr}
theorem AH{o:HO}(h:b≠a):upd H a o b=H b:=by unfold upd;rw[if_neg h]
theorem Vh{o u:HO}:upd (upd H a o) a u=upd H a u:=by
 funext b;unfold upd;split<;>rfl
theorem Zu{o u:HO}(h:H a=some o)(h':H b=some u)(d:o≠u):a≠b:=by
 intro e;subst e;rw[h]at h';exact d (rY h')
theorem AV{o:HO}(h:H a=some o)(h':H b=none):a≠b:=by
 intro e;subst e;rw[h]at h';cases h'
section
variable(P:Program) (w:World)
def Aj(H:Hp)(h:Heap)(a:Addr):HO->Prop
 | .lst xs=>xs.length<=sizeLine/\∃(its:List Value)(n:Nat),Vals xs its/\h.get? a=some {cls:=.type "list",data:=.seq its.toArray n}
 | .tup xs=>xs.length<=sizeLine/\∃its:List Value,Vals xs its/\IsTup h a its.toArray
 | .dK kvs=>kvs.length<=sizeLine/\(a==sysModules)=false/\∃e,KV kvs e/\h.DictOf (AZ P w) a e
 | .dT kvs=>kvs.length<=sizeLine/\(a==sysModules)=false/\∃xs:List (List Key×Addr×Value),
   Paired (fun(p:List Key×V)(q:List Key×Addr×Value)=>p.1=q.1/\H q.2.1=some (.tup (p.1.map kV))/\RelV p.2 q.2.2) kvs xs/\
   ∃o g k,h.get? a=some o/\o.ExactDict/\o.data=.dict g k/\g.toList=xs.map (entryOfKey (tupleKind (AZ P w)))/\(xs.map (·.1)).Nodup
 | .set S n=>h.SetOf (intKind P w) a S n
 | .ins C c fs=>H c=some (.own a)/\fs.length<=1000/\c≠a/\h.get? a=some (PySem.W.instObj C c)/\
   ∃b,h.Ns1 c b/\(∀f,Dr (fs.lookup f) (b f))/\PySem.Within b (fs.map (·.1))
 | .own _=>∃o,h.get? a=some o
 | .xd fs=>∃b,h.Ns1 a b/\∀f,Dr (fs.lookup f) (b f)
 | .Va lo l=>∃t u v,h.get? a=some {cls:=.type "range",data:=.fields #[.int lo t,.int l u,.int 1 v]}
 | .BP o u=>h.get? a=some o/\Aj H h a u
 | .IC m=>h.get? a=some {cls:=.none,data:=.fields m}
 | .met f x=>h.get? a=some (PySem.W.methodObj (.ref f) (.ref x))
 | .ext d=>d h/\(∃o,h.get? a=some o)/\∀i j:Heap,d i->(∀o,i.get? a=some o->j.get? a=some o)->d j
def DV(H:Hp)(h:Heap):Prop:=∀a o,H a=some o->Aj P w H h a o
end
section
variable{P:Program} {w:World} {H H':Hp} {h h':Heap} {a:Addr} {o:HO}
theorem Aj.lt(x:Aj P w H h a o):a<h.objs.size:=by
 cases o with
 |lst b=>obtain⟨_,_,_,_,e⟩:=x;exact Heap.lt_size e
 |tup b=>obtain⟨_,_,_,p⟩:=x;exact p.lt
 |dK kvs=>obtain⟨_,_,_,_,o,_,_,e,_⟩:=x;exact Heap.lt_size e
 |dT kvs=>obtain⟨_,_,_,_,o,_,_,e,_⟩:=x;exact Heap.lt_size e
 |set S n=>obtain⟨o,_,_,_,e,_⟩:=x;exact Heap.lt_size e
 |ins C c fs=>obtain⟨_,_,_,e,_⟩:=x;exact Heap.lt_size e
 |own y=>obtain⟨_,e⟩:=x;exact Heap.lt_size e
 |xd fs=>obtain⟨_,⟨_,_,_,e,_⟩,_⟩:=x;exact Heap.lt_size e
 |Va lo d=>obtain⟨_,_,_,e⟩:=x;exact Heap.lt_size e
 |BP g u=>obtain⟨e,_⟩:=x;exact Heap.lt_size e
 |IC i=>exact Heap.lt_size (show h.get? a=some _ from x)
 |met f y=>exact Heap.lt_size (show h.get? a=some _ from x)
 |ext j=>obtain⟨_,⟨_,e⟩,_⟩:=x;exact Heap.lt_size e
theorem Paired.Zv{d e:Type}{F G:d->e->Prop}{c:List d}{l₂:List e}(r:Paired F c l₂)(f:∀a b,F a b->G a b):Paired G c l₂:=by
 induction r with
 |nil=>exact .nil
 |cons a _ g=>exact .cons (f _ _ a) g
theorem Aj.KC(x:Aj P w H h a o)(k:∀b u,(b=a∨H b=some (.own a))->h.get? b=some u->h'.get? b=some u)(B:∀b,H b=some (.own a)->H' b=some (.own a))(D:∀b xs,H b=some (.tup xs)->H' b=some (.tup xs)):Aj P w H' h' a o:=by
 induction o with
 |lst xs=>obtain⟨z,l,n,r,e⟩:=x;exact⟨z,l,n,r,k _ _ (.inl rfl) e⟩
 |tup xs=>obtain⟨z,l,r,g,e,c⟩:=x;exact⟨z,l,r,g,k _ _ (.inl rfl) e,c⟩
 |dK kvs=>obtain⟨z,y,E,r,g,i,j,e,c⟩:=x;exact⟨z,y,E,r,g,i,j,k _ _ (.inl rfl) e,c⟩
 |dT kvs=>
  obtain⟨z,y,xs,r,g,i,j,e,c⟩:=x;exact⟨z,y,xs,Paired.Zv r fun p q z=>⟨z.1,D _ _ z.2.1,z.2.2⟩,g,i,j,k _ _ (.inl rfl) e,c⟩
 |set S n=>obtain⟨g,i,j,t,e,c⟩:=x;exact⟨g,i,j,t,k _ _ (.inl rfl) e,c⟩
 |ins C I fs=>
  obtain⟨d,z,ne,e,m,⟨s,i,j,F,c⟩,r⟩:=x;exact⟨B _ d,z,ne,k _ _ (.inl rfl) e,m,⟨s,i,j,k _ _ (.inr d) F,c⟩,r⟩
 |own y=>obtain⟨g,e⟩:=x;exact⟨g,k _ _ (.inl rfl) e⟩
 |xd fs=>obtain⟨m,⟨s,i,j,e,c⟩,r⟩:=x;exact⟨m,⟨s,i,j,k _ _ (.inl rfl) e,c⟩,r⟩
 |Va lo J=>obtain⟨t,u,v,e⟩:=x;exact⟨t,u,v,k _ _ (.inl rfl) e⟩
 |BP g u G=>obtain⟨e,q⟩:=x;exact⟨k _ _ (.inl rfl) e,G q⟩
 |IC A=>
  have e:h.get? a=some {cls:=.none,data:=.fields A}:=x;show h'.get? a=some {cls:=.none,data:=.fields A};exact k a _ (.inl rfl) e
 |met f y=>
  have e:h.get? a=some (PySem.W.methodObj (.ref f) (.ref y)):=x;show h'.get? a=some (PySem.W.methodObj (.ref f) (.ref y));exact k a _ (.inl rfl) e
 |ext K=>obtain⟨p,⟨o,e⟩,st⟩:=x;exact⟨st _ _ p fun o q=>k _ _ (.inl rfl) q,⟨o,k _ _ (.inl rfl) e⟩,st⟩
theorem DV.lt(x:DV P w H h)(e:H a=some o):a<h.objs.size:=(x a o e).lt
theorem DV.fresh(x:DV P w H h)(e:h.objs.size<=a):H a=none:=by
 cases q:H a with
 |none=>rfl
 |some u=>exact absurd (Nat.lt_of_lt_of_le (x.lt q) e) (Nat.lt_irrefl _)
theorem DV.kept(x:DV P w H h)(k:∀b u,h.get? b=some u->h'.get? b=some u):DV P w H h':=fun a o e=>
 (x a o e).KC (fun b u _ q=>k b u q) (fun _ q=>q) fun _ _ q=>q
theorem DV.laid(x:DV P w H h)(k:∀b u,h.get? b=some u->h'.get? b=some u)(g:h.objs.size<=a)(new:Aj P w (upd H a o) h' a o):DV P w (upd H a o) h':=fun b u e=>by
 have d:=x.fresh g;by_cases f:b=a
 ·subst f;rw[AB]at e;cases e;exact new
 ·rw[AH f]at e;exact(x b u e).KC (fun c v _ q=>k c v q) (fun c q=>by rw[AH (AV q d)];exact q) fun c i q=>by rw[AH (AV q d)];exact q
end
def Rd(H:Hp)(a:Addr)(u:HO):Prop:=H a=some u∨∃o,H a=some (.BP o u)
variable{P:Program}{w:World}{h:Heap}
theorem Rd.ok{u:HO}(r:Rd H a u)(x:DV P w H h):Aj P w H h a u:=by
 rcases r with r|⟨o,r⟩
 ·exact x a u r
 ·obtain⟨_,q⟩:=x a _ r;exact q
def Zw:Option HO->Prop
 |some (.lst _)=>True
 |some (.dK _)=>True
 |some (.dT _)=>True
 |some (.set _ _)=>True
 |some (.ins _ _ _)=>True
 |some (.ext _)=>True
 |_=>False
section
variable{P:Program} {w:World} {H:Hp} {h h':Heap} {x e:Addr} {o':HO}
theorem DV.write(ok:DV P w H h)(g:Zw (H x))(n:e=x∨H e=some (.own x))(k:∀b u,b≠e->h.get? b=some u->h'.get? b=some u)(m:∃u,h'.get? e=some u)(new:Aj P w (upd H x o') h' x o'):DV P w (upd H x o') h':=fun b u q=>by
 have d:∀c y,H c=some (.own y)->c≠x:=fun c y r z=>by subst z;rw[r]at g;exact g
 have f:∀c i,H c=some (.tup i)->c≠x:=fun c i r z=>by subst z;rw[r]at g;exact g
 by_cases j:b=x
 ·subst j;rw[AB]at q;cases q;exact new
 ·rw[AH j]at q;by_cases a:b=e
  ·have o:H b=some (.own x):=by
    rcases n with z|z
    ·exact absurd (a.trans z) j
    ·rw[a];exact z
   rw[q]at o;cases o;obtain⟨v,p⟩:=m;exact⟨v,by rw[a];exact p⟩
  ·refine(ok b u q).KC (fun c v l r=>k c v ?_ r) (fun c r=>by rw[AH (d c b r)];exact r) fun c i r=>by rw[AH (f c i r)];exact r
   rcases l with rfl|l
   ·exact a
   ·rintro rfl;rcases n with z|z
    ·exact d c b l z
    ·rw[l]at z;cases z;exact j rfl
end
structure Un(fs ex:List Addr)(H H':Hp)(h h':Heap):Prop where
 keep:∀b o,h.get? b=some o->H b=none->b∉fs->b∉ex->h'.get? b=some o
 slot:∀b o,h.get? b=some o->H b=none->b∈fs->b∉ex->∃sl,h'.get? b=some {o with slots:=sl}
 free:∀b o,h.get? b=some o->H b=none->b∉ex->H' b=none
 there:∀b o,h.get? b=some o->b∉ex->∃o',h'.get? b=some o'
 FI:∀b xs,H b=some (.tup xs)->H' b=some (.tup xs)
 DW:∀b o u,H b=some (.BP o u)->H' b=some (.BP o u)
 FJ:∀b ps,H b=some (.IC ps)->∃more,H' b=some (.IC (ps++more))
section
variable{fs dP ex qZ:List Addr} {H H1 H2:Hp} {h h1 h2 h':Heap} {a x e:Addr} {o:HO}
theorem Un.any(u:Un fs ex H H1 h h1){c:Obj}(q:h.get? b=some c)(n:H b=none)(d:b∉ex):∃g,h1.get? b=some {c with slots:=g}:=by
 by_cases f:b∈fs
 ·exact u.slot b c q n f d
 ·exact⟨c.slots,u.keep b c q n f d⟩
theorem Un.kept(k:∀b u,h.get? b=some u->h'.get? b=some u):Un fs ex H H h h':=
 ⟨fun b c q _ _ _=>k b c q,fun b c q _ _ _=>⟨c.slots,k b c q⟩,fun _ _ _ n _=>n,fun b c q _=>⟨c,k b c q⟩,fun _ _ q=>q,fun _ _ _ q=>q,fun _ d q=>⟨#[],by rw[q];simp⟩⟩
theorem Un.refl:Un fs ex H H h h:=Un.kept fun _ _ q=>q
theorem Un.laid(k:∀b u,h.get? b=some u->h'.get? b=some u)(hp:h.objs.size<=a)(hn:H a=none):Un fs ex H (upd H a o) h h' where
 keep:=fun b u q _ _ _=>k b u q
 slot:=fun b u q _ _ _=>⟨u.slots,k b u q⟩
 free:=fun b u q n _=>by rw[AH (Nat.ne_of_lt (Nat.lt_of_lt_of_le (Heap.lt_size q) hp))];exact n
 there:=fun b u q _=>⟨u,k b u q⟩
 FI:=fun b xs q=>by rw[AH (AV q hn)];exact q
 DW:=fun b u xs q=>by rw[AH (AV q hn)];exact q
 FJ:=fun b ps q=>⟨#[],by rw[AH (AV q hn),q];simp⟩
theorem Un.write(d:Zw (H x))(l:e=x∨H e=some (.own x))(k:∀b u,b≠e->h.get? b=some u->h'.get? b=some u)(f:∃u,h'.get? e=some u):Un fs ex H (upd H x o) h h':=by
 have i:∀b,H b=none->b≠x:=fun b n z=>by subst z;rw[n]at d;exact d
 have j:∀b,H b=none->b≠e:=fun b n z=>by
  subst z;rcases l with r|r
  ·exact i b n r
  ·rw[n]at r;cases r
 have g:∀b u,H b=some u->¬Zw (some u)->b≠x:=fun b u q m z=>by subst z;rw[q]at d;exact m d
 refine⟨fun b u q n _ _=>k b u (j b n) q,fun b u q n _ _=>⟨u.slots,k b u (j b n) q⟩,fun b u q n _=>by rw[AH (i b n)];exact n,fun b u q _=>?_,
  fun b p q=>by rw[AH (g b _ q fun z=>z)];exact q,fun b u p q=>by rw[AH (g b _ q fun z=>z)];exact q,fun b s q=>⟨#[],by rw[AH (g b _ q fun z=>z),q];simp⟩⟩
 by_cases c:b=e
 ·subst c;exact f
 ·exact⟨u,k b u c q⟩
end
def cK(h:Heap)(H:Hp):List Addr:=(List.range h.objs.size).filter fun a=>(H a).isSome
def KD(h:Heap)(H:Hp):Heap:=PySem.W.hideAll h (cK h H)
theorem RH(h:Heap)(H:Hp):(KD h H).objs.size=h.objs.size:=PySem.W.hideAll_size _ _
variable{o:Obj}
theorem Si(e:h.get? b=some o)(n:H b=none):(KD h H).get? b=some o:=
 PySem.W.hideAll_get _ e fun a=>by
  have q:(H b).isSome=true:=(List.mem_filter.mp a).2;rw[n]at q;simp at q
theorem Vi(e:(KD h H).get? b=some o):h.get? b=some o/\H b=none:=by
 have a:h.get? b=some o:=PySem.W.of_hideAll (cK h H) e;refine⟨a,?_⟩;cases q:H b with
 |none=>rfl
 |some x=>
  have c:b∈cK h H:=List.mem_filter.mpr ⟨List.mem_range.mpr (Heap.lt_size a),by simp[q]⟩;have z:(KD h H).get? b=none:=PySem.W.hideAll_none (cK h H) c;rw[z]at e;cases e
def Vj(g h:Heap)(L:Addr):List (Addr×Obj):=(List.range h.objs.size).filterMap fun a=>if a=L∨(g.get? a).isSome=true then none else(h.get? a).map fun o=>(a,o)
def rest(g h:Heap)(L d:Addr):List (Addr×Obj):=(Vj g h L).filter fun p=>decide (p.1≠d)
structure Mod(K:rg)(mg:Str->Option Value)(base:Heap):Prop where
 YC:K.In base
 glob:base.Ns mainGlobals mg
 blt:∃mb,base.Ns builtinsNs mb/\∀x:Str,x≠"__name__"->mb x=bootBuiltins x
 nolimit:base.NoLimit
structure Cx where
 prog:Program
 w:World
 K:rg
 mg:Str->Option Value
 base:Heap
 A:Around
 N:List Str
 s₀:Shared
 H₀:Hp
 env:Env
 outer:List Env
 stack:List Env
 ex:List Addr
 fn:Str->Bool
 calm:Bool
 pn:List (Addr×Obj)
 xe:Value->Shared->Prop
def QE(l:List Env):List Addr:=l.filterMap (·.frame)
abbrev Cx.fs(X:Cx):List Addr:=QE X.outer
def cN(a:Scope)(x:Str):Prop:=a.names.lookup x=some .local∨a.names.lookup x=some .cell∨a.names.lookup x=some .free
def Loc(a:Scope)(x:Str):Prop:=a.names.lookup x=some .local∨a.names.lookup x=some .cell
def Look(env:Env)(h:Heap)(m:Str->Option Value)(x:Str)(u:Value):Prop:= (env.kindOf x=some .local/\m x=some u)∨((env.kindOf x=some .cell∨env.kindOf x=some .free)/\∃c,env.cells.lookup x=some c/\h.IsCell c (some u))
structure Cx.Ok(X:Cx):Prop where
 mod:Mod X.K X.mg X.base
 kind:X.env.scope.kind=.function
 glob:X.env.globals=mainGlobals
 blt:X.env.builtins=builtinsNs
 above:X.s₀.heap.objs.size<=X.env.locals
 inj:∀x y c,X.env.cells.lookup x=some c->X.env.cells.lookup y=some c->x=y
 has:∀x,(X.env.kindOf x=some .cell∨X.env.kindOf x=some .free)->∃c,X.env.cells.lookup x=some c
 YD:∀x c,X.fn x=true->X.env.cells.lookup x=some c->X.s₀.heap.objs.size<=c
 hd:X.calm=true->X.A.handled=none
 frames:X.A.frames=some X.stack
 cO:X.stack=X.outer∨(X.stack=X.env::X.outer/\X.env.frame=some X.env.locals)
 cP:∀b∈X.ex,b≠X.env.locals/\∀x c,X.env.cells.lookup x=some c->c≠b
 bs:∀b o,X.base.get? b=some o->X.s₀.heap.get? b=some o/\X.H₀ b=none
 Sb:X.base.objs.size<=X.s₀.heap.objs.size
 Sj:∀b o,X.base.get? b=some o->b∉X.ex
 Sk:∀b∈X.ex,b∉X.fs
 FK:X.s₀.heap.FunFrames X.base X.outer
 Vb:∀b∈X.fs,X.H₀ b=none
structure Inv(X:Cx)(pins:List (Addr×Obj))(σ:List (Option V))(H:Hp)(s:Shared):Prop where
 ok:X.Ok
 os:s.os=X.s₀.os
 bare:AllBare s.gens
 base:Un X.fs X.ex X.H₀ H X.s₀.heap s.heap
 loc:∃m,s.heap.Ns X.env.locals m/\∀(i:Nat)(x:Str)(v:V),X.N[i]?=some x->σ[i]?=some (some v)->cN X.env.scope x->∃u,RelV v u/\Look X.env s.heap m x u
 cell:∀x c,X.env.cells.lookup x=some c->∃v,s.heap.IsCell c v
 free:H X.env.locals=none
 C_:∀x c,X.env.cells.lookup x=some c->H c=none
 pin:∀p∈X.pn++pins,s.heap.get? p.1=some p.2/\H p.1=none/\p.1≠X.env.locals/\p.1∉X.fs/\∀v,p.2.data≠.cell v
 Ap:DV X.prog X.w H s.heap
 len:σ.length=X.N.length
variable{E:Value->Shared->Prop}{A:Around}{u:Value}{x:Str}{ch:List Addr}{g':Array GenState}{M:Model}{t':Nat}{v:V}{N:List Str}{d':Drawn}
section
variable{X:Cx} {pins:List (Addr×Obj)} {σ:List (Option V)} {H H':Hp} {s:Shared} {h':Heap}
theorem Cx.Ok.dQ(ok:X.Ok)(e:X.base.get? b=some o):b∉X.fs:=fun a=>by
 have:=(ok.FK.mem a).1;rw[e]at this;cases this
theorem Inv.bs(I:Inv X pins σ H s):∀b o,X.base.get? b=some o->s.heap.get? b=some o/\H b=none:=fun b o e=>
 ⟨I.base.keep b o (I.ok.bs b o e).1 (I.ok.bs b o e).2 (I.ok.dQ e) (I.ok.Sj b o e),I.base.free b o (I.ok.bs b o e).1 (I.ok.bs b o e).2 (I.ok.Sj b o e)⟩
theorem Inv.bk(I:Inv X pins σ H s):∀b o,X.base.get? b=some o->s.heap.get? b=some o:=fun b o e=>(I.bs b o e).1
theorem Inv.mod(I:Inv X pins σ H s):Mod X.K X.mg X.base:=I.ok.mod
theorem Inv.Dq(I:Inv X pins σ H s):X.K.In s.heap:=I.ok.mod.YC.keeps I.bk
theorem Inv.lt(I:Inv X pins σ H s):X.env.locals<s.heap.objs.size:=let⟨_,a,_⟩:=I.loc;a.lt
theorem Inv.sz(I:Inv X pins σ H s):X.s₀.heap.objs.size<=s.heap.objs.size:=Nat.le_trans I.ok.above (Nat.le_of_lt I.lt)
theorem Inv.dR(I:Inv X pins σ H s)(h:s.heap.objs.size<=a):a∉X.fs:=fun b=>by
 obtain⟨_,o,c,_⟩:=I.ok.FK.mem b;exact absurd (Nat.lt_of_lt_of_le (Heap.lt_size c) (Nat.le_trans I.sz h)) (Nat.lt_irrefl _)
theorem Inv.XH(I:Inv X pins σ H s):∀x c,X.env.cells.lookup x=some c->c≠X.env.locals:=fun x c e z=>by
 obtain⟨v,o,d,f⟩:=I.cell x c e;obtain⟨m,⟨g,h,i,a,b,_⟩,_⟩:=I.loc;rw[z,a]at d;cases d;rw[b]at f;cases f
theorem Inv.FK(I:Inv X pins σ H s):s.heap.FunFrames X.base X.outer:=by
 have all:∀(l:List Env),(∀b∈QE l,b∈X.fs)->X.s₀.heap.FunFrames X.base l->s.heap.FunFrames X.base l:=by
  intro l
  induction l with
  |nil=>intro _ _;trivial
  |cons env r g=>
   intro f h;obtain⟨i,⟨L,o,a,j,k,m⟩,n⟩:=h;have c:L∈X.fs:=f L (by unfold QE;rw[List.filterMap_cons,a];exact List.mem_cons_self);obtain⟨p,e⟩:=I.base.slot L o k (I.ok.Vb L c) c fun z=>I.ok.Sk L z c;exact⟨i,⟨L,_,a,j,e,m⟩,g (fun b d=>f b (by unfold QE;rw[List.filterMap_cons,a];exact List.mem_cons_of_mem _ d)) n⟩
 exact all X.outer (fun _ d=>d) I.ok.FK
theorem Inv.stack(I:Inv X pins σ H s):s.heap.FunFrames X.base X.stack:=by
 rcases I.ok.cO with e|⟨e,a⟩
 ·rw[e];exact I.FK
 ·rw[e];obtain⟨m,b,_⟩:=I.loc;refine .cons (by rw[I.ok.kind];decide) a b ?_ I.FK;exact Heap.get?_none_of_le (Nat.le_trans I.ok.Sb I.ok.above)
theorem Inv.LU(I:Inv X pins σ H s):∀b∈QE X.stack,b∈X.env.locals::X.fs:=fun b a=>by
 rcases I.ok.cO with e|⟨e,c⟩
 ·rw[e]at a;exact List.mem_cons_of_mem _ a
 ·rw[e]at a;unfold QE at a;rw[List.filterMap_cons,c]at a;exact a
theorem Inv.QF(I:Inv X pins σ H s):∀b∈QE X.stack,H b=none:=fun b a=>by
 rcases List.mem_cons.mp (I.LU b a)with e|a
 ·rw[e];exact I.free
 ·obtain⟨_,o,c,_⟩:=I.ok.FK.mem a;exact I.base.free b o c (I.ok.Vb b a) fun z=>I.ok.Sk b z a
theorem Inv.step(I:Inv X pins σ H s)(f:∀b∈ch,(b∈X.ex∨X.s₀.heap.objs.size<=b)/\b≠X.env.locals/\(∀x c,X.env.cells.lookup x=some c->c≠b)/\∀p∈X.pn++pins,p.1≠b)(keep:∀b o,b≠X.env.locals->b∉X.fs->b∉ch->s.heap.get? b=some o->H b=none->h'.get? b=some o)(slot:∀b o,b≠X.env.locals->b∈X.fs->b∉ch->s.heap.get? b=some o->H b=none->∃F,h'.get? b=some {o with slots:=F})(free:∀b o,b∉ch->s.heap.get? b=some o->H b=none->H' b=none)(there:∀b o,b∉ch->s.heap.get? b=some o->∃B,h'.get? b=some B)(FI:∀b t,H b=some (.tup t)->H' b=some (.tup t))(DW:∀b o u,H b=some (.BP o u)->H' b=some (.BP o u))(FJ:∀b E,H b=some (.IC E)->∃more,H' b=some (.IC (E++more)))(N:∀m,s.heap.Ns X.env.locals m->h'.Ns X.env.locals m)(G:DV X.prog X.w H' h')(O:AllBare g'):
  Inv X pins σ H' {s with heap:=h',gens:=g',drawn:=d',toks:=t'}:=by
 have C:∀b o,X.s₀.heap.get? b=some o->b≠X.env.locals:=fun b o e=>Nat.ne_of_lt (Nat.lt_of_lt_of_le (Heap.lt_size e) I.ok.above);have h:∀b o,X.s₀.heap.get? b=some o->b∉X.ex->b∉ch:=fun b o e a y=>by
  rcases(f b y).1 with z|z
  ·exact a z
  ·exact absurd (Nat.lt_of_lt_of_le (Heap.lt_size e) z) (Nat.lt_irrefl _)
 have cellK:∀x c,X.env.cells.lookup x=some c->∀v,s.heap.IsCell c v->h'.IsCell c v:=fun x c e v ⟨o,A,J⟩=>by
  have g:c∉ch:=fun z=>(f c z).2.2.1 x c e rfl;by_cases L:c∈X.fs
  ·obtain⟨F,q⟩:=slot c o (I.XH x c e) L g A (I.C_ x c e);exact⟨_,q,J⟩
  ·exact⟨o,keep c o (I.XH x c e) L g A (I.C_ x c e),J⟩
 refine⟨I.ok,I.os,O,⟨fun b o e n y a=>?_,fun b o e n y a=>?_,fun b o e n a=>?_,fun b o e a=>?_,fun b t e=>FI b t (I.base.FI b t e),fun b o t e=>DW b o t (I.base.DW b o t e),fun b E e=>?_⟩,?_,fun x c e=>?_,?_,fun x c e=>?_,fun p M=>?_,G,I.len⟩
 ·exact keep b o (C b o e) y (h b o e a) (I.base.keep b o e n y a) (I.base.free b o e n a)
 ·obtain⟨F,j⟩:=I.base.slot b o e n y a;obtain⟨K,D⟩:=slot b _ (C b o e) y (h b o e a) j (I.base.free b o e n a);exact⟨K,D⟩
 ·obtain⟨B,j⟩:=I.base.there b o e a;exact free b B (h b o e a) j (I.base.free b o e n a)
 ·obtain⟨B,j⟩:=I.base.there b o e a;exact there b B (h b o e a) j
 ·obtain⟨P,j⟩:=I.base.FJ b E e;obtain⟨Q,D⟩:=FJ b _ j;exact⟨P++Q,by rw[D,Array.append_assoc]⟩
 ·obtain⟨m,R,S⟩:=I.loc;refine⟨m,N m R,fun i x v j D T=>?_⟩;obtain⟨u,r,l⟩:=S i x v j D T;refine⟨u,r,?_⟩;rcases l with l|⟨k,c,e,z⟩
  ·exact .inl l
  ·exact .inr ⟨k,c,e,cellK x c e _ z⟩
 ·obtain⟨v,z⟩:=I.cell x c e;exact⟨v,cellK x c e v z⟩
 ·obtain⟨m,⟨o,_,_,A,_⟩,_⟩:=I.loc;exact free _ o (fun z=>(f _ z).2.1 rfl) A I.free
 ·obtain⟨v,o,A,J⟩:=I.cell x c e;exact free c o (fun z=>(f c z).2.2.1 x c e rfl) A (I.C_ x c e)
 ·obtain⟨e,n,ne,nf,d⟩:=I.pin p M;have g:p.1∉ch:=fun z=>(f p.1 z).2.2.2 p M rfl;exact⟨keep p.1 p.2 ne nf g e n,free p.1 p.2 g e n,ne,nf,d⟩
theorem Inv.un(I:Inv X pins σ H s)(u:Un X.fs [] H H' s.heap h')(c:DV X.prog X.w H' h'):Inv X pins σ H' {s with heap:=h',toks:=t'}:=by
 obtain⟨m,⟨o,l,p,h,r⟩,_⟩:=id I.loc;obtain⟨q,i⟩:=u.any h I.free (by simp);exact I.step (g':=s.gens) (d':=s.drawn) (ch:=[]) (fun _ z=>nomatch z) (fun b o _ d _ e n=>u.keep b o e n d (by simp)) (fun b o _ d _ e n=>u.slot b o e n d (by simp)) (fun b o _ e n=>u.free b o e n (by simp)) (fun b o _ e=>u.there b o e (by simp)) u.FI u.DW u.FJ (fun t j=>by
  obtain⟨v,f,g,a,k⟩:=j;rw[h]at a;cases a;exact⟨_,f,g,i,k⟩) c I.bare
theorem Inv.call(I:Inv X pins σ H s)(u:Un (QE X.stack) ch H H' s.heap h')(g:DV X.prog X.w H' h')(l:AllBare g')(d:∀b∈ch,(b∈X.ex∨X.s₀.heap.objs.size<=b)/\b≠X.env.locals/\(∀x c,X.env.cells.lookup x=some c->c≠b)/\∀p∈X.pn++pins,p.1≠b):
  Inv X pins σ H' {s with heap:=h',gens:=g',drawn:=d',toks:=t'}:=by
 obtain⟨m,⟨o,y,A,k,r⟩,_⟩:=id I.loc;obtain⟨B,h⟩:=u.any k I.free fun z=>(d _ z).2.1 rfl;exact I.step (ch:=ch) d (fun b o h q a e n=>u.keep b o e n (fun z=>(List.mem_cons.mp (I.LU b z)).elim h q) a) (fun b o _ _ a e n=>u.any e n a) (fun b o a e n=>u.free b o e n a) (fun b o a e=>u.there b o e a) u.FI u.DW u.FJ (fun C t=>by
  obtain⟨D,i,j,f,v⟩:=t;rw[k]at f;cases f;exact⟨_,i,j,h,v⟩) g l
theorem Inv.turned(I:Inv X pins σ H s)(k:∀b o,b≠a->s.heap.get? b=some o->h'.get? b=some o)(h:H a=none)(g:a≠X.env.locals)(i:a∈X.ex∨X.s₀.heap.objs.size<=a)(j:∀x c,X.env.cells.lookup x=some c->c≠a)(l:∀p∈X.pn++pins,p.1≠a):Inv X pins σ H {s with heap:=h',toks:=t'}:=by
 have f:∀b u,H b=some u->b≠a:=fun b u e z=>by rw[z,h]at e;cases e
 refine I.step (g':=s.gens) (d':=s.drawn) (ch:=[a]) (fun b t=>?_) (fun b o _ _ d e _=>k b o (fun z=>d (by simp[z])) e) (fun b o _ _ d e _=>⟨o.slots,k b o (fun z=>d (by simp[z])) e⟩) (fun _ _ _ _ n=>n) (fun b o d e=>⟨o,k b o (fun z=>d (by simp[z])) e⟩) (fun _ _ e=>e) (fun _ _ _ e=>e) (fun b C e=>⟨#[],by rw[e];simp⟩) (fun m w=>?_) (fun b u e=>?_) I.bare
 ·have e:b=a:=by simpa using t
  subst e;exact⟨i,g,j,l⟩
 ·obtain⟨o,y,A,B,r⟩:=w;exact⟨o,y,A,k _ o (Ne.symm g) B,r⟩
 ·refine(I.Ap b u e).KC (fun c v d q=>k c v ?_ q) (fun _ q=>q) fun _ _ q=>q;rcases d with z|z
  ·rw[z];exact f b u e
  ·exact f c _ z
theorem Inv.tok(I:Inv X pins σ H s)(t:Nat):Inv X pins σ H {s with toks:=t}:=I.un (h':=s.heap) (t':=t) Un.refl I.Ap
theorem Inv.kept{t':Nat}(I:Inv X pins σ H s)(k:∀b u,s.heap.get? b=some u->h'.get? b=some u):Inv X pins σ H {s with heap:=h',toks:=t'}:=I.un (Un.kept k) (I.Ap.kept k)
theorem Inv.laid{a:Addr}{o:HO}{t':Nat}(I:Inv X pins σ H s)(k:∀b u,s.heap.get? b=some u->h'.get? b=some u)(c:s.heap.objs.size<=a)(new:Aj X.prog X.w (upd H a o) h' a o):
  Inv X pins σ (upd H a o) {s with heap:=h',toks:=t'}:=I.un (Un.laid k c (I.Ap.fresh c)) (I.Ap.laid k c new)
theorem Inv.write{x e:Addr}{o:HO}{t':Nat}(I:Inv X pins σ H s)(c:Zw (H x))(d:e=x∨H e=some (.own x))(k:∀b u,b≠e->s.heap.get? b=some u->h'.get? b=some u)(a:∃u,h'.get? e=some u)(new:Aj X.prog X.w (upd H x o) h' x o):Inv X pins σ (upd H x o) {s with heap:=h',toks:=t'}:=I.un (Un.write c d k a) (I.Ap.write c d k a new)
theorem Inv.QG{a:List (Addr×Obj)}(I:Inv X pins σ H s)(h:∀p∈a,s.heap.get? p.1=some p.2/\H p.1=none/\p.1≠X.env.locals/\p.1∉X.fs/\∀v,p.2.data≠.cell v):Inv X a σ H s:=
 ⟨I.ok,I.os,I.bare,I.base,I.loc,I.cell,I.free,I.C_,fun p b=>(List.mem_append.mp b).elim (fun z=>I.pin p (List.mem_append_left _ z)) (h p),I.Ap,I.len⟩
theorem Mw(c:N.Nodup){j:Nat}(a:N[i]?=some x)(b:N[j]?=some x):i=j:=by
 obtain⟨f,d⟩:=rX a;obtain⟨g,e⟩:=rX b;exact(List.getElem_inj c).mp (d.trans e.symm)
theorem Kb{Q:Unit->Shared->Prop}(I:Inv X pins σ H s)(hN:X.N.Nodup)(L:X.N[i]?=some x)(t:Loc X.env.scope x)(r:RelV v u)(h:∀Y,Inv X pins (σ.set i (some v)) H Y->(∃a,Heap.SameBut a s.heap Y.heap/\(a=X.env.locals∨X.env.cells.lookup x=some a))->Q () Y)(hf:X.fn x=true∨X.env.scope.names.lookup x=some .local:=by first|exact .inl rfl|exact .inr rfl|assumption):wpAny M A (storeName X.env x u) Q E s:=by
 obtain⟨m,Z,hl⟩:=id I.loc;have O:(X.env.scope.kind==.class||(X.env.scope.kind==.module&&X.env.locals !=X.env.globals))=false:=by rw[I.ok.kind];rfl
 have D:i<σ.length:=by rw[I.len];exact(rX L).1
 have XH:=I.XH;have tracked:∀{a:Addr}{h':Heap},(∃o,s.heap.get? a=some o/\H a=none)->Heap.SameBut a s.heap h'->DV X.prog X.w H h':=fun{a h'} ha f b ob e=>by
  obtain⟨_,_,B⟩:=ha;refine(I.Ap b ob e).KC (fun c U l q=>(f.2 c ?_).trans q) (fun _ q=>q) fun _ _ q=>q;rintro rfl;rcases l with rfl|l
  ·rw[B]at e;cases e
  ·rw[B]at l;cases l
 rcases t with F|F
 ·refine wpAny_storeName_local F Z (fun h' iy f=>?_) O;obtain⟨oL,_,_,kT,_⟩:=id Z;refine h _ ⟨I.ok,I.os,I.bare,⟨fun b o e n G t=>?_,fun b o e n G t=>?_,I.base.free,fun b o e t=>?_,I.base.FI,I.base.DW,I.base.FJ⟩,⟨_,iy,fun j y v' g C e3=>?_⟩,fun y c e=>?_,I.free,I.C_,fun p hp=>?_,tracked ⟨oL,kT,I.free⟩ f,by simpa using I.len⟩ ⟨_,f,.inl rfl⟩
  ·exact(f.2 b (Nat.ne_of_lt (Nat.lt_of_lt_of_le (Heap.lt_size e) I.ok.above))).trans (I.base.keep b o e n G t)
  ·obtain⟨sl,g⟩:=I.base.slot b o e n G t;exact⟨sl,(f.2 b (Nat.ne_of_lt (Nat.lt_of_lt_of_le (Heap.lt_size e) I.ok.above))).trans g⟩
  ·obtain⟨o',g⟩:=I.base.there b o e t;exact⟨o',(f.2 b (Nat.ne_of_lt (Nat.lt_of_lt_of_le (Heap.lt_size e) I.ok.above))).trans g⟩
  ·by_cases J:j=i
   ·subst J;rw[L]at g;cases g;rw[List.getElem?_set_self D]at C;cases C;exact⟨u,r,.inl ⟨F,by simp⟩⟩
   ·rw[List.getElem?_set_ne (Ne.symm J)]at C;obtain⟨u',r',q⟩:=hl j y v' g C e3;refine⟨u',r',?_⟩;rcases q with⟨k,e⟩|⟨k,c,e,z⟩
    ·refine .inl ⟨k,?_⟩;have:y≠x:=fun e=>J (Mw hN g (e▸L));simp[this,e]
    ·exact .inr ⟨k,c,e,z.sameBut f (XH y c e)⟩
  ·obtain⟨U,z⟩:=I.cell y c e;exact⟨U,z.sameBut f (XH y c e)⟩
  ·obtain⟨e,n,ne,nf,d⟩:=I.pin p hp;exact⟨(f.2 p.1 ne).trans e,n,ne,nf,d⟩
 ·have K:X.fn x=true:=by
   rcases hf with z|z
   ·exact z
   ·rw[z]at F;cases F
  obtain⟨c,l⟩:=I.ok.has x (.inl F);obtain⟨U,z⟩:=I.cell x c l;refine wpAny_storeName_cell I.ok.kind F l z (fun h' P f=>?_);obtain⟨oc,R,S⟩:=id z;refine h {s with heap:=h'} ⟨I.ok,I.os,I.bare,⟨fun b o e n G t=>?_,fun b o e n G t=>?_,I.base.free,fun b o e t=>?_,I.base.FI,I.base.DW,I.base.FJ⟩,⟨m,Z.sameBut f (Ne.symm (XH x c l)),fun j y v' g C e3=>?_⟩,fun y W e=>?_,I.free,I.C_,fun p hp=>?_,tracked ⟨oc,R,I.C_ x c l⟩ f,by simpa using I.len⟩ ⟨c,f,.inr l⟩
  ·exact(f.2 b (Nat.ne_of_lt (Nat.lt_of_lt_of_le (Heap.lt_size e) (I.ok.YD x c K l)))).trans (I.base.keep b o e n G t)
  ·obtain⟨sl,g⟩:=I.base.slot b o e n G t;exact⟨sl,(f.2 b (Nat.ne_of_lt (Nat.lt_of_lt_of_le (Heap.lt_size e) (I.ok.YD x c K l)))).trans g⟩
  ·obtain⟨o',g⟩:=I.base.there b o e t;exact⟨o',(f.2 b (Nat.ne_of_lt (Nat.lt_of_lt_of_le (Heap.lt_size e) (I.ok.YD x c K l)))).trans g⟩
  ·by_cases J:j=i
   ·subst J;rw[L]at g;cases g;rw[List.getElem?_set_self D]at C;cases C;exact⟨u,r,.inr ⟨.inl F,c,l,P⟩⟩
   ·rw[List.getElem?_set_ne (Ne.symm J)]at C;obtain⟨u',r',q⟩:=hl j y v' g C e3;refine⟨u',r',?_⟩;rcases q with q|⟨k,W,e,z'⟩
    ·exact .inl q
    ·refine .inr ⟨k,W,e,z'.sameBut f ?_⟩;rintro rfl;exact J (Mw hN g (I.ok.inj _ _ _ e l▸L))
  ·by_cases T:W=c
   ·subst T;exact⟨_,P⟩
   ·obtain⟨w2,z2⟩:=I.cell y W e;exact⟨w2,z2.sameBut f T⟩
  ·obtain⟨e,n,ne,nf,d⟩:=I.pin p hp;refine⟨(f.2 p.1 ?_).trans e,n,ne,nf,d⟩;intro q;rw[q,R]at e;have q':oc=p.2:=rY e;exact d U (by rw[<-q'];exact S)
theorem Mx{Q:Unit->Shared->Prop}(I:Inv X pins σ H s)(b:X.N.Nodup)(c:X.N[i]?=some x)(d:Loc X.env.scope x)(r:RelV v u)(h:∀a,Inv X pins (σ.set i (some v)) H a->Q () a)(e:X.fn x=true∨X.env.scope.names.lookup x=some .local:=by first|exact .inl rfl|exact .inr rfl|assumption):wpAny M A (storeName X.env x u) Q E s:=
 Kb I b c d r (fun a f _=>h a f) e
theorem Inv.Zx{a:Shared}(I:Inv X pins σ H s)(g:a.os=s.os)(u:Un (QE X.stack) ch H H' s.heap a.heap)(d:DV X.prog X.w H' a.heap)(h:AllBare a.gens)(f:∀b∈ch,(b∈X.ex∨X.s₀.heap.objs.size<=b)/\b≠X.env.locals/\(∀x c,X.env.cells.lookup x=some c->c≠b)/\∀p∈X.pn++pins,p.1≠b):Inv X pins σ H' a:=by
 obtain⟨h',g',d',t',i⟩:=a;have e:i=s.os:=g;subst e;exact I.call (g':=g') (t':=t') (d':=d') u d h f
end
abbrev XK:=Value->Option Addr->Hp->Prop
abbrev St:=List (Option V)
abbrev VK:=V->Hp->Prop
abbrev TE:=St->Hp->VK->Prop
abbrev TT:=St->Hp->(Bool->Hp->Prop)->Prop
abbrev TA:=St->Hp->(List V->Hp->Prop)->Prop
structure Ends where
 nx:St->Hp->Prop
 rt:VK
 bk:St->Hp->Prop:=fun _ _=>False
 ct:St->Hp->Prop:=fun _ _=>False
abbrev TS:=Ends->St->Hp->Prop
inductive iz(x:V)(H:Hp)(Q:Bool->Hp->Prop):Prop
 |mk(c:Bool)(e:x=.bl c)(q:Q c H)
inductive dS(a:TE)(b:St)(x:V)(H:Hp)(Q:VK):Prop
 |mk(c:Bool)(e:x=.bl c)(q:if c=true then a b H Q else Q (.bl false) H)
inductive dU(x:V)(H:Hp)(Q:VK):Prop
 |mk(c:Bool)(e:x=.bl c)(q:Q (.bl (!c)) H)
inductive kU(x:V)(H:Hp)(Q:Option Int->Hp->Prop):Prop
 |mk(i:Int)(e:x=.int i)(q:Q (some i) H)
inductive EP(X:Cx)(pins:List (Addr×Obj))(b:St)(Q:VK)(u:Value)(c:Shared):Prop
 |mk(v:V)(a:Hp)(I:Inv X pins b a c)(r:RelV v u)(q:Q v a)
inductive TP(X:Cx)(pins:List (Addr×Obj))(c:St)(Q:Bool->Hp->Prop)(b:Bool)(d:Shared):Prop
 |mk(a:Hp)(I:Inv X pins c a d)(q:Q b a)
inductive AP(X:Cx)(pins:List (Addr×Obj))(b:St)(Q:List V->Hp->Prop)(us:List Value)(c:Shared):Prop
 |mk(vs:List V)(a:Hp)(I:Inv X pins b a c)(r:Vals vs us)(q:Q vs a)
variable{pins:List (Addr×Obj)}{X:Cx}{G:Prop}{c:Shared}
theorem EP.elim{b:St}{Q:VK}(h:EP X pins b Q u c)(k:∀(v:V) (a:Hp),Inv X pins b a c->RelV v u->Q v a->G):G:=by
 cases h with
 |mk v a I r q=>exact k v a I r q
theorem AP.elim{b:St}{Q:List V->Hp->Prop}(h:AP X pins b Q us c)(k:∀(vs:List V) (a:Hp),Inv X pins b a c->Vals vs us->Q vs a->G):G:=by
 cases h with
 |mk v a I r q=>exact k v a I r q
theorem TP.elim{c:St}{Q:Bool->Hp->Prop}{b:Bool}{d:Shared}(h:TP X pins c Q b d)(k:∀a:Hp,Inv X pins c a d->Q b a->G):G:=by
 cases h with
 |mk a I q=>exact k a I q
inductive dV(X:Cx)(pins:List (Addr×Obj))(N:St->Hp->Prop)(c:Shared):Prop
 |mk(a:St)(b:Hp)(I:Inv X pins a b c)(q:N a b)
inductive kW(X:Cx)(pins:List (Addr×Obj))(Q:VK)(u:Value)(b:Shared):Prop
 |mk(v:V)(c:St)(a:Hp)(I:Inv X pins c a b)(r:RelV v u)(q:Q v a)
def SP(X:Cx)(pins:List (Addr×Obj))(D:Ends)(f:Flow)(a:Shared):Prop:=
 match f with
 | .next=>dV X pins D.nx a
 | .brk=>dV X pins D.bk a
 | .cont=>dV X pins D.ct a
 | .ret u=>kW X pins D.rt u a
def PE(X:Cx)(e:Expr)(t:TE):Prop:=
 ∀(pins:List (Addr×Obj))(s:Shared)(a:St)(H:Hp)(Q:VK),Inv X pins a H s->t a H Q->wpAny (model X.prog X.w) X.A (eval e X.env) (EP X pins a Q) X.xe s
def PT(X:Cx)(e:Expr)(t:TT):Prop:=
 ∀(pins:List (Addr×Obj))(s:Shared)(a:St)(H:Hp)(Q:Bool->Hp->Prop),Inv X pins a H s->t a H Q->wpAny (model X.prog X.w) X.A (isTrue e X.env (eval e X.env)) (TP X pins a Q) X.xe s
def PW(X:Cx)(e:Expr)(t:TT):Prop:=
 ∀(whole:Sem Value)(pins:List (Addr×Obj))(s:Shared)(a:St)(H:Hp)(Q:Bool->Hp->Prop),Inv X pins a H s->t a H Q->wpAny (model X.prog X.w) X.A (isTrue e X.env whole) (TP X pins a Q) X.xe s
variable{e:Expr}
theorem PW.pt{t:TT}(h:PW X e t):PT X e t:=h _
def PA(X:Cx)(b:List Expr)(t:TA):Prop:=
 ∀(pos:Pos)(pins:List (Addr×Obj))(s:Shared)(a:St)(H:Hp)(Q:List V->Hp->Prop),Inv X pins a H s->t a H Q->wpAny (model X.prog X.w) X.A (spliced (backTo pos (starEach b X.env))) (AP X pins a Q) X.xe s
def PS(X:Cx)(st:Stmt)(t:TS):Prop:=
 ∀(pins:List (Addr×Obj))(s:Shared)(a:St)(H:Hp)(D:Ends),Inv X pins a H s->t D a H->wpAny (model X.prog X.w) X.A (exec st X.env) (SP X pins D) X.xe s
def Om(X:Cx)(st:List Stmt)(t:TS):Prop:=
 ∀(pins:List (Addr×Obj))(s:Shared)(a:St)(H:Hp)(D:Ends),Inv X pins a H s->t D a H->wpAny (model X.prog X.w) X.A (execs st X.env) (SP X pins D) X.xe s
variable{s:Shared}
theorem BH{b:Type}{t:Sem b}{Q c:b->Shared->Prop}(h:wpAny M A t Q E s)(d:∀a s,Q a s->c a s):wpAny M A t c E s:=wpAny_mono h d fun _ _ x=>x
variable{Q:Value->Shared->Prop}{op:CmpOp}{t:TE}
section
variable{X:Cx}
inductive Zy(i:Nat)(a:St)(H:Hp)(Q:VK):Prop
 |mk(v:_)(b:a[i]?=some (some v))(c:Q v H)
def Ge(i:Nat):TE:=fun a H Q=>Zy i a H Q
def tC(v:V):TE:=fun _ H Q=>Q v H
theorem YE{pos:Pos}(j:X.N[i]?=some x)(k:cN X.env.scope x)(d:(x==("__debug__":Str))=false:=by decide)(f:(x==("__classdict__":Str))=false:=by decide):PE X (.Name x pos) (Ge i):=by
 intro pins s n H Q I h;obtain⟨v,e,h⟩:=h;obtain⟨m,o,p⟩:=I.loc;obtain⟨u,r,l⟩:=p i x v j e k;have fin:EP X pins n Q u s:=⟨v,H,I,r,h⟩;rcases l with⟨b,q⟩|⟨b,c,g,a⟩
 ·exact wpAny_Name (wpAny_loadName_local I.ok.kind b o q fin) d
 ·rcases b with b|b
  ·exact wpAny_Name (wpAny_loadName_cell I.ok.kind b g a fin) d
  ·exact wpAny_Name (wpAny_loadName_free I.ok.kind b g a fin f) d
theorem AE{i j pos}:PE X (.Constant (.int i) j pos) (tC (.int i)):=fun _ _ _ H _ I h=>wpAny_Constant_int ⟨.int i,H,I.tok _,⟨_,rfl⟩,h⟩
theorem C'{b j pos}:PE X (.Constant (.bool b) j pos) (tC (.bl b)):=fun _ _ _ H _ I h=>Constant_bool ⟨.bl b,H,I,rfl,h⟩
theorem YF{j pos}:PE X (.Constant .none j pos) (tC .Ai):=fun _ _ _ H _ I h=>Constant_none ⟨.Ai,H,I,rfl,h⟩
theorem Ae{x j pos}:PE X (.Constant (.str x) j pos) (tC (.str x)):=fun _ _ _ H _ I h=>Calls.Constant_str ⟨.str x,H,I.tok _,⟨_,rfl⟩,h⟩
def Gl(X:Cx)(x:Str):Prop:=X.env.kindOf x=some .globalImplicit
theorem ID{a:St}{pos:Pos}(I:Inv X pins a H s)(b:Gl X x)(c:X.mg x=some u)(h:Q u s)(d:(x==("__debug__":Str))=false:=by decide):wpAny (model X.prog X.w) X.A (eval (.Name x pos) X.env) Q E s:=
 Calls.Name_function_global I.ok.kind b (Calls.loadGlobal_global (by rw[I.ok.glob];exact I.mod.glob.keeps I.bk) c h) d
theorem EN{a:St}{pos:Pos}(I:Inv X pins a H s)(b:Gl X x)(c:X.mg x=none)(d:bootBuiltins x=some u)(h:Q u s)(e:x≠"__name__":=by decide)(f:(x==("__debug__":Str))=false:=by decide):wpAny (model X.prog X.w) X.A (eval (.Name x pos) X.env) Q E s:=by
 obtain⟨j,g,i⟩:=I.mod.blt;exact Calls.Name_function_global I.ok.kind b (Calls.loadGlobal_builtin (by rw[I.ok.glob];exact I.mod.glob.keeps I.bk) c (by rw[I.ok.blt];exact g.keeps I.bk) ((i x e).trans d) h) f
theorem Ef{pos:Pos}(a:Gl X x)(b:X.mg x=some u)(r:RelV v u)(c:(x==("__debug__":Str))=false:=by decide):PE X (.Name x pos) (tC v):=
 fun _ _ _ H _ I h=>ID I a b ⟨v,H,I,r,h⟩ c
theorem Ab{pos:Pos}(a:Gl X x)(b:X.mg x=none)(c:bootBuiltins x=some u)(r:RelV v u)(d:x≠"__name__":=by decide)(e:(x==("__debug__":Str))=false:=by decide):PE X (.Name x pos) (tC v):=
 fun _ _ _ H _ I h=>EN I a b c ⟨v,H,I,r,h⟩ d e
variable{a b:Expr} {ta tb:TE} {pos:Pos}
def PC(X:Cx)(op:CmpOp)(a b:Expr)(t:TE):Prop:=
 ∀(pins:List (Addr×Obj))(s:Shared)(e:St)(H:Hp)(Q:VK),Inv X pins e H s->t e H Q->
  wpAny (model X.prog X.w) X.A (eval a X.env) (fun v c=>wpAny (model X.prog X.w) X.A (eval b X.env) (fun u d=>wpAny (model X.prog X.w) X.A (compareOp op v u) (EP X pins e Q) X.xe d) X.xe c) X.xe s
def tB(t:TE):TT:=fun c H Q=>t c H fun x d=>iz x d Q
theorem Sl(h:PC X op a b t)(f:behindInMarks op b=false:=by first|exact e _ (by decide) (by decide)|rfl):PT X (.Compare a [op] [b] pos) (tB t):=by
 intro pins s g H Q I hw;refine wpAny_isTrue_Compare1 (BH (h pins s g H _ I hw) fun v o f=>BH f fun u p i=>BH i fun c r j=>j.elim fun x k l m n=>?_) f;obtain⟨d,rfl,q⟩:=n;cases m;exact wpAny_truthy_bool ⟨k,l,q⟩
theorem Ar(h:PE X e t)(c:∀whole,isTrue e X.env whole=(do let v<-whole;standAt e.pos;holding [v] (truthy v)):=by intro _;rfl):PT X e (tB t):=by
 intro pins s f H Q I hw;refine isTrue_plain (BH (h pins s f H _ I hw) fun v m g=>g.elim fun x i j k l=>?_) (c _);obtain⟨d,rfl,q⟩:=l;cases k;exact wpAny_truthy_bool ⟨i,j,q⟩
variable{tA cQ:TT} {rest:List Expr}
def dW(t u:TT):TT:=fun d H Q=>t d H fun c e=>if c=true then u d e Q else Q false e
def kX(t u:TT):TT:=fun d H Q=>t d H fun c e=>if c=true then Q true e else u d e Q
def dX(t:TT):TT:=fun d H Q=>t d H fun c e=>Q (!c) e
theorem pw_and1(d:PT X a tA):PW X (.BoolOp .And [a] pos) tA:=by
 intro g pins s f H Q I h;refine isTrue_and (BH (d pins s f H Q I h) fun c i e=>?_);cases c with
 |true=>exact isTrue_and_nil e
 |false=>exact e
theorem pw_or1(d:PT X a tA):PW X (.BoolOp .Or [a] pos) tA:=by
 intro g pins s f H Q I h;refine isTrue_or (BH (d pins s f H Q I h) fun c i e=>?_);cases c with
 |false=>exact isTrue_or_nil e
 |true=>exact e
theorem pw_and(i:PT X a tA)(j:PW X (.BoolOp .And (b::rest) pos) cQ):PW X (.BoolOp .And (a::b::rest) pos) (dW tA cQ):=by
 intro k pins s d H Q I h;refine isTrue_and (BH (i pins s d H _ I h) fun c l m=>m.elim fun e f g=>?_);cases c with
 |true=>exact j k pins l d e Q f g
 |false=>exact⟨e,f,g⟩
theorem pw_or(i:PT X a tA)(j:PW X (.BoolOp .Or (b::rest) pos) cQ):PW X (.BoolOp .Or (a::b::rest) pos) (kX tA cQ):=by
 intro k pins s d H Q I h;refine isTrue_or (BH (i pins s d H _ I h) fun c l m=>m.elim fun e f g=>?_);cases c with
 |true=>exact⟨e,f,g⟩
 |false=>exact j k pins l d e Q f g
theorem CS(e:PT X a tA):PT X (.UnaryOp .Not a pos) (dX tA):=by
 intro pins s f H Q I h;exact isTrue_not (BH (e pins s f H (fun c d=>Q (!c) d) I h) fun c k g=>g.elim fun d i j=>⟨d,i,j⟩)
def Zz(ta tb:TE):TE:=fun c H Q=>ta c H fun x d=>dS tb c x d Q
def Z_(ta:TE):TE:=fun c H Q=>ta c H fun x d=>dU x d Q
theorem LV{op}(h:PE X a t):PE X (.BoolOp op [a] pos) t:=fun pins s c H Q I hw=>BoolOp_one (h pins s c H Q I hw)
theorem Ie(i:PE X a ta)(j:PE X (.BoolOp .And (b::rest) pos) tb):PE X (.BoolOp .And (a::b::rest) pos) (Zz ta tb):=by
 intro pins s e H Q I h;refine BoolOp_and (BH (i pins s e H _ I h) fun v k l=>l.elim fun x f g m d=>?_);obtain⟨c,rfl,d⟩:=d;cases m;refine wpAny_truthy_bool ?_;cases c with
 |true=>exact j pins k e f Q g d
 |false=>exact⟨.bl false,f,g,rfl,d⟩
theorem Sn(e:PE X a ta):PE X (.UnaryOp .Not a pos) (Z_ ta):=by
 intro pins s f H Q I h;refine UnaryOp_ (BH (e pins s f H _ I h) fun v l g=>g.elim fun x i j k d=>?_);obtain⟨c,rfl,d⟩:=d;cases k;exact not_of (wpAny_truthy_bool ⟨.bl (!c),i,j,rfl,d⟩)
end
def Aq(K:rg)(H:Hp)(a:Addr)(xs:List V):Prop:=
 Rd H a (.lst xs)∨
  ∃(o:Obj)(b:Array Value)(n:Nat),K.lookup a=some o/\o.cls=.type "list"/\o.dict=none/\o.data=.seq b n/\b.size<=sizeLine/\Vals xs b.toList
def Bm(K:rg)(H:Hp)(a:Addr)(xs:List V):Prop:=
 Rd H a (.tup xs)∨
  ∃(o:Obj)(b:Array Value)(n:Nat),K.lookup a=some o/\o.cls=.type "tuple"/\o.data=.seq b n/\b.size<=sizeLine/\Vals xs b.toList
noncomputable def dY:Value->Option V
 | .none=>some .Ai
 | .bool b=>some (.bl b)
 | .int i _=>some (.int i)
 | .str x _=>some (.str x)
 | .bytes b _=>some (.QD b)
 | .float b _=>some (.YB b)
 | .ref a=>some (.ref a)
 | .type n=>some (.ty n)
 |_=>none
theorem RelV.abs{x:V}(r:RelV x u):dY u=some x:=by
 cases x with
 |Ai=>cases r;rfl
 |bl _=>cases r;rfl
 |int _=>obtain⟨t,rfl⟩:=r;rfl
 |str _=>obtain⟨t,rfl⟩:=r;rfl
 |QD _=>obtain⟨t,rfl⟩:=r;rfl
 |YB _=>obtain⟨t,rfl⟩:=r;rfl
 |ref _=>cases r;rfl
 |ty _=>cases r;rfl
theorem RelV.inj{x y:V}(r:RelV x u)(q:RelV y u):x=y:=rY (r.abs.symm.trans q.abs)
theorem Vals.inj{xs ys:List V}{us:List Value}(r:Vals xs us)(s:Vals ys us):xs=ys:=by
 induction r generalizing ys with
 |nil=>exact(List.eq_nil_of_length_eq_zero (Paired.length s)).symm
 |cons a _ b=>
  cases ys with
  |nil=>exact absurd (Paired.length s) (Nat.succ_ne_zero _).symm
  |cons y f=>
   obtain⟨u,g,e,h,t⟩:=Vals.inv s;injection e with c d;subst c d;rw[a.inj h,b t]
variable{K:rg}
section
variable{X:Cx} {pins:List (Addr×Obj)} {σ:St} {H:Hp} {s:Shared} {a:Addr} {xs ys:List V}
theorem Aq.of(h:H a=some (.lst xs)):Aq K H a xs:=.inl (.inl h)
theorem Bm.of(h:H a=some (.tup xs)):Bm K H a xs:=.inl (.inl h)
theorem Inv.list(I:Inv X pins σ H s)(h:Aq X.K H a xs):∃its:List Value,Vals xs its/\PlainL s.heap a its.toArray/\xs.length<=sizeLine:=by
 rcases h with h|⟨o,its,n,b,c,d,f,g,r⟩
 ·obtain⟨z,its,n,r,e⟩:=h.ok I.Ap;exact⟨its,r,⟨_,n,e,rfl,rfl,rfl⟩,z⟩
 ·refine⟨its.toList,r,⟨o,n,I.Dq a o b,c,d,by simpa using f⟩,?_⟩;have e:=r.length;simp only[Array.length_toList]at e;lia
theorem Inv.tuple(I:Inv X pins σ H s)(h:Bm X.K H a xs):∃its:List Value,Vals xs its/\IsTup s.heap a its.toArray/\xs.length<=sizeLine:=by
 rcases h with h|⟨o,its,n,b,c,d,f,r⟩
 ·obtain⟨z,its,r,p⟩:=h.ok I.Ap;exact⟨its,r,p,z⟩
 ·refine⟨its.toList,r,⟨o,I.Dq a o b,c,n,by simpa using d⟩,?_⟩;have e:=r.length;simp only[Array.length_toList]at e;lia
theorem Inv.So(I:Inv X pins σ H s)(h:Aq X.K H a xs)(h':Aq X.K H a ys):xs=ys:=by
 obtain⟨c,r,⟨o,n,e,_,_,d⟩,_⟩:=I.list h;obtain⟨b,i,⟨k,l,f,_,_,g⟩,_⟩:=I.list h';rw[e]at f;cases f;rw[d]at g;injection g with j _;have:c=b:=by simpa using congrArg Array.toList j
 subst this;exact r.inj i
theorem Inv.RI(I:Inv X pins σ H s)(h:Bm X.K H a xs)(h':Bm X.K H a ys):xs=ys:=by
 obtain⟨c,r,⟨o,e,_,n,d⟩,_⟩:=I.tuple h;obtain⟨b,i,⟨k,f,_,l,g⟩,_⟩:=I.tuple h';rw[e]at f;cases f;rw[d]at g;injection g with j _;have:c=b:=by simpa using congrArg Array.toList j
 subst this;exact r.inj i
end
abbrev Cx.KG(X:Cx)(E:Value->Shared->Prop):Cx:={X with xe:=E}
abbrev Cx.XI(X:Cx):Cx:=X.KG fun _ _=>False
theorem Cx.Ok.KG(ok:X.Ok)(E:Value->Shared->Prop):(X.KG E).Ok:=
 ⟨ok.mod,ok.kind,ok.glob,ok.blt,ok.above,ok.inj,ok.has,ok.YD,ok.hd,ok.frames,ok.cO,ok.cP,ok.bs,ok.Sb,ok.Sj,ok.Sk,ok.FK,ok.Vb⟩
theorem Cx.Ok.EO(ok:(X.KG E).Ok):X.Ok:=
 ⟨ok.mod,ok.kind,ok.glob,ok.blt,ok.above,ok.inj,ok.has,ok.YD,ok.hd,ok.frames,ok.cO,ok.cP,ok.bs,ok.Sb,ok.Sj,ok.Sk,ok.FK,ok.Vb⟩
section
variable{X:Cx} {pins:List (Addr×Obj)} {σ:St} {H:Hp} {s:Shared} {E:Value->Shared->Prop}
theorem Inv.KG(I:Inv X pins σ H s)(E:Value->Shared->Prop):Inv (X.KG E) pins σ H s:=⟨I.ok.KG E,I.os,I.bare,I.base,I.loc,I.cell,I.free,I.C_,I.pin,I.Ap,I.len⟩
theorem Inv.EO(I:Inv (X.KG E) pins σ H s):Inv X pins σ H s:=⟨I.ok.EO,I.os,I.bare,I.base,I.loc,I.cell,I.free,I.C_,I.pin,I.Ap,I.len⟩
theorem SP.EO{D:Ends}{f:Flow}{c:Shared}(h:SP (X.KG E) pins D f c):SP X pins D f c:=by
 cases f with
 |next=>obtain⟨a,b,I,q⟩:=h;exact⟨a,b,I.EO,q⟩
 |brk=>obtain⟨a,b,I,q⟩:=h;exact⟨a,b,I.EO,q⟩
 |cont=>obtain⟨a,b,I,q⟩:=h;exact⟨a,b,I.EO,q⟩
 |ret u=>obtain⟨v,a,b,I,r,q⟩:=h;exact⟨v,a,b,I.EO,r,q⟩
theorem Om.XI{st:List Stmt}{t:TS}(h:Om X.XI st t):Om X st t:=fun pins s σ H D I hw=>
 wpAny_mono (h pins s σ H D (I.KG _) hw) (fun _ _ q=>q.EO) fun _ _ z=>False.elim z
end
section
variable{X:Cx} {st:Stmt} {rest:List Stmt} {t u:TS} {e:Expr} {te:TE} {pos:Pos}
def Z':TS:=fun D a H=>D.nx a H
def KH(t u:TS):TS:=fun D a H=>t {D with nx:=u D} a H
theorem AN:Om X [] Z':=fun _ _ a H _ I h=>wpAny_execs_nil ⟨a,H,I,h⟩
theorem AD(b:PS X st t)(c:Om X rest u):Om X (st::rest) (KH t u):=by
 intro pins s d H D I h;refine wpAny_execs_cons (BH (b pins s d H {D with nx:=u D} I h) fun f g q=>?_);cases f with
 |next=>
  obtain⟨a,i,j,q⟩:=q;exact c pins g a i D j q
 |ret v=>exact q
 |brk=>exact q
 |cont=>exact q
theorem AF(a:PS X st t):Om X [st] t:=by
 intro pins s b H D I h;refine wpAny_execs_cons (BH (a pins s b H D I h) fun f c q=>?_);cases f with
 |next=>exact wpAny_execs_nil q
 |ret v=>exact q
 |brk=>exact q
 |cont=>exact q
theorem Inv.quiet{a:St}(I:Inv X pins a H s):interactive X.env=false:=by simp[interactive,I.ok.kind]
def XJ(te:TE):TS:=fun D a H=>te a H fun _ b=>D.nx a b
theorem Bh(b:PE X e te)(c:swapsWith e none pos.line X.env=pure false:=by rfl):PS X (.Expr e pos) (XJ te):=by
 intro pins s a H D I h;exact wpAny_Expr_any (BH (b pins s a H _ I h) fun v j d=>d.elim fun x f g k i=>⟨a,f,g,i⟩) I.quiet c
def Vk(te:TE):TS:=fun D a H=>te a H D.rt
theorem AL(b:PE X e te):PS X (.Return (some e) pos) (Vk te):=by
 intro pins s a H D I h;exact wpAny_Return_some (BH (b pins s a H _ I h) fun v j c=>c.elim fun x d f g i=>⟨x,a,d,f,g,i⟩)
def Sq(c:TT)(t u:TS):TS:=fun D a H=>c a H fun b d=>if b=true then t D a d else u D a d
theorem Aa{c:Expr}{a b:List Stmt}{g:TT}(m:PT X c g)(n:Om X a t)(o:Om X b u):PS X (.If c a b pos) (Sq g t u):=by
 intro pins s f H D I h;refine wpAny_If (BH (m pins s f H _ I h) fun d i p=>p.elim fun j k l=>?_);cases d with
 |true=>exact n pins i f j D k l
 |false=>exact o pins i f j D k l
end
abbrev TG:=V->St->Hp->(St->Hp->Prop)->Prop
def PG(X:Cx)(target:Expr)(t:TG):Prop:=
 ∀(pins:List (Addr×Obj))(s:Shared)(b:St)(H:Hp)(v:V)(u:Value)(Q:St->Hp->Prop),Inv X pins b H s->RelV v u->t v b H Q->
  wpAny (model X.prog X.w) X.A (assign target X.env u) (fun _ d=>∃a c,Inv X pins a c d/\Q a c) X.xe s
abbrev YG:=V->V->V->Hp->(Hp->Prop)->Prop
def aA(X:Cx)(t:YG):Prop:=
 ∀(pins:List (Addr×Obj))(s:Shared)(a:St)(H:Hp)(o i v:V)(ov b u:Value)(Q:Hp->Prop),Inv X pins a H s->RelV o ov->RelV i b->RelV v u->t o i v H Q->
  wpAny (model X.prog X.w) X.A (setItem ov b u) (fun _ d=>∃c,Inv X pins a c d/\Q c) X.xe s
section
variable{X:Cx} {pos:Pos}
def BR(i:Nat):TG:=fun v a H Q=>Q (a.set i (some v)) H
theorem LW(a:X.N.Nodup)(b:X.N[i]?=some x)(c:Loc X.env.scope x)(d:X.fn x=true∨X.env.scope.names.lookup x=some .local:=by first|exact .inl rfl|exact .inr rfl|assumption):PG X (.Name x pos) (BR i):=by
 intro pins s f H v u Q I r h;exact wpAny_assign_Name (Mx I a b c r (fun g e=>⟨_,H,e,h⟩) d)
def dZ(b c:TE)(t:YG):TG:=fun v a H Q=>b a H fun o d=>c a d fun i e=>t o i v e fun f=>Q a f
theorem Sr{o i:Expr}{d e:TE}{t:YG}(f:PE X o d)(g:PE X i e)(j:aA X t)(k:∀v,assign (.Subscript o i pos) X.env v=(do
   let ov<-holding [v] (eval o X.env)
   let a<-holding [v,ov] (eval i X.env)
   standAt pos
   holding [v,ov,a] (setItem ov a v)
   release [v,ov,a] []):=by intro _;rfl):PG X (.Subscript o i pos) (dZ d e t):=by
 intro pins s b H v u Q I r h;rw[k];refine wpAny_bind (wpAny_holding (BH (f pins s b H _ I h) fun ov l c=>c.elim fun x m n p q=>?_));refine wpAny_bind (wpAny_holding (BH (g pins l b m _ n q) fun a w c=>c.elim fun y z A B C=>?_));refine wpAny_bind (wpAny_standAt (wpAny_bind (wpAny_holding (BH (j pins w b z x y v ov a u _ A p B r C) fun _ G ⟨D,E,F⟩=>?_))));exact wpAny_release ⟨b,D,E,F⟩
def Vl(b:TE)(g:TG):TS:=fun D a H=>b a H fun x c=>g x a c D.nx
theorem Ss{a:Expr}{c:TE}{g:TG}(f:PE X e c)(i:PG X a g)(j:swapsWithSole [a] e pos.line X.env=pure false:=by rfl)(hw:swappedStores [a] e X.env=pure none:=by rfl)(k:(assignEach [a] X.env).map (·.2)=[assign a X.env]:=by rfl):PS X (.Assign [a] e pos) (Vl c g):=by
 intro pins s d H D I h;refine wpAny_Assign_stores (BH (f pins s d H _ I h) fun v l m=>m.elim fun x n o p q=>?_) j hw;rw[k];exact BH (i pins l d n x v _ o p q) fun _ w ⟨b,r,t,u⟩=>⟨b,r,t,u⟩
theorem ER{a:TE}{pos':Pos}(b:X.N.Nodup)(c:X.N[i]?=some x)(d:Loc X.env.scope x)(f:PE X e a)(g:swapsWith e (some (.Name x pos')) pos.line X.env=pure false:=by rfl)(j:X.fn x=true∨X.env.scope.names.lookup x=some .local:=by first|exact .inl rfl|exact .inr rfl|assumption):
  PS X (.Assign [.Name x pos'] e pos) (Vl a (BR i)):=by
 intro pins s k H D I h;refine wpAny_Assign_Name (BH (f pins s k H _ I h) fun v r l=>l.elim fun y m n o p=>?_) g;exact Mx n b c d o (fun t q=>⟨_,m,q,p⟩) j
end
variable{body:List Stmt}
section
variable{X:Cx} {pos:Pos}
inductive Vm(c:TT)(h:TS)(D:Ends)(a:St)(H:Hp):Prop
 |mk(W:Nat->St->Hp->Prop)(i:(∃m,W m a H))(j:∀m a H,W m a H->c a H fun b e=>if b=true then∃N:St->Hp->Prop,(∀d f,N d f->∃g,g<m/\W g d f)/\h {D with nx:=N,ct:=N,bk:=D.nx} a e else D.nx a e)
def Su(c:TT)(a:TS):TS:=fun D b H=>Vm c a D b H
theorem Ff{c:Expr}{q:TT}{r:TS}(t:PassesOwn (model X.prog X.w) X.A X.env X.xe)(C:PT X c q)(E:Om X body r):PS X (.While c body [] pos) (Su q r):=by
 intro pins s F H D I h;obtain⟨W,⟨G,J⟩,turn⟩:=h;refine wpAny_While (codeAny_whileLoop (fun n K=>∃e u,Inv X pins e u K/\W n e u) ?_ G ⟨F,H,I,J⟩);rintro n L ⟨d,x,M,O⟩;refine wpAny_passesOwn t (BH (C pins L d x _ M (turn n d x O)) fun b P Q=>Q.elim fun y z i=>?_);cases b with
 |true=>
  obtain⟨N,B,i⟩:=i;rw[if_pos rfl];refine wpAny_passesOwn t (BH (E pins P d y _ z i) fun f R j=>?_);cases f with
  |next=>
   obtain⟨a,g,k,l⟩:=j;obtain⟨m,o,p⟩:=B a g l;exact⟨m,o,a,g,k,p⟩
  |cont=>
   obtain⟨a,g,k,l⟩:=j;obtain⟨m,o,p⟩:=B a g l;exact⟨m,o,a,g,k,p⟩
  |brk=>exact j
  |ret v=>exact j
 |false=>
  rw[if_neg Bool.false_ne_true];exact wpAny_execs_nil ⟨d,y,z,i⟩
end
structure It where
 go:Nat->Hp->Prop
 Oq:Nat->Hp->V->Hp->Prop
 stop:Nat->Hp->Prop
def Fg(X:Cx)(pins:List (Addr×Obj))(H:Hp)(b:Addr):Prop:=
 H b=none/\b≠X.env.locals/\b∉X.fs/\(b∈X.ex∨X.s₀.heap.objs.size<=b)/\(∀x c,X.env.cells.lookup x=some c->c≠b)/\∀p∈X.pn++pins,p.1≠b
theorem Inv.Ot{f:St}{d:Hp}(I:Inv X pins f H s)(a:s.heap.objs.size<=b)(g:d b=none):Fg X pins d b:=by
 refine⟨g,Nat.ne_of_gt (Nat.lt_of_lt_of_le I.lt a),I.dR a,.inr (Nat.le_trans I.sz a),fun x c e z=>?_,fun p h z=>?_⟩
 ·obtain⟨v,q⟩:=I.cell x c e;exact absurd (Nat.lt_of_lt_of_le q.lt (by rw[z];exact a)) (Nat.lt_irrefl _)
 ·exact absurd (Nat.lt_of_lt_of_le (Heap.lt_size (I.pin p h).1) (by rw[z];exact a)) (Nat.lt_irrefl _)
structure Turn(P:Program)(w:World)(K:rg)(tg:Expr)(J:It)(fp:List Addr)(it:Addr)(tn:Nat->Heap->Prop):Prop where
 mem:it∈fp
 obj:∀i h,tn i h->∀b∈fp,∃o,h.get? b=some o/\∀v,o.data≠.cell v
 keep:∀i h h',tn i h->(∀b∈fp,∀o,h.get? b=some o->h'.get? b=some o)->tn i h'
 item:∀(X:Cx),X.prog=P->X.w=w->X.K=K->X.calm=true->∀(i:Nat)(pins:List (Addr×Obj))(s:Shared)(σ:St)(H:Hp)(E:Value->Shared->Prop),Inv X pins σ H s->(∀b∈fp,Fg X pins H b)->tn i s.heap->J.go i H->
  wpAny (model P w) X.A (pyNext (.ref it)) (fun r s1=>∃u,r=some u/\
   wpAny (model P w) X.A (letOwnedTupleGo tg (.ref it) u) (fun _ s2=>∃x H',Inv X pins σ H' s2/\RelV x u/\J.Oq i H x H'/\tn (i+1) s2.heap/\∀b∈fp,H' b=none) E s1) E s
 done:∀(X:Cx),X.prog=P->X.w=w->X.K=K->X.calm=true->∀(i:Nat)(pins:List (Addr×Obj))(s:Shared)(σ:St)(H:Hp)(E:Value->Shared->Prop),Inv X pins σ H s->(∀b∈fp,Fg X pins H b)->tn i s.heap->J.stop i H->
  wpAny (model P w) X.A (pyNext (.ref it)) (fun r s1=>r=none/\Inv X pins σ H s1) E s
 self:∀(A:Around)(i:Nat)(s:Shared)(Q:Value->Shared->Prop)(E:Value->Shared->Prop),tn i s.heap->Q (.ref it) s->wpAny (model P w) A (pyIter (.ref it)) Q E s
abbrev TI:=St->Hp->(It->Hp->Prop)->Prop
inductive de(X:Cx)(pins:List (Addr×Obj))(j:St)(k:Expr)(R:It->Hp->Prop)(a:Value)(d:Shared):Prop
 |mk(g:Addr)(h:List Addr)(i:Nat->Heap->Prop)(J:It)(c:Hp)(e:a=.ref g)(I:Inv X pins j c d)(t:Turn X.prog X.w X.K k J h g i)(z:i 0 d.heap)(f:∀b∈h,Fg X pins c b)(q:R J c)
def PI(X:Cx)(b iter:Expr)(c:TI):Prop:=
 ∀(pins:List (Addr×Obj))(s:Shared)(a:St)(H:Hp)(R:It->Hp->Prop),Inv X pins a H s->c a H R->
  wpAny (model X.prog X.w) X.A (eval iter X.env) (fun v d=>wpAny (model X.prog X.w) X.A (pyIter v) (de X pins a b R) X.xe d) X.xe s
theorem Kc{b:Expr}{c:Addr}{n:String}{vs:Array Value}{Q:Unit->Shared->Prop}(d:s.heap.get? c=some o)(e:o.cls=.type n)(f:o.data=.fields vs)(g:["enumerate","zip","dict_itemiterator","dict_reverseitemiterator","odict_iterator","itertools.zip_longest","itertools.pairwise"].contains n=false)(a:Q () s):wpAny M A (letOwnedTupleGo b (.ref c) u) Q E s:=by
 unfold letOwnedTupleGo;cases b<;>first
  |exact wpAny_pure a
  |(cases u<;>first
    |exact wpAny_pure a
    |(refine wpAny_bind (wpAny_load d ?_)
      rw[e,f];show wpAny M A (if(["enumerate","zip","dict_itemiterator","dict_reverseitemiterator","odict_iterator","itertools.zip_longest","itertools.pairwise"].contains n&&vs[0]?==some (rawInt _))=true then _ else _) Q E s;rw[if_neg (by intro h;rw[g,Bool.false_and]at h;cases h)];exact wpAny_pure a))
def YH(K:rg)(a:Addr):It:=
 ⟨fun i H=>∃b x,Aq K H a b/\b[i]?=some x,fun i H x c=>c=H/\∀b,Aq K H a b->b[i]?=some x,fun i H=>∃b,Aq K H a b/\b.length<=i⟩
def aB(K:rg)(a:Addr):It:=
 ⟨fun i H=>∃b x,Bm K H a b/\b[i]?=some x,fun i H x c=>c=H/\∀b,Bm K H a b->b[i]?=some x,fun i H=>∃b,Bm K H a b/\b.length<=i⟩
def Zi(lo:Int)(n:Nat):It:=⟨fun i _=>i<n,fun i H x a=>a=H/\x=.int (lo+i),fun i _=>n<=i⟩
variable{tg:Expr}
theorem RJ(a it:Addr):Turn P w K tg (YH K a) [it] it (fun i h=>h.IsListIter it a i)where
 mem:=by simp
 obj:=fun i h st b hb=>by
  have e:b=it:=by simpa using hb
  subst e;obtain⟨o,e,c,d⟩:=st;exact⟨o,e,fun v z=>by rw[d]at z;cases z⟩
 keep:=fun i h h' st k=>st.at fun o e=>k it (by simp) o e
 item:=by
  intro X hP hw hK hc i pins s σ H E I hf st hg;subst hP hw hK;obtain⟨xs,x,hq,hx⟩:=hg;obtain⟨its,rv,p,hz⟩:=I.list hq;obtain⟨u,hu,ru⟩:=rv.get hx;obtain⟨f0,f1,f2,f3,f4,f5⟩:=hf it (by simp);refine wpAny_pyNext_list_item st p.isList (x:=u) (by simpa using hu) fun h' My sb=>?_;have I1:Inv X pins σ H {s with heap:=h'}:=I.turned (t':=s.toks) (fun b o hb e=>(sb.2 b hb).trans e) f0 f1 f3 f4 f5;obtain⟨o,e,c,d⟩:=id My;exact⟨u,rfl,Kc (s:={s with heap:=h'}) e c d (by decide) ⟨x,H,I1,ru,⟨rfl,fun ys hy=>by rw[I.So hy hq];exact hx⟩,My,fun b hb=>(hf b hb).1⟩⟩
 done:=by
  intro X hP hw hK hc i pins s σ H E I hf st hg;subst hP hw hK;obtain⟨xs,hq,hx⟩:=hg;obtain⟨its,rv,p,hz⟩:=I.list hq;obtain⟨f0,f1,f2,f3,f4,f5⟩:=hf it (by simp);have hl:=rv.length;exact wpAny_pyNext_list_end (I.ok.hd hc) st p.isList (by simp;lia) fun h' eb=>⟨rfl,I.turned (t':=s.toks) (fun b o hb e=>eb b o hb e) f0 f1 f3 f4 f5⟩
 self:=fun _ _ _ _ _ st h=>wpAny_pyIter_listiter st h
theorem Ou(a it:Addr):Turn P w K tg (aB K a) [it] it (fun i h=>h.IsTupleIter it a i)where
 mem:=by simp
 obj:=fun i h st b hb=>by
  have e:b=it:=by simpa using hb
  subst e;obtain⟨o,e,c,d⟩:=st;exact⟨o,e,fun v z=>by rw[d]at z;cases z⟩
 keep:=fun i h h' st k=>st.at fun o e=>k it (by simp) o e
 item:=by
  intro X hP hw hK hc i pins s σ H E I hf st hg;subst hP hw hK;obtain⟨xs,x,hq,hx⟩:=hg;obtain⟨its,rv,p,hz⟩:=I.tuple hq;obtain⟨u,hu,ru⟩:=rv.get hx;obtain⟨f0,f1,f2,f3,f4,f5⟩:=hf it (by simp);refine wpAny_pyNext_tuple_item st (show s.heap.IsTuple a its.toArray from p) (x:=u) (by simpa using hu) fun h' My sb=>?_;have I1:Inv X pins σ H {s with heap:=h'}:=I.turned (t':=s.toks) (fun b o hb e=>(sb.2 b hb).trans e) f0 f1 f3 f4 f5;obtain⟨o,e,c,d⟩:=id My;exact⟨u,rfl,Kc (s:={s with heap:=h'}) e c d (by decide) ⟨x,H,I1,ru,⟨rfl,fun ys hy=>by rw[I.RI hy hq];exact hx⟩,My,fun b hb=>(hf b hb).1⟩⟩
 done:=by
  intro X hP hw hK hc i pins s σ H E I hf st hg;subst hP hw hK;obtain⟨xs,hq,hx⟩:=hg;obtain⟨its,rv,p,hz⟩:=I.tuple hq;obtain⟨f0,f1,f2,f3,f4,f5⟩:=hf it (by simp);have hl:=rv.length;exact wpAny_pyNext_tuple_end (I.ok.hd hc) st (show s.heap.IsTuple a its.toArray from p) (by simp;lia) fun h' eb=>⟨rfl,I.turned (t':=s.toks) (fun b o hb e=>eb b o hb e) f0 f1 f3 f4 f5⟩
 self:=fun _ _ _ _ _ st h=>wpAny_pyIter_tupleiter st h
theorem Ov(it:Addr)(lo:Int)(n:Nat):Turn P w K tg (Zi lo n) [it] it (fun i h=>IsRangeIter h it (lo+(i:Nat)*1) ((n:Int)-(i:Nat)) 1)where
 mem:=by simp
 obj:=fun i h st b hb=>by
  have e:b=it:=by simpa using hb
  subst e;exact⟨_,st,fun v z=>by
   have z':Data.fields _=Data.cell v:=z;cases z'⟩
 keep:=fun i h h' st k=>k it (by simp) _ st
 item:=by
  intro X hP hw hK hc i pins s σ H E I hf st hg;subst hP hw hK;obtain⟨f0,f1,f2,f3,f4,f5⟩:=hf it (by simp);have W:=Walks.range (prog:=X.prog) (w:=X.w) (I.ok.hd hc) it lo 1 n;refine W.item i s _ _ hg st fun v h' tk hv My kk=>?_;obtain⟨t,rfl⟩:=hv;have I1:Inv X pins σ H {s with heap:=h',toks:=tk}:=I.turned (fun b o hb e=>kk b o (by simpa using hb) e) f0 f1 f3 f4 f5;refine⟨_,rfl,Kc (s:={s with heap:=h',toks:=tk}) (n:="range_iterator") My rfl rfl (by decide) ⟨.int (lo+i),H,I1,⟨t,?_⟩,⟨rfl,rfl⟩,My,fun b hb=>(hf b hb).1⟩⟩;rw[Int.mul_one]
 done:=by
  intro X hP hw hK hc i pins s σ H E I hf st hg;subst hP hw hK;obtain⟨f0,f1,f2,f3,f4,f5⟩:=hf it (by simp);exact wpAny_pyNext_range_end (I.ok.hd hc) st (by have:n<=i:=hg;lia) fun h' eb=>⟨rfl,I.turned (t':=s.toks) (fun b o hb e=>eb b o hb e) f0 f1 f3 f4 f5⟩
 self:=fun _ _ _ _ _ st h=>wpAny_pyIter_rangeiter st h
section
variable{X:Cx} {tg:Expr}
def XM(K:rg)(c:TE):TI:=fun d H R=>c d H fun x b=>∃a,x=.ref a/\(∃e,Aq K b a e)/\R (YH K a) b
def df(K:rg)(c:TE):TI:=fun d H R=>c d H fun x b=>∃a,x=.ref a/\(∃e,Bm K b a e)/\R (aB K a) b
theorem B_{l:Expr}{f:TE}(hl:PE X l f):PI X tg l (XM X.K f):=by
 intro pins s g H R I h;refine BH (hl pins s g H _ I h) fun v c i=>i.elim fun x j d k m=>?_;obtain⟨a,e,⟨u,n⟩,q⟩:=m;subst e;cases k;obtain⟨r,w,p,y⟩:=d.list n;refine wpAny_pyIter_list p.isList ?_;refine⟨c.heap.objs.size,[c.heap.objs.size],_,_,j,rfl,d.kept (t':=c.toks) fun b o e=>Heap.get?_push_of_some _ e,RJ a _,⟨_,Heap.get?_push_size _ rfl,rfl,rfl⟩,fun b t=>?_,q⟩;have e:b=c.heap.objs.size:=by simpa using t
 subst e;exact d.Ot (Nat.le_refl _) (d.Ap.fresh (Nat.le_refl _))
theorem Sv{l:Expr}{g:TE}(hl:PE X l g):PI X tg l (df X.K g):=by
 intro pins s i H R I h;refine BH (hl pins s i H _ I h) fun v c j=>j.elim fun x k d m n=>?_;obtain⟨a,e,⟨u,r⟩,q⟩:=n;subst e;cases m;obtain⟨f,w,p,y⟩:=d.tuple r;refine wpAny_pyIter_tuple (show c.heap.IsTuple a f.toArray from p) ?_;refine⟨c.heap.objs.size,[c.heap.objs.size],_,_,k,rfl,d.kept (t':=c.toks) fun b o e=>Heap.get?_push_of_some _ e,Ou a _,⟨_,Heap.get?_push_size _ rfl,rfl,rfl⟩,fun b t=>?_,q⟩;have e:b=c.heap.objs.size:=by simpa using t
 subst e;exact d.Ot (Nat.le_refl _) (d.Ap.fresh (Nat.le_refl _))
theorem Sw{c:St}{R:It->Hp->Prop}{lo a:Int}{t u v:Tok}{tk:Nat}(I:Inv X pins c H s)(f: -(2 ^ 62)<=lo)(g:lo<2 ^ 62)(h: -(2 ^ 62)<=a)(h4:a<2 ^ 62)(q:R (Zi lo (a-lo).toNat) H):wpAny (model X.prog X.w) X.A (pyIter (.ref s.heap.objs.size)) (de X pins c tg R) E {s with heap:=s.heap.push {cls:=.type "range",data:=.fields #[.int lo t,.int a u,.int 1 v]},toks:=tk}:=by
 refine wpAny_pyIter_range (IsRange.new ..) (small_one f g h h4) ?_;have d:Inv X pins c H {s with heap:=s.heap.push {cls:=.type "range",data:=.fields #[.int lo t,.int a u,.int 1 v]},toks:=tk}:=I.kept fun b o e=>Heap.get?_push_of_some _ e;refine⟨(s.heap.push {cls:=.type "range",data:=.fields #[.int lo t,.int a u,.int 1 v]}).objs.size,[(s.heap.push {cls:=.type "range",data:=.fields #[.int lo t,.int a u,.int 1 v]}).objs.size],_,_,H,rfl,
  d.kept (t':=tk) fun b o e=>Heap.get?_push_of_some _ e,Ov _ lo (a-lo).toNat,?_,fun b i=>?_,q⟩
 ·have j:lo+((0:Nat):Int)*1=lo:=by simp
  have k:(((a-lo).toNat:Nat):Int)-((0:Nat):Int)=Builtin.Range.rangeSize lo a 1:=by rw[rangeSize_one];split<;>lia
  show IsRangeIter _ _ (lo+((0:Nat):Int)*1) ((((a-lo).toNat:Nat):Int)-((0:Nat):Int)) 1;rw[j,k];exact Heap.get?_push_size _ rfl
 ·have e:b=(s.heap.push {cls:=.type "range",data:=.fields #[.int lo t,.int a u,.int 1 v]}).objs.size:=by simpa using i
  subst e;exact d.Ot (Nat.le_refl _) (d.Ap.fresh (Nat.le_refl _))
def XN(a:TA):TI:=fun b H R=>a b H fun c d=>∃j:Int,c=[.int j]/\ -(2 ^ 62)<=j/\j<2 ^ 62/\R (Zi 0 j.toNat) d
theorem BL{a:Expr}{c:TA}{p pos:Pos}(d:Gl X "range")(f:X.mg "range"=none)(g:PA X [a] c)(i:starEach [a] X.env=[(false,eval a X.env)]:=by rfl):PI X tg (.Call (.Name "range" p) [a] [] pos) (XN c):=by
 intro pins s k H R I h;refine Call_ (EN I d f boot_range (PyProof.Rows.callWith_type1 (BH (g pos pins s k H _ I h) fun v w l=>l.elim fun x y m n b=>?_) i rfl));obtain⟨j,e,b,o,q⟩:=b;subst e;cases n with
 |cons r u=>
  cases u;obtain⟨t,rfl⟩:=r;exact call_range_1 (Sw m (by lia) (by lia) b o (by simpa using q))
def YI(f:TI)(g:TG)(h:TS):TS:=fun D a H=>f a H fun J j=>∃W:Nat->Nat->St->Hp->Prop,(∃m,W 0 m a j)/\∀i m a H,W i m a H-> (J.stop i H/\D.nx a H)∨(J.go i H/\∃N:St->Hp->Prop,(∀b c,N b c->∃e,e<m/\W (i+1) e b c)/\∀x c,J.Oq i H x c->g x a c fun d k=>h {D with nx:=N,ct:=N,bk:=D.nx} d k)
def Ig(a:List Addr)(h:Heap):List (Addr×Obj):=a.filterMap fun b=>(h.get? b).map fun o=>(b,o)
theorem Ds{a:List Addr}(c:b∈a)(e:h.get? b=some o):(b,o)∈Ig a h:=List.mem_filterMap.mpr ⟨b,c,by rw[e];rfl⟩
theorem RK{a:List Addr}{p:Addr×Obj}(c:p∈Ig a h):p.1∈a/\h.get? p.1=some p.2:=by
 obtain⟨b,d,e⟩:=List.mem_filterMap.mp c;cases q:h.get? b with
 |none=>rw[q]at e;cases e
 |some o=>
  rw[q]at e;have f:(b,o)=p:=rY e;subst f;exact⟨d,q⟩
theorem Inv.pinned{c:St}{a:List Addr}(I:Inv X pins c H s)(h:∀b∈a,Fg X pins H b)(i:∀b∈a,∃o,s.heap.get? b=some o/\∀v,o.data≠.cell v):Inv X (pins++Ig a s.heap) c H s:=
 I.QG fun p j=>(List.mem_append.mp j).elim (fun z=>I.pin p (List.mem_append_right _ z)) fun z=>by
  obtain⟨f,e⟩:=RK z;obtain⟨k,l,m,_⟩:=h p.1 f;obtain⟨o,g,d⟩:=i p.1 f;rw[e]at g;cases g;exact⟨e,k,l,m,d⟩
theorem Inv.ES{pl:List (Addr×Obj)}{a:St}(I:Inv X (pins++pl) a H s):Inv X pins a H s:=I.QG fun p b=>I.pin p (List.mem_append_right _ (List.mem_append_left _ b))
theorem YJ{iter:Expr}{S:TI}{g:TG}{U:TS}{pos:Pos}(B:PassesOwn (model X.prog X.w) X.A X.env X.xe)(V:X.calm=true)(hi:PI X tg iter S)(hg:PG X tg g)(c:Om X body U)(hs:∀x,foldedSetIterable iter X.env x=pure x:=by intro _;rfl):PS X (.For tg iter body [] pos) (YI S g U):=by
 intro pins s Y H D I h;refine wpAny_For (BH (hi pins s Y H _ I h) fun v s1 h1=>BH h1 fun qa s2 h2=>?_) hs;obtain⟨it,C,Z,J,H2,e,I2,T,L,f2,W,⟨m0,w0⟩,turn⟩:=h2;subst e;have j:∀{t:Hp},(∀b∈C,t b=none)->∀b∈C,Fg X pins t b:=fun hn b c=>⟨hn b c,(f2 b c).2⟩;refine codeAny_forLoop_any (fun n s'=>∃i k t,Inv X pins k t s'/\Z i s'.heap/\(∀b∈C,t b=none)/\W i n k t) ?_ m0 ⟨0,Y,H2,I2,L,fun b c=>(f2 b c).1,w0⟩;rintro n s3 ⟨i,l,K,I3,E,F,w3⟩;rcases turn i n l K w3 with⟨stop,qn⟩|⟨go,N,hN,step⟩
 ·refine wpAny_passesOwn B (BH (T.done X rfl rfl rfl V i pins s3 l K X.xe I3 (j F) E stop) fun r s4 ⟨M,I4⟩=>?_);subst M;exact wpAny_execs_nil ⟨l,K,I4,qn⟩
 ·refine wpAny_passesOwn B (BH (T.item X rfl rfl rfl V i pins s3 l K X.xe I3 (j F) E go) fun r s4 ⟨u,M,h4⟩=>?_);subst M;refine wpAny_passesOwn B (BH h4 fun _ s5 ⟨x,H5,I5,r5,y5,z,O⟩=>?_);have P:=I5.pinned (j O) (T.obj _ _ z);refine wpAny_passesOwn B (BH (hg _ s5 l H5 x u _ P r5 (step x H5 y5)) fun _ s6 ⟨Q,H6,I6,q6⟩=>?_);refine wpAny_passesOwn B (BH (c _ s6 Q H6 _ I6 q6) fun f R y=>?_);have again:∀{a:St}{p:Hp},Inv X (pins++Ig C s5.heap) a p R->N a p->∃m,m<n/\∃i k t,Inv X pins k t R/\Z i R.heap/\(∀b∈C,t b=none)/\W i m k t:=fun{a p} q G=>by
   obtain⟨m',hm,w7⟩:=hN a p G;refine⟨m',hm,i+1,a,p,q.ES,T.keep _ _ _ z fun b c o e=>(q.pin (b,o) (List.mem_append_right _ (List.mem_append_right _ (Ds c e)))).1,fun b c=>?_,w7⟩;obtain⟨o,e,d⟩:=T.obj _ _ z b c;exact(q.pin (b,o) (List.mem_append_right _ (List.mem_append_right _ (Ds c e)))).2.1
  cases f with
  |next=>obtain⟨a,p,q,G⟩:=y;exact again q G
  |cont=>obtain⟨a,p,q,G⟩:=y;exact again q G
  |brk=>obtain⟨a,p,q,y⟩:=y;exact⟨a,p,q.ES,y⟩
  |ret v=>obtain⟨x7,a,p,q,r7,y⟩:=y;exact⟨x7,a,p,q.ES,r7,y⟩
end
variable{D:Ends}
theorem Cj{g:TG}{j:TS}{b:St}(Pv:Nat->St->Hp->Prop)(l:Pv 0 b H)(hl:∀i b H,i<=xs.length->Pv i b H->Aq K H a xs)(n:∀i x b H,xs[i]?=some x->Pv i b H->g x b H fun c H2=>j {D with nx:=Pv (i+1),ct:=Pv (i+1),bk:=D.nx} c H2)(o:∀b H,Pv xs.length b H->D.nx b H):
  ∃W:Nat->Nat->St->Hp->Prop,(∃m,W 0 m b H)/\∀i m b H,W i m b H-> ((YH K a).stop i H/\D.nx b H)∨((YH K a).go i H/\∃N:St->Hp->Prop,(∀d f,N d f->∃k,k<m/\W (i+1) k d f)/\∀x f,(YH K a).Oq i H x f->g x b f fun c H2=>j {D with nx:=N,ct:=N,bk:=D.nx} c H2):=by
 refine⟨fun i m b H=>m=xs.length-i/\i<=xs.length/\Pv i b H,⟨xs.length,by simp,Nat.zero_le _,l⟩,?_⟩;rintro i m b H ⟨rfl,r,p⟩;have q:=hl i b H r p;by_cases h:i<xs.length
 ·refine .inr ⟨⟨xs,xs[i],q,by simp[h]⟩,Pv (i+1),fun d f s=>⟨xs.length-(i+1),by lia,rfl,h,s⟩,fun x f y=>?_⟩;obtain⟨e,y⟩:=y;subst e;exact n i x b _ (y xs q) p
 ·have e:i=xs.length:=by lia
  subst e;exact .inl ⟨⟨xs,q,Nat.le_refl _⟩,o b H p⟩
theorem Vn{g:TG}{j:TS}{b:St}(Pv:Nat->St->Hp->Prop)(l:Pv 0 b H)(hl:∀i b H,i<=xs.length->Pv i b H->Bm K H a xs)(n:∀i x b H,xs[i]?=some x->Pv i b H->g x b H fun c H2=>j {D with nx:=Pv (i+1),ct:=Pv (i+1),bk:=D.nx} c H2)(o:∀b H,Pv xs.length b H->D.nx b H):
  ∃W:Nat->Nat->St->Hp->Prop,(∃m,W 0 m b H)/\∀i m b H,W i m b H-> ((aB K a).stop i H/\D.nx b H)∨((aB K a).go i H/\∃N:St->Hp->Prop,(∀d f,N d f->∃k,k<m/\W (i+1) k d f)/\∀x f,(aB K a).Oq i H x f->g x b f fun c H2=>j {D with nx:=N,ct:=N,bk:=D.nx} c H2):=by
 refine⟨fun i m b H=>m=xs.length-i/\i<=xs.length/\Pv i b H,⟨xs.length,by simp,Nat.zero_le _,l⟩,?_⟩;rintro i m b H ⟨rfl,r,p⟩;have q:=hl i b H r p;by_cases h:i<xs.length
 ·refine .inr ⟨⟨xs,xs[i],q,by simp[h]⟩,Pv (i+1),fun d f s=>⟨xs.length-(i+1),by lia,rfl,h,s⟩,fun x f y=>?_⟩;obtain⟨e,y⟩:=y;subst e;exact n i x b _ (y xs q) p
 ·have e:i=xs.length:=by lia
  subst e;exact .inl ⟨⟨xs,q,Nat.le_refl _⟩,o b H p⟩
theorem CZ{lo:Int}{n:Nat}{g:TG}{h:TS}{a:St}(Pv:Nat->St->Hp->Prop)(k:Pv 0 a H)(l:∀i a H,i<n->Pv i a H->g (.int (lo+i)) a H fun b H2=>h {D with nx:=Pv (i+1),ct:=Pv (i+1),bk:=D.nx} b H2)(o:∀a H,Pv n a H->D.nx a H):
  ∃W:Nat->Nat->St->Hp->Prop,(∃m,W 0 m a H)/\∀i m a H,W i m a H-> ((Zi lo n).stop i H/\D.nx a H)∨((Zi lo n).go i H/\∃N:St->Hp->Prop,(∀c d,N c d->∃j,j<m/\W (i+1) j c d)/\∀x d,(Zi lo n).Oq i H x d->g x a d fun b H2=>h {D with nx:=N,ct:=N,bk:=D.nx} b H2):=by
 refine⟨fun i m a H=>m=n-i/\i<=n/\Pv i a H,⟨n,by simp,Nat.zero_le _,k⟩,?_⟩;rintro i m a H ⟨rfl,r,p⟩;by_cases f:i<n
 ·refine .inr ⟨f,Pv (i+1),fun c d q=>⟨n-(i+1),by lia,rfl,f,q⟩,fun x d y=>?_⟩;obtain⟨e,y⟩:=y;subst e y;exact l i a _ f p
 ·have e:i=n:=by lia
  subst e;exact .inl ⟨Nat.le_refl _,o a H p⟩
abbrev R2:=V->V->Hp->VK->Prop
def ET(X:Cx)(f:Value->Value->Sem Value)(r:R2):Prop:=
 ∀(pins:List (Addr×Obj))(s:Shared)(a:St)(H:Hp)(x y:V)(v u:Value)(Q:VK),Inv X pins a H s->RelV x v->RelV y u->r x y H Q->
  wpAny (model X.prog X.w) X.A (f v u) (EP X pins a Q) X.xe s
def dh(X:Cx)(f:Value->Sem Value)(r:V->Hp->VK->Prop):Prop:=
 ∀(pins:List (Addr×Obj))(s:Shared)(a:St)(H:Hp)(x:V)(v:Value)(Q:VK),Inv X pins a H s->RelV x v->r x H Q->
  wpAny (model X.prog X.w) X.A (f v) (EP X pins a Q) X.xe s
def BE(X:Cx)(f:Value)(r:List V->Hp->VK->Prop):Prop:=
 ∀(pins:List (Addr×Obj))(s:Shared)(a:St)(H:Hp)(b:List V)(c:List Value)(Q:VK),Inv X pins a H s->Vals b c->r b H Q->
  wpAny (model X.prog X.w) X.A (call f c) (EP X pins a Q) X.xe s
def di(X:Cx)(r:V->Hp->(Bool->Hp->Prop)->Prop):Prop:=
 ∀(pins:List (Addr×Obj))(s:Shared)(a:St)(H:Hp)(x:V)(v:Value)(Q:Bool->Hp->Prop),Inv X pins a H s->RelV x v->r x H Q->
  wpAny (model X.prog X.w) X.A (truthy v) (TP X pins a Q) X.xe s
def Sx(r:R2)(b c:TE):TE:=fun a H Q=>b a H fun x d=>c a d fun y e=>r x y e Q
def kY(r:V->Hp->VK->Prop)(a:TE):TE:=fun b H Q=>a b H fun x c=>r x c Q
inductive kZ(C:Int->Int->Prop)(g:Int->Int->V)(x y:V)(H:Hp)(Q:VK):Prop
 |mk(i j:_)(a:x=.int i)(b:y=.int j)(c:C i j)(d:Q (g i j) H)
def rI(C:Int->Int->Prop)(g:Int->Int->V):R2:=fun x y H Q=>kZ C g x y H Q
inductive dq(g:Int->Int->V)(x y:V)(H:Hp)(Q:VK):Prop
 |mk(i j:_)(a:x=.int i)(b:y=.int j)(c:Q (g i j) H)
def Vo(g:Int->Int->V):R2:=fun x y H Q=>dq g x y H Q
inductive ka(g:Int->V)(x:V)(H:Hp)(Q:VK):Prop
 |mk(i:_)(a:x=.int i)(b:Q (g i) H)
def rU(g:Int->V):V->Hp->VK->Prop:=fun x H Q=>ka g x H Q
variable{f:Value->Value->Sem Value}{g:Int->Int->Int}{d:St}
section
variable{X:Cx} {a b c:Expr} {ta tb tc:TE} {pos:Pos}
theorem YK(l:PE X a ta)(m:PE X b tb){R:V->V->Hp->Prop}(I:Inv X pins d H s)(h:ta d H fun x j=>tb d j fun y H2=>R x y H2)(n:∀v u i x y H2,Inv X pins d H2 i->RelV x v->RelV y u->R x y H2->wpAny (model X.prog X.w) X.A (f v u) Q X.xe i):
  wpAny (model X.prog X.w) X.A (eval a X.env) (fun v e=>wpAny (model X.prog X.w) X.A (eval b X.env) (fun u g=>wpAny (model X.prog X.w) X.A (f v u) Q X.xe g) X.xe e) X.xe s:=by
 refine BH (l pins s d H _ I h) fun v o k=>k.elim fun x j p q r=>?_;refine BH (m pins o d j _ p r) fun u i k=>k.elim fun y H2 t z B=>?_;exact n v u i x y H2 t q z B
theorem AM{op:Operator}{r:R2}(d:ET X (binaryOp op) r)(e:PE X a ta)(f:PE X b tb):PE X (.BinOp a op b pos) (Sx r ta tb):=by
 intro pins s g H Q I h;exact wpAny_BinOp (YK e f I h fun v u i x y j k l m q=>d pins i g j x y v u Q k l m q)
theorem XO{op:UnaryOp}{r:V->Hp->VK->Prop}(e:dh X (unaryOp op) r)(f:PE X a ta):PE X (.UnaryOp op a pos) (kY r ta):=by
 intro pins s d H Q I h;exact UnaryOp_ (BH (f pins s d H _ I h) fun v g i=>i.elim fun x j k l m=>e pins g d j x v Q k l m)
theorem cR{C:Int->Int->Prop}(rule:∀(i j:Int) (t u:Tok) (s:Shared) (Q:Value->Shared->Prop) (E:Value->Shared->Prop),C i j->Q (.int (g i j) s.toks) {s with toks:=s.toks+1}->wpAny (model X.prog X.w) X.A (f (.int i t) (.int j u)) Q E s):
  ET X f (rI C fun i j=>.int (g i j)):=by
 intro pins s m H x y v u Q I d e h;obtain⟨i,j,rfl,rfl,k,q⟩:=h;obtain⟨t,rfl⟩:=d;obtain⟨l,rfl⟩:=e;exact rule i j t l s _ _ k ⟨.int (g i j),H,I.tok _,⟨_,rfl⟩,q⟩
theorem aC  (rule:∀(i j:Int)(t u:Tok)(s:Shared)(Q:Value->Shared->Prop)(E:Value->Shared->Prop),Q (.int (g i j) s.toks) {s with toks:=s.toks+1}->wpAny (model X.prog X.w) X.A (f (.int i t) (.int j u)) Q E s):
  ET X f (Vo fun i j=>.int (g i j)):=by
 intro pins s l H x y v u Q I d e h;obtain⟨i,j,rfl,rfl,q⟩:=h;obtain⟨t,rfl⟩:=d;obtain⟨k,rfl⟩:=e;exact rule i j t k s _ _ ⟨.int (g i j),H,I.tok _,⟨_,rfl⟩,q⟩
theorem Vp{g:Int->Int->Bool}(rule:∀(i j:Int) (t u:Tok) (s:Shared) (Q:Value->Shared->Prop) (E:Value->Shared->Prop),Q (.bool (g i j)) s->wpAny (model X.prog X.w) X.A (f (.int i t) (.int j u)) Q E s):
  ET X f (Vo fun i j=>.bl (g i j)):=by
 intro pins s l H x y v u Q I d e h;obtain⟨i,j,rfl,rfl,q⟩:=h;obtain⟨t,rfl⟩:=d;obtain⟨k,rfl⟩:=e;exact rule i j t k s _ _ ⟨.bl (g i j),H,I,rfl,q⟩
def dw(i j:Int):Prop:=0<j/\j<1073741824
def dy(i j:Int):Prop:=0<=j/\j<=1000000/\i.natAbs<2 ^ 64
def YL(i j:Int):Prop:=(-(2 ^ 64)<i/\i<2 ^ 64)∨(-(2 ^ 64)<j/\j<2 ^ 64)
theorem YL.ok{i j:Int}(h:YL i j):IntMulOk i j:=by
 rcases h with⟨d,e⟩|⟨d,e⟩
 ·exact .of_left (intBits_le_64 d e)
 ·exact .of_right (intBits_le_64 d e)
theorem BU:ET X (binaryOp .Add) (Vo fun i j=>.int (i+j)):=aC fun _ _ _ _ _ _ _ q=>add_int q
theorem Gf:ET X (binaryOp .Sub) (Vo fun i j=>.int (i-j)):=aC fun _ _ _ _ _ _ _ q=>sub_int q
theorem FL:ET X (binaryOp .Mult) (rI YL fun i j=>.int (i*j)):=cR fun _ _ _ _ _ _ _ d q=>mul_int q d.ok
theorem Bq:ET X (binaryOp .FloorDiv) (rI dw fun i j=>.int (i/j)):=cR fun i j _ _ _ _ _ d q=>by
 have e:(0:Int)<j:=d.1;have f:j<1073741824:=d.2;exact floordiv_int (by lia) (by rw[Int.fdiv_eq_ediv_of_nonneg i (by lia)];exact q) (.inl (PyProof.noPylong_small (by lia)))
theorem As:ET X (binaryOp .Mod) (rI (fun _ j=>0<j) fun i j=>.int (i % j)):=cR fun i j _ _ _ _ _ d q=>by
 have e:(0:Int)<j:=d;exact mod_int' (by lia) (by rw[Int.fmod_eq_emod_of_nonneg i (by lia)];exact q)
theorem Ow:ET X (binaryOp .Pow) (rI dy fun i j=>.int (i ^ j.toNat)):=cR fun _ _ _ _ _ _ _ d q=>pow_int_small d.1 d.2.1 d.2.2 q
theorem kb{f:Value->Sem Value}{g:Int->Int}(rule:∀(i:Int) (t:Tok) (s:Shared) (Q:Value->Shared->Prop) (E:Value->Shared->Prop),Q (.int (g i) s.toks) {s with toks:=s.toks+1}->wpAny (model X.prog X.w) X.A (f (.int i t)) Q E s):
  dh X f (rU fun i=>.int (g i)):=by
 intro pins s e H x v Q I d h;obtain⟨i,rfl,q⟩:=h;obtain⟨t,rfl⟩:=d;exact rule i t s _ _ ⟨.int (g i),H,I.tok _,⟨_,rfl⟩,q⟩
theorem Sy:dh X (unaryOp .USub) (rU fun i=>.int (-i)):=kb fun _ _ _ _ _ q=>neg_int q
end
noncomputable def aD:V->V->Bool
 | .Ai,.Ai=>true| .Ai,.int _=>true| .int _,.Ai=>true| .Ai,.bl _=>true| .bl _,.Ai=>true| .Ai,.str _=>true| .str _,.Ai=>true
 | .int _,.int _=>true| .bl _,.bl _=>true| .str _,.str _=>true| .QD _,.QD _=>true
 | .int _,.str _=>true| .str _,.int _=>true| .bl _,.str _=>true| .str _,.bl _=>true
 |_,_=>false
def kc:R2:=fun x y H Q=>aD x y=true/\Q (.bl (decide (x=y))) H
def ke:R2:=fun x y H Q=>aD x y=true/\Q (.bl (!decide (x=y))) H
theorem QH{i j:Int}:decide (V.int i=V.int j)=(i==j):=by
 rw[Bool.eq_iff_iff];simp
theorem Sz{i j:Bool}:decide (V.bl i=V.bl j)=(i==j):=by
 rw[Bool.eq_iff_iff];simp
theorem QI{i j:Str}:decide (V.str i=V.str j)=(i==j):=by
 rw[Bool.eq_iff_iff];simp
theorem QJ{i j:Array UInt8}:decide (V.QD i=V.QD j)=(i.toList==j.toList):=by
 rw[Bool.eq_iff_iff];cases i;cases j;simp
section
variable{X:Cx} {a b c:Expr} {ta tb tc:TE} {pos:Pos}
theorem Au{Q:VK}{k f:Bool}(I:Inv X pins d H s)(q:Q (.bl k) H)(e:k=f):EP X pins d Q (.bool f) s:=by
 subst e;exact⟨.bl k,H,I,rfl,q⟩
theorem Bc:ET X (compareOp .Eq) kc:=by
 intro pins s k H x y v u Q I g d h;obtain⟨f,q⟩:=h;cases x with
 |Ai=>
  cases g;cases y with
  |Ai=>cases d;exact PySem.EqNone.eq_none_none (Au I q (by simp))
  |bl j=>cases d;exact PySem.EqNone.eq_none_bool (Au I q (by simp))
  |int j=>obtain⟨e,rfl⟩:=d;exact PySem.EqNone.eq_none_int (Au I q (by simp))
  |str j=>obtain⟨e,rfl⟩:=d;exact PySem.EqNone.eq_none_str (Au I q (by simp))
  |_=>exact absurd (show false=true from f) Bool.false_ne_true
 |bl i=>
  cases g;cases y with
  |Ai=>cases d;exact PySem.EqNone.eq_bool_none (Au I q (by simp))
  |bl j=>cases d;exact eq_bool (Au I q Sz)
  |str j=>obtain⟨e,rfl⟩:=d;exact PySem.EqMixed.eq_bool_str (Au I q (by simp))
  |_=>exact absurd (show false=true from f) Bool.false_ne_true
 |int i=>
  obtain⟨t,rfl⟩:=g;cases y with
  |Ai=>cases d;exact PySem.EqNone.eq_int_none (Au I q (by simp))
  |int j=>obtain⟨e,rfl⟩:=d;exact eq_int (Au I q QH)
  |str j=>obtain⟨e,rfl⟩:=d;exact PySem.EqMixed.eq_int_str (Au I q (by simp))
  |_=>exact absurd (show false=true from f) Bool.false_ne_true
 |str i=>
  obtain⟨t,rfl⟩:=g;cases y with
  |Ai=>cases d;exact PySem.EqNone.eq_str_none (Au I q (by simp))
  |bl j=>cases d;exact PySem.EqMixed.eq_str_bool (Au I q (by simp))
  |int j=>obtain⟨e,rfl⟩:=d;exact PySem.EqMixed.eq_str_int (Au I q (by simp))
  |str j=>obtain⟨e,rfl⟩:=d;exact eq_str (Au I q QI)
  |_=>exact absurd (show false=true from f) Bool.false_ne_true
 |QD i=>
  obtain⟨t,rfl⟩:=g;cases y with
  |QD j=>obtain⟨e,rfl⟩:=d;exact PySem.W.eq_bytes (Au I q QJ)
  |_=>exact absurd (show false=true from f) Bool.false_ne_true
 |_=>cases y<;>exact absurd (show false=true from f) Bool.false_ne_true
theorem aE:ET X (compareOp .NotEq) ke:=by
 intro pins s k H x y v u Q I g d h;obtain⟨f,q⟩:=h;cases x with
 |Ai=>
  cases g;cases y with
  |Ai=>cases d;exact PySem.EqNone.ne_none_none (Au I q (by simp))
  |bl j=>cases d;exact PySem.EqNone.ne_none_bool (Au I q (by simp))
  |int j=>obtain⟨e,rfl⟩:=d;exact PySem.EqNone.ne_none_int (Au I q (by simp))
  |str j=>obtain⟨e,rfl⟩:=d;exact PySem.EqNone.ne_none_str (Au I q (by simp))
  |_=>exact absurd (show false=true from f) Bool.false_ne_true
 |bl i=>
  cases g;cases y with
  |Ai=>cases d;exact PySem.EqNone.ne_bool_none (Au I q (by simp))
  |bl j=>cases d;exact ne_bool (Au I q (congrArg not Sz))
  |str j=>obtain⟨e,rfl⟩:=d;exact PySem.EqMixed.ne_bool_str (Au I q (by simp))
  |_=>exact absurd (show false=true from f) Bool.false_ne_true
 |int i=>
  obtain⟨t,rfl⟩:=g;cases y with
  |Ai=>cases d;exact PySem.EqNone.ne_int_none (Au I q (by simp))
  |int j=>obtain⟨e,rfl⟩:=d;exact ne_int (Au I q (congrArg not QH))
  |str j=>obtain⟨e,rfl⟩:=d;exact PySem.EqMixed.ne_int_str (Au I q (by simp))
  |_=>exact absurd (show false=true from f) Bool.false_ne_true
 |str i=>
  obtain⟨t,rfl⟩:=g;cases y with
  |Ai=>cases d;exact PySem.EqNone.ne_str_none (Au I q (by simp))
  |bl j=>cases d;exact PySem.EqMixed.ne_str_bool (Au I q (by simp))
  |int j=>obtain⟨e,rfl⟩:=d;exact PySem.EqMixed.ne_str_int (Au I q (by simp))
  |str j=>obtain⟨e,rfl⟩:=d;exact ne_str (Au I q (congrArg not QI))
  |_=>exact absurd (show false=true from f) Bool.false_ne_true
 |QD i=>
  obtain⟨t,rfl⟩:=g;cases y with
  |QD j=>obtain⟨e,rfl⟩:=d;exact PySem.W.ne_bytes (Au I q (congrArg not QJ))
  |_=>exact absurd (show false=true from f) Bool.false_ne_true
 |_=>cases y<;>exact absurd (show false=true from f) Bool.false_ne_true
theorem Ih:ET X (compareOp .Lt) (Vo fun i j=>.bl (decide (i<j))):=Vp fun _ _ _ _ _ _ _ q=>lt_int q
theorem XP:ET X (compareOp .LtE) (Vo fun i j=>.bl (decide (i<=j))):=Vp fun _ _ _ _ _ _ _ q=>le_int q
theorem S_:ET X (compareOp .Gt) (Vo fun i j=>.bl (decide (j<i))):=Vp fun _ _ _ _ _ _ _ q=>gt_int q
theorem aF:ET X (compareOp .GtE) (Vo fun i j=>.bl (decide (j<=i))):=Vp fun _ _ _ _ _ _ _ q=>ge_int q
inductive He(x y:V)(H:Hp)(Q:VK):Prop
 |mk(i j:_)(d:x=.str i)(e:y=.str j)(f:Q (.bl (!(!(Builtin.Str.occurrences j i 0 j.length 1).isEmpty))) H)
def Ii:V->V->Hp->VK->Prop:=fun x y H Q=>He x y H Q
theorem LX:ET X (compareOp .NotIn) Ii:=by
 intro pins s f H x y v u Q I d e h;obtain⟨i,j,rfl,rfl,q⟩:=h;obtain⟨t,rfl⟩:=d;obtain⟨g,rfl⟩:=e;exact notIn_str (Au I q rfl)
theorem AY(b:Expr)(h:op≠.In:=by decide)(d:op≠.NotIn:=by decide):behindInMarks op b=false:=by
 have e:(op==CmpOp.In)=false:=by cases op<;>first|rfl|exact absurd rfl h
 have f:(op==CmpOp.NotIn)=false:=by cases op<;>first|rfl|exact absurd rfl d
 cases b<;>simp[behindInMarks,e,f]
theorem Dt{r:R2}(d:ET X (compareOp op) r)(e:PE X a ta)(f:PE X b tb)(g:behindInMarks op b=false):PE X (.Compare a [op] [b] pos) (Sx r ta tb):=by
 intro pins s i H Q I h;exact wpAny_Compare1 (YK e f I h fun v u j x y k l m n q=>d pins j i k x y v u Q l m n q) g
def XQ(t:TE):TT:=fun d H Q=>t d H fun x e=>iz x e Q
theorem AU{r:R2}(f:ET X (compareOp op) r)(g:PE X a ta)(i:PE X b tb)(j:behindInMarks op b=false):PT X (.Compare a [op] [b] pos) (XQ (Sx r ta tb)):=by
 intro pins s d H Q I h;refine wpAny_isTrue_Compare1 (BH (g pins s d H _ I h) fun v l m=>m.elim fun x n o p q=>BH (i pins l d n _ o q) fun u t ⟨y,w,A,B,C⟩=>
  BH (f pins t d w x y v u _ A p B C) fun c J ⟨z,D,E,F,k,e,G⟩=>?_) j
 subst e;cases F;exact wpAny_truthy_bool ⟨D,E,G⟩
def YM(r f:R2)(ta tb tc:TE):TE:=fun d H Q=>ta d H fun x g=>tb d g fun y h=>r x y h fun z e=>∃k,z=.bl k/\ (if k=true then tc d e fun i j=>f y i j Q else Q (.bl false) e)
theorem S'{f:CmpOp}{r l:R2}(q:ET X (compareOp op) r)(i:ET X (compareOp f) l)(t:PE X a ta)(w:PE X b tb)(A:PE X c tc)(B:lastMarks [op,f] [b,c]=false:=by with_unfolding_all rfl):PT X (.Compare a [op,f] [b,c] pos) (XQ (YM r l ta tb tc)):=by
 intro pins s g H Q I h;refine isTrue_chain (BH (t pins s g H _ I h) fun v C j=>j.elim fun x D E F G=>test_link (BH (w pins C g D _ E G) fun u J ⟨y,K,L,m,M⟩=>
  BH (q pins J g K x y v u _ L F m M) fun d N ⟨z,n,o,O,k,e,p⟩=>?_)) B
 subst e;cases O;refine wpAny_truthy_bool ?_;cases k with
 |false=>
  obtain⟨k',P,R⟩:=p;cases P;exact ite_ff ⟨n,o,R⟩
 |true=>
  refine ite_tt (test_last (BH (A pins N g n _ o p) fun S T j=>j.elim fun U V W Y Z=>BH (i pins T g V y U u S _ W m Y Z) fun d' s5 ⟨z2,H5,I5,r5,k2,e2,q5⟩=>?_));subst e2;cases r5;exact wpAny_truthy_bool ⟨H5,I5,q5⟩
def aG(K:rg)(x:V)(H:Hp)(k:Bool):Prop:=
 match x with
 | .Ai=>k=false
 | .bl b=>k=b
 | .int i=>k=(i !=0)
 | .str y=>y.length<=sizeLine/\k=((y.length:Int) !=0)
 | .QD y=>y.size<=sizeLine/\k=((y.size:Int) !=0)
 | .ref p=>(∃d,Aq K H p d/\k= !d.isEmpty)∨(∃d,Bm K H p d/\k= !d.isEmpty)∨∃kvs,H p=some (.dK kvs)/\k= !kvs.isEmpty
 |_=>False
theorem Ox{d:Type}{kvs:List (d×V)}{vs:List (d×Value)}(r:KV kvs vs):(!vs.isEmpty)= !kvs.isEmpty:=by
 cases r<;>rfl
theorem Ij{its:List Value}(r:Vals xs its):(!its.toArray.isEmpty)= !xs.isEmpty:=by
 cases r<;>simp
theorem FN:(sizeLine:Nat)<2 ^ 63:=by rw[sizeLine_eq];decide
theorem YN:di X (fun x H Q=>∃k,aG X.K x H k/\Q k H):=by
 intro pins s B H x v Q I g h;obtain⟨k,e,q⟩:=h;have C:=FN;have D:sizeLine=16777216:=sizeLine_eq;cases x with
 |Ai=>
  cases g;have d:k=false:=e;subst d;exact truthy_none ⟨H,I,q⟩
 |bl b=>
  cases g;have d:k=b:=e;subst d;exact wpAny_truthy_bool ⟨H,I,q⟩
 |int i=>
  obtain⟨t,rfl⟩:=g;have d:k=(i !=0):=e;subst d;exact PySem.P.truthy_int ⟨H,I,q⟩
 |str y=>
  obtain⟨t,rfl⟩:=g;obtain⟨z,d⟩:y.length<=sizeLine/\k=((y.length:Int) !=0):=e;subst d;exact PySem.P.truthy_str (by lia) ⟨H,I.tok _,q⟩
 |QD y=>
  obtain⟨t,rfl⟩:=g;obtain⟨z,d⟩:y.size<=sizeLine/\k=((y.size:Int) !=0):=e;subst d;exact PySem.W.truthy_bytes (by lia) ⟨H,I.tok _,q⟩
 |ref p=>
  cases g;have d:(∃f,Aq X.K H p f/\k= !f.isEmpty)∨(∃f,Bm X.K H p f/\k= !f.isEmpty)∨∃kvs,H p=some (.dK kvs)/\k= !kvs.isEmpty:=e;rcases d with⟨f,j,d⟩|⟨f,j,d⟩|⟨kvs,j,d⟩
  ·subst d;obtain⟨n,r,o,u⟩:=I.list j;have hlen:=r.length;exact wpAny_truthy_list o.isList (by simp only[List.size_toArray];lia) ⟨H,I.tok _,by rw[Ij r];exact q⟩
  ·subst d;obtain⟨n,r,o,u⟩:=I.tuple j;have hlen:=r.length;exact truthy_tuple o (by simp only[List.size_toArray];lia) ⟨H,I.tok _,by rw[Ij r];exact q⟩
  ·subst d;obtain⟨u,A,l,r,m⟩:kvs.length<=sizeLine/\(p==sysModules)=false/\∃l,KV kvs l/\s.heap.DictOf (AZ X.prog X.w) p l:=I.Ap p _ j;have hlen:kvs.length=l.length:=Paired.length r;exact wpAny_truthy_dict A m (by lia) ⟨H,I.tok _,by rw[Ox r];exact q⟩
 |_=>exact(show False from e).elim
theorem TB(f:PE X a ta)(g:∀whole,isTrue a X.env whole=(do let v<-whole;standAt a.pos;holding [v] (truthy v))):
  PT X a (fun d H Q=>ta d H fun x e=>∃k,aG X.K x e k/\Q k e):=by
 intro pins s d H Q I h;exact isTrue_plain (BH (f pins s d H _ I h) fun v i j=>j.elim fun x l m n o=>YN pins i d l x v Q m n o) (g _)
inductive KI(x y:V)(H:Hp)(Q:VK):Prop
 |mk(i j:_)(d:x=.str i)(e:y=.str j)(f:i.length+j.length<=sizeLine)(g:Q (.str (i++j)) H)
def LY:V->V->Hp->VK->Prop:=fun x y H Q=>KI x y H Q
theorem Du:ET X (binaryOp .Add) LY:=by
 intro pins s k H x y v u Q I d e h;obtain⟨i,j,rfl,rfl,f,q⟩:=h;obtain⟨t,rfl⟩:=d;obtain⟨g,rfl⟩:=e;exact add_str (fun g l=>⟨.str (i++j),H,I.tok _,⟨_,rfl⟩,q⟩) f
theorem vals1{x:V}(r:Vals [x] us):∃u,us=[u]/\RelV x u:=by
 cases r with
 |cons d e=>cases e;exact⟨_,rfl,d⟩
theorem vals2{x y:V}(r:Vals [x,y] us):∃u d,us=[u,d]/\RelV x u/\RelV y d:=by
 cases r with
 |cons e f=>
  cases f with
  |cons g h=>cases h;exact⟨_,_,rfl,e,g⟩
end
structure Oy(h:Heap)(x dx C:Addr)(mA:Str->Option Value):Prop where
 obj:h.get? x=some (PySem.W.instObj C dx)
 ns:h.Ns1 dx mA
 ne:dx≠x
theorem RL{c:Addr}{d:Str->Option Value}(n:h.Ns1 c d):∃f,h.get? c=some f/\∀name,PySem.W.lookIn name f=some (d name):=by
 obtain⟨o,g,r,i,j,k,_,l⟩:=n;refine⟨o,i,fun name=>?_⟩;have e:=l name;unfold nsFind findBy at e;rw[<-Array.find?_toList]at e;unfold PySem.W.lookIn;rw[j];dsimp only;split
 ·rename_i y q
  rw[q]at e;exact congrArg some e
 ·rename_i q
  rw[q]at e;have a:g.toList.any (·.refKey)=false:=by
   rw[List.any_eq_false];intro y m;obtain⟨z,t,b⟩:=k y (Array.mem_toList_iff.mp m);simp[DictEntry.refKey,b]
  have p:¬g.toList.any (·.refKey)=true:=by rw[a];exact Bool.false_ne_true
  rw[if_neg p];exact congrArg some e
variable{C:Addr}
theorem Oy.look{x:Addr}{c:Str->Option Value}(I:Oy h x b C c):∃a,PySem.W.InstAt h x (PySem.W.instObj C b) C (some a)/\∀name,PySem.W.lookIn name a=some (c name):=
 let⟨a,d,e⟩:=RL I.ns
 ⟨a,⟨I.obj,rfl,rfl,d⟩,e⟩
variable{pl:Sem Bool}
section
variable{prog:Program} {w:World} {A:Around} {E:Value->Shared->Prop} {s:Shared} {K:rg} {x dx C f:Addr} {mA:Str->Option Value} {name:Str} {v:Value}
theorem get_map{expr:Bool}(X:K.In s.heap)(I:Oy s.heap x dx C mA)(b:PySem.W.plainGet K C name=true)(c:PySem.W.hasDictIn K C=true)(d:PySem.W.findIn K (.ref C) name=some none)(e:mA name=some v)(a:PySem.W.handedIn v=true)(h:Q v {s with toks:=s.toks+1}):
  wpAny (model prog w) A (getAttr (.ref x) name expr) Q E s:=by
 obtain⟨i,J,g⟩:=I.look;exact PySem.W.get_value X J (PySem.W.plainGet_of b).1 (PySem.W.findObj_own c d rfl (by rw[g,e])) a h
theorem TC{Q:Value×List Value->Shared->Prop}(X:K.In s.heap)(I:Oy s.heap x dx C mA)(a:PySem.W.plainGet K C name=true)(b:PySem.W.findIn K (.ref C) name=some (some (.ref f)))(c:PySem.W.isFn K (.ref f)=true)(d:mA name=none)(h:Q (.ref f,[.ref x]) s):
  wpAny (model prog w) A (getMethod (.ref x) name pl) Q E s:=by
 obtain⟨e,J,g⟩:=I.look;exact PySem.W.method_fn X J (PySem.W.plainGet_of a).1 (PySem.W.plainGet_of a).2 b (beq_iff_eq.mp c) (by show(PySem.W.lookIn name e).map (·.isSome)=some false;rw[g,d];rfl) h
theorem Vq{ns:List Str}{Q:Unit->Shared->Prop}(X:K.In s.heap)(I:Oy s.heap x dx C mA)(k:PySem.W.findIn K (.ref C) "__setattr__"=some (some (.builtin "object.__setattr__")))(l:PySem.W.plainOver K C=true)(m:PySem.W.takerIn K C name=some none)(n:PySem.W.hasDictIn K C=true)(hw:PySem.Within mA ns)(hsz:ns.length<=sizeLine)(h:∀h',Oy h' x dx C (fun y=>if y=name then some v else mA y)->Heap.SameBut dx s.heap h'->Q () {s with heap:=h',toks:=s.toks+2}):
  wpAny (model prog w) A (setAttr (.ref x) name v) Q E s:=by
 obtain⟨u,J,z⟩:=I.look;refine PySem.W.set_plain X J k (PySem.W.osa_open (s:={s with toks:=s.toks+1}) (r:=none) X J l m fun b=>?_);obtain⟨B,o,e⟩:=PySem.W.any_some n;have p:s.heap.get? x=some ⟨.ref C,some dx,.plain, #[]⟩:=I.obj;refine wpAny_bind (wpAny_pure (wpAny_bind (wpAny_bind (wpAny_loadPart p (wpAny_bind (PySem.W.Looks.here (s:={s with toks:=s.toks+1}) (PySem.W.looks_clsIn X o) ?_))))));rw[e];refine wpAny_pure (a:=some dx) (wpAny_bind (wpAny_pure (wpAny_bind ?_)));refine wpAny_nsSet1 (s:={s with toks:=s.toks+1}) I.ns fun h' c d=>?_;obtain⟨D,q,t,g,i,j⟩:=c.count (PySem.Within.cons name v hw);refine wpAny_bind (wpAny_lookBehind g (by rw[i];exact pastItsLine_dict (Nat.le_trans j (by rw[List.length_cons];lia))) ?_);exact wpAny_pure (h _ ⟨(d.2 _ (Ne.symm I.ne)).trans I.obj,c,I.ne⟩ d)
theorem TF{R:Result->Shared->Prop}{vs:List Value}{a:List (Str×Value)}(X:K.In s.heap)(b:PySem.W.makesIn K C=true)(c:PySem.W.findIn K (.ref C) "__init__"=some (some (.ref f)))(e:PySem.W.typeIn K (.ref f)=some (.type "function"))(h:codeAny (model prog w) (A.under (.builtin "type.__call__" ⟨.ref C::vs,a⟩)) (.call (.ref f) ⟨.ref (s.heap.objs.size+1)::vs,a⟩) (PySem.W.InitBack (s.heap.objs.size+1) R)
   {s with heap:=(s.heap.push PySem.W.emptyDict).push (PySem.W.instObj C s.heap.objs.size)}):
  codeAny (model prog w) A (.call (.ref C) ⟨vs,a⟩) R s:=by
 obtain⟨i,g,d,t,os⟩:=s;exact PySem.W.make_core (PySem.W.makes_of X b) (PySem.W.looks_findIn X c) (fun self=>PySem.W.bind_fn X self e) (.inl rfl) h
end
noncomputable def EG(f:Str)(v:V):List (Str×V)->List (Str×V)
 |[]=>[(f,v)]
 |(g,x)::r=>if g=f then(g,v)::r else(g,x)::EG f v r
theorem Ck(f g:Str)(v:V):∀fs:List (Str×V),(EG f v fs).lookup g=if g=f then some v else fs.lookup g
 |[]=>by
  show List.lookup g [(f,v)]=_;by_cases h:g=f
  ·have a:(g==f)=true:=beq_iff_eq.mpr h;simp only[List.lookup,a,if_pos h]
  ·have a:(g==f)=false:=beq_eq_false_iff_ne.mpr h;simp only[List.lookup,a,if_neg h]
 |(k,x)::r=>by
  have c:=Ck f g v r;rw[show EG f v ((k,x)::r)=(if k=f then(k,v)::r else(k,x)::EG f v r)from rfl];by_cases b:k=f
  ·rw[if_pos b];by_cases h:g=k
   ·have a:(g==k)=true:=beq_iff_eq.mpr h;simp only[List.lookup,a,if_pos (h.trans b)]
   ·have a:(g==k)=false:=beq_eq_false_iff_ne.mpr h;simp only[List.lookup,a,if_neg (fun e:g=f=>h (e.trans b.symm))]
  ·rw[if_neg b];by_cases h:g=k
   ·have a:(g==k)=true:=beq_iff_eq.mpr h;simp only[List.lookup,a,if_neg (fun e:g=f=>b (h.symm.trans e))]
   ·have a:(g==k)=false:=beq_eq_false_iff_ne.mpr h;simp only[List.lookup,a];exact c
theorem Gg(f:Str)(v:V):∀fs:List (Str×V),f∈(EG f v fs).map (·.1)/\∀g,g∈fs.map (·.1)->g∈(EG f v fs).map (·.1)
 |[]=>⟨by simp[EG],fun g h=>by simp at h⟩
 |(k,x)::r=>by
  obtain⟨b,c⟩:=Gg f v r;rw[show EG f v ((k,x)::r)=(if k=f then(k,v)::r else(k,x)::EG f v r)from rfl];by_cases a:k=f
  ·rw[if_pos a];subst a;exact⟨by simp,fun g h=>by simpa using h⟩
  ·rw[if_neg a];refine⟨?_,fun g h=>?_⟩
   ·rw[List.map_cons];exact List.mem_cons_of_mem _ b
   ·rw[List.map_cons]at h⊢;rcases List.mem_cons.mp h with e|e
    ·exact List.mem_cons.mpr (.inl e)
    ·exact List.mem_cons_of_mem _ (c g e)
theorem Cm(f:Str)(v:V):∀fs:List (Str×V),(EG f v fs).length<=fs.length+1
 |[]=>by simp[EG]
 |(k,x)::r=>by
  have b:=Cm f v r;rw[show EG f v ((k,x)::r)=(if k=f then(k,v)::r else(k,x)::EG f v r)from rfl];by_cases a:k=f
  ·rw[if_pos a,List.length_cons,List.length_cons];lia
  ·rw[if_neg a,List.length_cons,List.length_cons];lia
theorem Dr.some_of{o:Option Value}(r:Dr (some v) o):∃u,o=some u/\RelV v u:=by
 cases o with
 |none=>exact(show False from r).elim
 |some u=>exact⟨u,rfl,r⟩
theorem Dr.none_of{o:Option Value}(r:Dr none o):o=none:=by
 cases o with
 |none=>rfl
 |some u=>exact(show False from r).elim
theorem RM(r:RelV v u):PySem.W.handedIn u=true:=by
 cases v with
 |Ai=>cases(show u=Value.none from r);rfl
 |bl b=>cases(show u=Value.bool b from r);rfl
 |int i=>obtain⟨t,e⟩:=(show∃t,u=Value.int i t from r);cases e;rfl
 |str x=>obtain⟨t,e⟩:=(show∃t,u=Value.str x t from r);cases e;rfl
 |QD b=>obtain⟨t,e⟩:=(show∃t,u=Value.bytes b t from r);cases e;rfl
 |YB b=>obtain⟨t,e⟩:=(show∃t,u=Value.float b t from r);cases e;rfl
 |ref a=>cases(show u=Value.ref a from r);rfl
 |ty n=>cases(show u=Value.type n from r);rfl
section
variable{P:Program} {w:World} {H H':Hp} {h h':Heap} {a C dx:Addr} {fs dP:List (Str×V)}
theorem IE(c:DV P w H h)(e:H a=some (.ins C dx fs)):∃b,Oy h a dx C b/\(∀f,Dr (fs.lookup f) (b f))/\PySem.Within b (fs.map (·.1))/\fs.length<=1000/\H dx=some (.own a):=by
 obtain⟨d,z,ne,g,b,n,r,q⟩:=(show Aj P w H h a (.ins C dx fs)from c a _ e);exact⟨b,⟨g,n,ne⟩,r,q,z,d⟩
end
structure RN(K:rg)(C:Addr):Prop where
 pg:PySem.W.plainGet K C Str.empty=true
 hd:PySem.W.hasDictIn K C=true
 po:PySem.W.plainOver K C=true
 sa:PySem.W.findIn K (.ref C) "__setattr__"=some (some (.builtin "object.__setattr__"))
theorem RN.get(c:RN K C)(f:Str):PySem.W.plainGet K C f=true:=c.pg
def DQ(K:rg)(C:Addr)(f:Str):Prop:=PySem.W.findIn K (.ref C) f=some none
theorem DQ.aH{f:Str}(n:DQ K C f):PySem.W.takerIn K C f=some none:=by
 unfold PySem.W.takerIn;rw[show PySem.W.findIn K (.ref C) f=some none from n];rfl
structure Meth(K:rg)(C:Addr)(m:Str)(f:Addr):Prop where
 at_:PySem.W.findIn K (.ref C) m=some (some (.ref f))
 fn:PySem.W.isFn K (.ref f)=true
 kp:PySem.W.keepIn K (.ref f)=true
section
variable{X:Cx} {pins:List (Addr×Obj)} {σ:St} {H:Hp} {s:Shared} {a C dx:Addr} {fs:List (Str×V)} {f:Str} {v:V} {A:Around} {E:Value->Shared->Prop}
theorem Oz{b:Bool}(I:Inv X pins σ H s)(e:H a=some (.ins C dx fs))(c:RN X.K C)(n:DQ X.K C f)(l:fs.lookup f=some v)(h:∀u d,Inv X pins σ H d->RelV v u->Q u d):wpAny (model X.prog X.w) A (getAttr (.ref a) f b) Q E s:=by
 obtain⟨i,O,r,_,_,_⟩:=IE I.Ap e;obtain⟨u,j,g⟩:=Dr.some_of (v:=v) (o:=i f) (by rw[<-l];exact r f);exact get_map I.Dq O (c.get f) c.hd n j (RM g) (h u _ (I.tok _) g)
theorem O_{m:Str}{g:Addr}{Q:Value×List Value->Shared->Prop}(I:Inv X pins σ H s)(e:H a=some (.ins C dx fs))(c:RN X.K C)(k:Meth X.K C m g)(l:fs.lookup m=none)(h:Q (.ref g,[.ref a]) s):wpAny (model X.prog X.w) A (getMethod (.ref a) m pl) Q E s:=by
 obtain⟨b,O,r,_,_,_⟩:=IE I.Ap e;have d:b m=none:=Dr.none_of (by rw[<-l];exact r m);exact TC I.Dq O (c.get m) k.at_ k.fn d h
theorem O'{y:V}{Q:Unit->Shared->Prop}(I:Inv X pins σ H s)(e:H a=some (.ins C dx fs))(c:RN X.K C)(n:DQ X.K C f)(hl:fs.length<1000)(m:RelV y u)(h:∀i,Inv X pins σ (upd H a (.ins C dx (EG f y fs))) i->Q () i):wpAny (model X.prog X.w) A (setAttr (.ref a) f u) Q E s:=by
 obtain⟨j,O,r,k,_,l⟩:=IE I.Ap e;have p:(fs.map (·.1)).length<=sizeLine:=by rw[List.length_map,sizeLine_eq];lia
 refine Vq I.Dq O c.sa c.po n.aH c.hd k p fun t d B=>h _ ?_;have hd:∃o,t.get? dx=some o:=let⟨o,_,_,D,_⟩:=d.ns;⟨o,D⟩;refine I.write (x:=a) (e:=dx) (by rw[e];exact True.intro) (.inr l) (fun b q F z=>(B.2 b F).trans z) hd ?_;refine⟨by rw[AH O.ne];exact l,?_,O.ne,d.obj,_,d.ns,fun g=>?_,fun g G=>?_⟩
 ·have:=Cm f y fs;lia
 ·show Dr ((EG f y fs).lookup g) (if g=f then some u else j g);rw[Ck];by_cases q:g=f
  ·rw[if_pos q,if_pos q];exact m
  ·rw[if_neg q,if_neg q];exact r g
 ·by_cases q:g=f
  ·rw[q];exact(Gg f y fs).1
  ·refine(Gg f y fs).2 g (k g fun z=>G ?_);show(if g=f then some u else j g)=none;rw[if_neg q];exact z
theorem Inv.made(I:Inv X pins σ H s):Inv X pins σ (upd (upd H s.heap.objs.size (.own (s.heap.objs.size+1))) (s.heap.objs.size+1) (.ins C s.heap.objs.size []))
  {s with heap:=(s.heap.push PySem.W.emptyDict).push (PySem.W.instObj C s.heap.objs.size)}:=by
 have c:(s.heap.push PySem.W.emptyDict).get? s.heap.objs.size=some PySem.W.emptyDict:=Heap.get?_push_size s.heap rfl;have d:((s.heap.push PySem.W.emptyDict).push (PySem.W.instObj C s.heap.objs.size)).get? (s.heap.objs.size+1)=some (PySem.W.instObj C s.heap.objs.size):=by
  have:=Heap.get?_push_size (s.heap.push PySem.W.emptyDict) (o:=PySem.W.instObj C s.heap.objs.size) rfl;rwa [Heap.size_push]at this
 have g:(s.heap.push PySem.W.emptyDict).Ns s.heap.objs.size (fun _=>none):=⟨PySem.W.emptyDict, #[],_,c,rfl,(fun e h=>absurd h (by simp)),fun _=>rfl⟩;have i:=I.laid (a:=s.heap.objs.size) (o:=.own (s.heap.objs.size+1)) (h':=s.heap.push PySem.W.emptyDict) (t':=s.toks) (fun b u q=>Heap.get?_push_of_some _ q) (Nat.le_refl _) ⟨_,c⟩;refine i.laid (a:=s.heap.objs.size+1) (o:=.ins C s.heap.objs.size []) (t':=s.toks) (fun b u q=>Heap.get?_push_of_some _ q) (Nat.le_of_eq (Heap.size_push _ _)) ?_;have ne:s.heap.objs.size≠s.heap.objs.size+1:=Nat.ne_of_lt (Nat.lt_succ_self _);refine⟨by rw[AH ne,AB],Nat.zero_le _,ne,d,fun _=>none,(Heap.Ns1.of_empty g).at fun o q=>Heap.get?_push_of_some _ q,fun _=>True.intro,fun y j=>absurd rfl j⟩
theorem Vr{prog:Program}{env:Env}{pos:Pos}(c:attributeBase e f env (eval e env)=eval e env)(h:wpAny (model prog w) A (eval e env) (fun o b=>wpAny (model prog w) A (getAttr o f true) Q E b) E s):wpAny (model prog w) A (eval (.Attribute e f pos) env) Q E s:=
 Attribute_any_ h (by rw[arm_eval_Attribute,c])
end
def dz(K:rg)(c:TE)(f:Str):TE:=fun d H Q=>c d H fun x b=>∃a C e fs v,x=.ref a/\b a=some (.ins C e fs)/\RN K C/\DQ K C f/\fs.lookup f=some v/\Q v b
def d_(K:rg)(e g:TE)(f:Str):TS:=fun D b H=>g b H fun y h=>e b h fun x c=>∃a C d fs,x=.ref a/\c a=some (.ins C d fs)/\RN K C/\DQ K C f/\fs.length<1000/\
 D.nx b (upd c a (.ins C d (EG f y fs)))
section
variable{X:Cx} {o e value:Expr} {f:Str} {pos pos' eA:Pos} {ta tv:TE}
theorem Gh(b:PE X e ta)(d:attributeBase e f X.env (eval e X.env)=eval e X.env):PE X (.Attribute e f pos) (dz X.K ta f):=by
 intro pins s g H Q I h;refine Vr d (BH (b pins s g H _ I h) fun u w ⟨x,i,j,k,a,C,y,fs,v,m,p,c,n,l,q⟩=>?_);subst m;obtain rfl:u=Value.ref a:=k;exact Oz j p c n l fun z A r t=>⟨v,i,r,t,q⟩
theorem PB(d:PE X o ta)(g:PE X value tv)(i:swapsWith value (some (.Attribute o f pos')) pos.line X.env=pure false):PS X (.Assign [.Attribute o f pos'] value pos) (d_ X.K ta tv f):=by
 intro pins s b H D I h;refine plainObj_wpAny_Assign_Attribute (BH (g pins s b H _ I h) fun u j k=>k.elim fun y m p r q=>BH (d pins j b m _ p q) fun ov E ⟨x,F,t,v,a,C,G,fs,w,z,c,n,l,A⟩=>?_) i;subst w;obtain rfl:ov=Value.ref a:=v;exact O' t z c n l r fun J B=>⟨b,_,B,A⟩
end
section
variable{X:Cx} {pins:List (Addr×Obj)} {σ:St} {H:Hp} {s:Shared} {A:Around} {E:Value->Shared->Prop} {Q:Value->Shared->Prop} {c:Value} {b:Bool}
inductive Hg(K:rg)(H:Hp):V->Value->Prop where
 |Ai:Hg K H .Ai (.type "NoneType")
 |bl (x:Bool):Hg K H (.bl x) (.type "bool")
 |int (i:Int):Hg K H (.int i) (.type "int")
 |str (x:Str):Hg K H (.str x) (.type "str")
 |YB (x:UInt64):Hg K H (.YB x) (.type "float")
 |lst {a:Addr} {xs:List V} (e:H a=some (.lst xs)):Hg K H (.ref a) (.type "list")
 |BP {a:Addr} {o:Obj} {xs:List V} (e:H a=some (.BP o (.lst xs))):Hg K H (.ref a) (.type "list")
 |tup {a:Addr} {xs:List V} (e:H a=some (.tup xs)):Hg K H (.ref a) (.type "tuple")
 |dK {a:Addr} {kvs:List (Key×V)} (e:H a=some (.dK kvs)):Hg K H (.ref a) (.type "dict")
 |dT {a:Addr} {kvs:List (List Key×V)} (e:H a=some (.dT kvs)):Hg K H (.ref a) (.type "dict")
 |ins {a C d:Addr} {fs:List (Str×V)} (e:H a=some (.ins C d fs)) (cl:RN K C) (g:PySem.W.findIn K (.ref C) "__class__"=some (some (.builtin "object.__class__"))) (h:PySem.W.specialIn K (.builtin "object.__class__") "__get__"=some (some (.builtin "getset_descriptor.__get__"))) (f:PySem.W.takesIn K (.builtin "object.__class__")=some true) (j:PySem.W.mroIn K C (.type "object")=some true):Hg K H (.ref a) (.ref C)
theorem DX{x:V}{t:Value}(I:Inv X pins σ H s)(d:RelV x u)(ty:Hg X.K H x t)(e:PySem.W.kitOne X.K t c=some b)(h:∀tk,Q (.bool b) {s with toks:=tk}):
  wpAny (model X.prog X.w) A (call (.builtin "isinstance") [u,c]) Q E s:=by
 cases ty with
 |Ai=>cases(show u=Value.none from d);exact PySem.W.kia_one PySem.W.kitx_none I.Dq True.intro e (fun z=>nomatch z) h
 |bl y=>cases(show u=Value.bool y from d);exact PySem.W.kia_one PySem.W.kitx_bool I.Dq True.intro e (fun z=>nomatch z) h
 |int i=>obtain⟨t,q⟩:=(show∃t,u=Value.int i t from d);cases q;exact PySem.W.kia_one PySem.W.kitx_int I.Dq True.intro e (fun z=>nomatch z) h
 |str y=>obtain⟨t,q⟩:=(show∃t,u=Value.str y t from d);cases q;exact PySem.W.kia_one PySem.W.kitx_str I.Dq True.intro e (fun z=>nomatch z) h
 |YB y=>obtain⟨t,q⟩:=(show∃t,u=Value.float y t from d);cases q;exact PySem.W.kia_one PySem.W.kitx_float I.Dq True.intro e (fun z=>nomatch z) h
 |@lst a j f=>
  cases(show u=Value.ref a from d);obtain⟨_,_,n,_,g⟩:=(show Aj X.prog X.w H s.heap a (.lst j)from I.Ap a _ f);exact PySem.W.kia_one PySem.W.kitx_list I.Dq ⟨_,g,rfl⟩ e (fun z=>nomatch z) h
 |@BP a r j f=>
  cases(show u=Value.ref a from d);obtain⟨_,_,_,n,_,g⟩:=(show Aj X.prog X.w H s.heap a (.BP r (.lst j))from I.Ap a _ f);exact PySem.W.kia_one PySem.W.kitx_list I.Dq ⟨_,g,rfl⟩ e (fun z=>nomatch z) h
 |@tup a j f=>
  cases(show u=Value.ref a from d);obtain⟨_,_,_,p⟩:=(show Aj X.prog X.w H s.heap a (.tup j)from I.Ap a _ f);obtain⟨o,g,k,_⟩:=p;exact PySem.W.kia_one PySem.W.kitx_tuple I.Dq ⟨o,g,k⟩ e (fun z=>nomatch z) h
 |@dK a kvs f=>
  cases(show u=Value.ref a from d);obtain⟨_,_,L,_,p⟩:=(show Aj X.prog X.w H s.heap a (.dK kvs)from I.Ap a _ f);obtain⟨o,v,B,g,k,_⟩:=p;exact PySem.W.kia_one PySem.W.kitx_dict I.Dq ⟨o,g,k.1⟩ e (fun z=>nomatch z) h
 |@dT a kvs f=>
  cases(show u=Value.ref a from d);obtain⟨_,_,j,_,o,v,B,g,k,_⟩:=(show Aj X.prog X.w H s.heap a (.dT kvs)from I.Ap a _ f);exact PySem.W.kia_one PySem.W.kitx_dict I.Dq ⟨o,g,k.1⟩ e (fun z=>nomatch z) h
 |@ins a C M fs f m D F l G=>
  cases(show u=Value.ref a from d);obtain⟨N,O,_⟩:=IE I.Ap f;obtain⟨P,J,_⟩:=O.look;exact PySem.W.kia_one (PySem.W.kitx_own (m.get _) m.hd D F l G) I.Dq J e (fun z=>nomatch z) h
end
structure BQ(k:Nat)(A:Around):Prop where
 hd:A.handled=none
 dp:A.depth+3*k+5<recursionLimit
 un:A.units+16*k+200<cLine
 gd:A.guards=some []
theorem BQ.mono{j k:Nat}(r:BQ k A)(h:j<=k):BQ j A:=⟨r.hd,by have:=r.dp;lia,by have:=r.un;lia,r.gd⟩
theorem BQ.deeper{k:Nat}(r:BQ (k+1) A)(env:Env):BQ k (A.deeper env):=
 ⟨r.hd,by have:=r.dp;show A.depth+1+3*k+5<_;lia,by have:=r.un;show A.units+3+16*k+200<_;lia,r.gd⟩
theorem PD{a:List (Str×Value)}:(A.under (.builtin "type.__call__" ⟨.ref C::us,a⟩)).depth=A.depth+1:=by
 first|rfl|simp[Around.under,Code.weight,Code.isCreation,Code.isGuard,Code.isCaller,Code.frames,Code.isFrame,guardIds]
theorem PF{a:List (Str×Value)}:(A.under (.builtin "type.__call__" ⟨.ref C::us,a⟩)).units=A.units+1:=by
 first|rfl|simp[Around.under,Code.cUnits,Code.frames,Code.isFrame]
theorem Mz{f:List (Str×Value)}:(A.under (.builtin "type.__call__" ⟨.ref C::us,f⟩)).guards=A.guards:=by
 have e:(Code.builtin "type.__call__" ⟨.ref C::us,f⟩).isGuard=false:=by show guardIds.contains "type.__call__"=false;decide+kernel
 obtain⟨a,b,c,g,d⟩:=A;cases g<;>simp[Around.under,Code.guards,e,pushGuards]
theorem BQ.make{k:Nat}(r:BQ (k+1) A)(C:Addr)(us:List Value)(a:List (Str×Value)):BQ k (A.under (.builtin "type.__call__" ⟨.ref C::us,a⟩)):=
 ⟨r.hd,by have:=r.dp;rw[PD];lia,by have:=r.un;rw[PF];lia,by rw[Mz];exact r.gd⟩
theorem BQ.depth{k:Nat}(r:BQ k A):A.depth<recursionLimit:=by have:=r.dp;lia
theorem BQ.units{k:Nat}(r:BQ k A):A.units+64<cLine:=by have:=r.un;lia
theorem BQ.LZ{k:Nat}(r:BQ k A):A.units<cLine:=by have:=r.un;lia
def Hh:TA:=fun _ H Q=>Q [] H
def EU(b:TE)(tr:TA):TA:=fun a H Q=>b a H fun x c=>tr a c fun d e=>Q (x::d) e
section
variable{X:Cx} {e:Expr} {es:List Expr} {te:TE} {t:TA} {pos:Pos}
theorem Be:PA X [] Hh:=fun _ _ _ _ H Q I h=>Calls.spliced_nil ⟨[],H,I,.nil,h⟩
theorem AA(c:PE X e te)(d:PA X es t)(f:starEach (e::es) X.env=(false,eval e X.env)::starEach es X.env:=by rfl):PA X (e::es) (EU te t):=by
 intro pos pins s b H Q I h;rw[f];show wpAny _ _ (spliced ((false,eval e X.env)::backTo pos (starEach es X.env))) _ _ s;refine Calls.spliced_cons (BH (c pins s b H _ I h) fun u g a=>a.elim fun x i j k l=>?_);exact BH (d pos pins g b i _ j l) fun r v a=>a.elim fun m n o p q=>⟨x::m,n,o,.cons k p,q⟩
def eB(t:TA):TE:=fun c H Q=>t c H fun a b=>a.length<=sizeLine/\∀p,b p=none->Q (.ref p) (upd b p (.tup a))
def aI(t:TA):TE:=fun c H Q=>t c H fun a b=>a.length<=sizeLine/\∀p,b p=none->Q (.ref p) (upd b p (.lst a))
theorem BY{f}(h:PA X es t):PE X (.Tuple es f pos) (eB t):=by
 intro pins s g H Q I i;refine wpAny_Tuple_spliced (BH (h pos pins s g H _ I i) fun j a ⟨k,c,d,r,z,q⟩=>⟨by rw[<-r.length];exact z,?_⟩);have l:c a.heap.objs.size=none:=d.Ap.fresh (Nat.le_refl _);refine⟨.ref a.heap.objs.size,upd c a.heap.objs.size (.tup k),d.laid (t':=a.toks) (fun b u e=>Heap.get?_push_of_some _ e) (Nat.le_refl _) ?_,rfl,q _ l⟩;exact⟨z,j,r,⟨_,Heap.get?_push_size _ rfl,rfl,_,rfl⟩⟩
theorem Ah(h:PA X es t):PE X (.List es pos) (aI t):=by
 intro pins s f H Q I g;refine wpAny_List_spliced (BH (h pos pins s f H _ I g) fun i a ⟨j,c,d,r,z,q⟩=>⟨by rw[<-r.length];exact z,?_⟩);have k:c a.heap.objs.size=none:=d.Ap.fresh (Nat.le_refl _);refine⟨.ref a.heap.objs.size,upd c a.heap.objs.size (.lst j),d.laid (t':=a.toks) (fun b u e=>Heap.get?_push_of_some _ e) (Nat.le_refl _) ?_,rfl,q _ k⟩;exact⟨z,i,0,r,Heap.get?_push_size _ rfl⟩
end
abbrev Sp:=List V->Hp->VK->XK->Prop
abbrev Sd:=List Env->Hp->Shared->XK->Value->Shared->Prop
structure M_(P:Program)(w:World)(K:rg)(mg:Str->Option Value)(base:Heap)(A:Around)(outer:List Env)(s:Shared)(H:Hp):Prop where
 frames:A.frames=some outer
 mod:Mod K mg base
 bs:∀b o,base.get? b=some o->s.heap.get? b=some o/\H b=none
 Sb:base.objs.size<=s.heap.objs.size
 FK:s.heap.FunFrames base outer
 Vb:∀b∈QE outer,H b=none
 Ap:DV P w H s.heap
 bare:AllBare s.gens
inductive CE(outer:List Env)(P:Program)(w:World)(H:Hp)(s:Shared)(Q:VK)(u:Value)(a:Shared):Prop
 |mk(v:V)(b:Hp)(os:a.os=s.os)(bare:AllBare a.gens)(un:Un (QE outer) [] H b s.heap a.heap)(c:DV P w b a.heap)(r:RelV v u)(q:Q v b)
def CR(b:Sd)(outer:List Env)(P:Program)(w:World)(H:Hp)(s:Shared)(Q:VK)(E:XK)(r:Result)(a:Shared):Prop:=
 match r with
 | .ok (.ret u)=>CE outer P w H s Q u a
 | .ok _=>False
 | .error e=>b outer H s E e a
structure Ac(P:Program)(w:World)(K:rg)(mg:Str->Option Value)(base:Heap)(CX:Sd)(k:Nat)(f:Addr)(fd:FuncData)(ps:List Str)(sp:Sp):Prop where
 len:∀vs H Q E,sp vs H Q E->vs.length=ps.length
 run:∀(A:Around)(outer:List Env)(s:Shared)(H:Hp)(args:Args)(us:List Value)(vs:List V)(Q:VK)(E:XK),BQ k A->M_ P w K mg base A outer s H->BindsTo s fd args (ps.zip us)->Vals vs us->sp vs H Q E->
  codeAny (model P w) A (.call (.ref f) args) (CR CX outer P w H s Q E) s
variable{mg:Str->Option Value}{base:Heap}{ps:List Str}
theorem Ac.imp{b:Sd}{k:Nat}{f:Addr}{c:FuncData}{sp a:Sp}(F:Ac P w K mg base b k f c ps sp)(h:∀vs H Q E,a vs H Q E->sp vs H Q E):Ac P w K mg base b k f c ps a:=
 ⟨fun vs H Q E q=>F.len vs H Q E (h _ _ _ _ q),fun A outer s H args d vs Q E e g i j l=>F.run A outer s H args d vs Q E e g i j (h _ _ _ _ l)⟩
variable{outer:List Env}
theorem M_.make(e:M_ P w K mg base A outer s H)(C:Addr)(us:List Value)(a:List (Str×Value)):
  M_ P w K mg base (A.under (.builtin "type.__call__" ⟨.ref C::us,a⟩)) outer s H:=⟨by first|exact e.frames|(simpa[Around.under,Code.envs,Code.isFrame,pushEnvs]using e.frames),e.mod,e.bs,e.Sb,e.FK,e.Vb,e.Ap,e.bare⟩
section
variable{X:Cx} {pins:List (Addr×Obj)} {σ:St} {H:Hp} {s s':Shared}
theorem Inv.YO(I:Inv X pins σ H s):M_ X.prog X.w X.K X.mg X.base X.A X.stack s H:=
 ⟨I.ok.frames,I.ok.mod,I.bs,Nat.le_trans I.ok.Sb I.sz,I.stack,I.QF,I.Ap,I.bare⟩
theorem Inv.after{Q:VK}(I:Inv X pins σ H s)(h:CE X.stack X.prog X.w H s Q u s'):EP X pins σ Q u s':=by
 obtain⟨v,e,os,bare,un,a,r,q⟩:=h;obtain⟨f,g,d,t,c⟩:=s';obtain rfl:c=s.os:=os;exact⟨v,e,I.call (h':=f) (g':=g) (d':=d) (t':=t) (ch:=[]) un a bare (fun b z=>absurd z (by simp)),r,q⟩
end
def Ke(sp:Sp)(a:List V)(E:XK)(t:TA):TE:=fun b H Q=>t b H fun c d=>sp (c++a) d Q E
def aJ(C:Addr)(m:Str)(sp:Sp)(b:List V)(E:XK)(e:TE)(t:TA):TE:=fun c H Q=>e c H fun x d=>∃a f fs,x=.ref a/\d a=some (.ins C f fs)/\fs.lookup m=none/\
 t c d fun g h=>sp (x::(g++b)) h Q E
def aK(C:Addr)(sp:Sp)(b:List V)(E:XK)(t:TA):TE:=fun d H Q=>t d H fun e c=>∀x a,c x=none->c a=none->a≠x->
 sp (.ref x::(e++b)) (upd (upd c a (.own x)) x (.ins C a [])) (fun v f=>v=.Ai/\Q (.ref x) f) E
def Binds(K:rg)(c:FuncData)(ps:List Str)(b:List Value):Prop:=
 ∀(s:Shared)(a:List Value),K.In s.heap->(a++b).length=ps.length->BindsTo s c ⟨a,[]⟩ (ps.zip (a++b))
theorem Binds.all{a:FuncData}(h:∀us:List Value,us.length=ps.length->bindArgs a ⟨us,[]⟩=pure (ps.zip us)):Binds K a ps []:=fun s us _ b=>by
 rw[List.append_nil]at b⊢;exact .of_eq (h us b)
def Passes(b:Sd)(X:Cx)(E:XK):Prop:=∀(pins:List (Addr×Obj))(c:St)(H:Hp)(s:Shared)(e:Value)(a:Shared),Inv X pins c H s->b X.stack H s E e a->X.xe e a
variable{vs:List V}
section
variable{X:Cx} {CX:Sd} {k:Nat} {f C:Addr} {fd:FuncData} {ps:List Str} {sp:Sp} {Ik:List V} {ds:List Value} {E:XK} {x m:Str} {p pos apos:Pos} {e o:Expr} {es:List Expr} {ta:TE} {t:TA}
theorem La{b:St}{Q:VK}(F:Ac X.prog X.w X.K X.mg X.base CX k f fd ps sp)(d:BQ k X.A)(g:Binds X.K fd ps ds)(i:Vals Ik ds)(j:Passes CX X E)(I:Inv X pins b H s)(r:Vals vs us)(h:sp (vs++Ik) H Q E):wpAny (model X.prog X.w) X.A (call (.ref f) us) (EP X pins b Q) X.xe s:=by
 have c:Vals (vs++Ik) (us++ds):=r.append i;have l:(us++ds).length=ps.length:=by rw[<-c.length];exact F.len _ _ _ _ h
 refine wpAny_call (codeAny_mono (F.run X.A X.stack s H ⟨us,[]⟩ (us++ds) (vs++Ik) Q E d I.YO (g s us I.Dq l) c h) fun r n a=>?_);cases r with
 |error e=>exact j pins b H s e n I a
 |ok q=>
  cases q with
  |ret u=>exact I.after a
  |next=>exact False.elim a
  |brk=>exact False.elim a
  |cont=>exact False.elim a
theorem QK(F:Ac X.prog X.w X.K X.mg X.base CX k f fd ps sp)(d:BQ k X.A)(g:Gl X x)(i:X.mg x=some (.ref f))(j:PySem.W.keepIn X.K (.ref f)=true)(l:Binds X.K fd ps ds)(n:Vals Ik ds)(u:Passes CX X E)(v:PA X (e::es) t)(a:(x==("__debug__":Str))=false:=by decide)(y:starEach (e::es) X.env=(false,eval e X.env)::starEach es X.env:=by rfl)(b:(backTo pos (starEach es X.env)).any (·.1)=false:=by rfl):
  PE X (.Call (.Name x p) (e::es) [] pos) (Ke sp Ik E t):=by
 intro pins s z H Q I h;refine wpAny_Call_Name_kw (ID I g i ?_ a);refine PySem.W.callWith_K (h₀:=X.base) I.ok.mod.YC j (BH (v pos pins s z H _ I h) fun D G B=>B.elim fun J L c r q=>⟨c.Dq,?_⟩) y b;exact La F d l n u c r q
theorem TH(g:PE X o ta)(c:RN X.K C)(d:Meth X.K C m f)(F:Ac X.prog X.w X.K X.mg X.base CX k f fd ps sp)(i:BQ k X.A)(j:Binds X.K fd ps ds)(n:Vals Ik ds)(r:Passes CX X E)(v:eval (.Call (.Attribute o m apos) [] [] pos) X.env=(do
   let ov<-eval o X.env
   standAt apos.atName
   let(f,first)<-holding [ov] (getMethod ov m pl)
   callWith pos f first (backTo pos (starEach [] X.env)) (backToKw pos (keywordEach [] X.env))):=by rfl):
  PE X (.Call (.Attribute o m apos) [] [] pos) (aJ C m sp Ik E ta Hh):=by
 intro pins s y H Q I h;refine PySem.W.methodCall_KW (pl:=pl) (BH (g pins s y H _ I h) fun u G ⟨x,J,b,z,a,L,fs,B,D,l,q⟩=>?_) v;subst B;obtain rfl:u=Value.ref a:=z;refine O_ b D c d l ?_;exact PySem.W.callWith_K0 (first:=[.ref a]) b.Dq d.kp (La (us:=[.ref a]) (vs:=[.ref a]) F i j n r b (.cons rfl .nil) q)
structure Mk(K:rg)(C f:Addr):Prop where
 makes:PySem.W.makesIn K C=true
 init:PySem.W.findIn K (.ref C) "__init__"=some (some (.ref f))
 fn:PySem.W.isFn K (.ref f)=true
 kp:PySem.W.keepIn K (.ref C)=true
theorem TJ{Q:VK}(M:Mk X.K C f)(F:Ac X.prog X.w X.K X.mg X.base CX k f fd ps sp)(j:BQ (k+1) X.A)(l:Binds X.K fd ps ds)(n:Vals Ik ds)(q:Passes CX X E)(I:Inv X pins d H s)(r:Vals vs us)(h:∀x b,H x=none->H b=none->b≠x->sp (.ref x::(vs++Ik)) (upd (upd H b (.own x)) x (.ins C b [])) (fun v H2=>v=.Ai/\Q (.ref x) H2) E):
  wpAny (model X.prog X.w) X.A (call (.ref C) us) (EP X pins d Q) X.xe s:=by
 have g:=h (s.heap.objs.size+1) s.heap.objs.size (I.Ap.fresh (Nat.le_succ _)) (I.Ap.fresh (Nat.le_refl _)) (Nat.ne_of_lt (Nat.lt_succ_self _));have c:=Inv.made (C:=C) I;have i:Vals (V.ref (s.heap.objs.size+1)::(vs++Ik)) (Value.ref (s.heap.objs.size+1)::(us++ds)):=.cons rfl (r.append n);have y:(Value.ref (s.heap.objs.size+1)::us++ds).length=ps.length:=by
  have e:=i.length;rw[F.len _ _ _ _ g]at e;exact e.symm
 refine wpAny_call (TF (f:=f) I.Dq M.makes M.init (beq_iff_eq.mp M.fn) (codeAny_mono (F.run _ X.stack _ _ ⟨Value.ref (s.heap.objs.size+1)::us,[]⟩ (Value.ref (s.heap.objs.size+1)::(us++ds)) _ _ E (j.make C us []) (c.YO.make C us []) (l _ (Value.ref (s.heap.objs.size+1)::us) c.Dq y) i g) fun r z a=>?_));cases r with
 |error e=>exact q pins d _ _ e z c a
 |ok B=>
  cases B with
  |ret u=>
   obtain⟨v,D,G,J,L,N⟩:=c.after a;subst L;exact⟨J,⟨V.ref (s.heap.objs.size+1),D,G,rfl,N⟩⟩
  |next=>exact False.elim a
  |brk=>exact False.elim a
  |cont=>exact False.elim a
theorem Vs(M:Mk X.K C f)(F:Ac X.prog X.w X.K X.mg X.base CX k f fd ps sp)(d:BQ (k+1) X.A)(g:Gl X x)(i:X.mg x=some (.ref C))(j:Binds X.K fd ps ds)(l:Vals Ik ds)(n:Passes CX X E)(u:PA X (e::es) t)(a:(x==("__debug__":Str))=false:=by decide)(v:starEach (e::es) X.env=(false,eval e X.env)::starEach es X.env:=by rfl)(b:(backTo pos (starEach es X.env)).any (·.1)=false:=by rfl):
  PE X (.Call (.Name x p) (e::es) [] pos) (aK C sp Ik E t):=by
 intro pins s y H Q I h;refine wpAny_Call_Name_kw (ID I g i ?_ a);refine PySem.W.callWith_K (h₀:=X.base) I.ok.mod.YC M.kp (BH (u pos pins s y H _ I h) fun B D z=>z.elim fun G J c r q=>⟨c.Dq,?_⟩) v b;exact TJ M F d j l n c r q
end
section
variable{X:Cx} {CX:Sd} {k:Nat} {f C:Addr} {fd:FuncData} {ps ks:List Str} {sp:Sp} {E:XK} {x m:Str} {p pos apos kg:Pos} {e o:Expr} {es:List Expr} {Zj:List Keyword} {te ta:TE} {t tk:TA} {nm:Option Str}
variable{g:List Value->List Value->List Value} {gV:List V->List V->List V}
end
structure AW(N P:List Str)(sc:Scope):Prop where
 kind:sc.kind=.function:=by rfl
 co:sc.isCoroutine=false:=by rfl
 gen:sc.isGenerator=false:=by rfl
 nd:N.Nodup:=by decide+kernel
 pre:N.take P.length=P:=by rfl
 par:∀x∈P,sc.names.lookup x=some .local∨sc.names.lookup x=some .cell:=by decide+kernel
 YQ:∀y∈sc.names,y.2≠.free:=by decide+kernel
theorem Kf{kindOf:Str->Option NameKind}{x:Str}:∀{binds:List (Str×Value)}{m:Str->Option Value},(∀v,(x,v)∉binds)->bindL kindOf binds m x=m x
 |[],_,_=>rfl
 |(n,v)::r,m,h=>by
  unfold bindL;rw[Kf fun w hw=>h w (List.mem_cons_of_mem _ hw)];split
  ·have:x≠n:=by rintro rfl;exact h v List.mem_cons_self
   simp[this]
  ·rfl
theorem Kg{kindOf:Str->Option NameKind}{x:Str}:∀{binds:List (Str×Value)}{m:Str->Option Value},(∀v,(x,v)∉binds)->bindC kindOf binds m x=m x
 |[],_,_=>rfl
 |(n,v)::r,m,h=>by
  unfold bindC;rw[Kg fun w hw=>h w (List.mem_cons_of_mem _ hw)];split
  ·rfl
  ·have:x≠n:=by rintro rfl;exact h v List.mem_cons_self
   simp[this]
theorem Kh{kindOf:Str->Option NameKind}{x:Str}{v:Value}:∀{P:List Str}{vs:List Value}{i:Nat}{m:Str->Option Value},P.Nodup->P[i]?=some x->vs[i]?=some v->kindOf x=some .local->
  bindL kindOf (P.zip vs) m x=some v
 |[],_,_,_,_,h,_,_=>by simp at h
 |_::_,[],_,_,_,_,h,_=>by simp at h
 |p::P,w::vs,0,m,nd,a,b,c=>by
  simp at a b;subst a;subst b;show bindL kindOf ((p,w)::P.zip vs) m p=_;unfold bindL;rw[Kf fun v d=>(List.nodup_cons.mp nd).1 (List.of_mem_zip d).1,if_pos c];simp
 |p::P,w::vs,i+1,m,nd,a,b,c=>by
  show bindL kindOf ((p,w)::P.zip vs) m x=_;unfold bindL;exact Kh (i:=i) (List.nodup_cons.mp nd).2 (by simpa using a) (by simpa using b) c
theorem Ki{kindOf:Str->Option NameKind}{x:Str}{v:Value}:∀{P:List Str}{vs:List Value}{i:Nat}{m:Str->Option Value},P.Nodup->P[i]?=some x->vs[i]?=some v->kindOf x≠some .local->
  bindC kindOf (P.zip vs) m x=some v
 |[],_,_,_,_,h,_,_=>by simp at h
 |_::_,[],_,_,_,_,h,_=>by simp at h
 |p::P,w::vs,0,m,nd,a,b,c=>by
  simp at a b;subst a;subst b;show bindC kindOf ((p,w)::P.zip vs) m p=_;unfold bindC;rw[Kg fun v d=>(List.nodup_cons.mp nd).1 (List.of_mem_zip d).1,if_neg c];simp
 |p::P,w::vs,i+1,m,nd,a,b,c=>by
  show bindC kindOf ((p,w)::P.zip vs) m x=_;unfold bindC;exact Ki (i:=i) (List.nodup_cons.mp nd).2 (by simpa using a) (by simpa using b) c
def start(N:List Str)(vs:List V):St:=vs.map some++List.replicate (N.length-vs.length) none
def Lb(CX:Sd)(P:Program)(w:World)(K:rg)(mg:Str->Option Value)(base:Heap)(N:List Str)(qual:Str)(scope:Scope)(f:Addr)(cd:Value)(A:Around)(outer:List Env)(s:Shared)(H:Hp)(E:XK):Cx where
 prog:=P
 w:=w
 K:=K
 mg:=mg
 base:=base
 A:=A.deeper (envOfC qual scope s.heap.objs.size f cd)
 N:=N
 s₀:=s
 H₀:=H
 env:=envOfC qual scope s.heap.objs.size f cd
 outer:=outer
 stack:=envOfC qual scope s.heap.objs.size f cd::outer
 ex:=[]
 calm:=true
 fn:=fun _=>true
 pn:=[]
 xe:=fun e s'=>wpAny (model P w) (A.deeper (envOfC qual scope s.heap.objs.size f cd)) (leaving (envOfC qual scope s.heap.objs.size f cd) e) (fun _ cS=>CX outer H s E e cS) (fun e' cS=>CX outer H s E e' cS) s'
theorem M'{a:Scope}{n:Nat}(h:a.names.lookup x=some .cell):∃c,(cellsFrom n a.names []).lookup x=some c:=by
 have q:=PySem.W.cellsFrom_some a.names n [] (.inl h);exact Option.isSome_iff_exists.mp q
variable{scope:Scope}
theorem RO{D:Sd}{qual:Str}{f:Addr}{t:Value}{F:Shared}{E:XK}(S:AW N ps scope)(J:A.handled=none)(g:M_ P w K mg base A outer s H)(hl:vs.length=ps.length)(r:Vals vs us)(x:InCallC s s.heap.objs.size (bindL (envOfC qual scope s.heap.objs.size f t).kindOf (ps.zip us) fun _=>none) (cellsFrom (s.heap.objs.size+1) scope.names []) (bindC (envOfC qual scope s.heap.objs.size f t).kindOf (ps.zip us) fun _=>none) F):
  Inv (Lb D P w K mg base N qual scope f t A outer s H E) [] (start N vs) H F:=by
 have L:ps.length<=N.length:=by have:=congrArg List.length S.pre;rw[List.length_take]at this;lia
 obtain⟨B,Q,rfl,G⟩:=x.done;have j:∀b:Addr,b∉(Lb D P w K mg base N qual scope f t A outer s H E).ex:=fun b z=>absurd (show b∈([]:List Addr)from z) (by simp);refine⟨⟨g.mod,S.kind,rfl,rfl,Nat.le_refl _,fun y z c B d=>?_,fun y l=>?_,fun y c _ h=>?_,fun _=>J,Around.frames_deeper g.frames,.inr ⟨rfl,rfl⟩,fun b z=>absurd z (j b),g.bs,g.Sb,fun b _ _=>j b,fun b z=>absurd z (j b),g.FK,g.Vb⟩,
  rfl,g.bare,Un.kept G,⟨_,x.toInCall.ns,fun i y v B d R=>?_⟩,fun y c h=>⟨_,x.cell y c h⟩,g.Ap.fresh (Nat.le_refl _),fun y c h=>?_,fun p m=>absurd (show p∈([]:List (Addr×Obj))from m) (by simp),g.Ap.kept G,?_⟩
 ·exact name_of_addr x.apart (PySem.mem_of_lookup B) (PySem.mem_of_lookup d)
 ·have l:scope.names.lookup y=some .cell∨scope.names.lookup y=some .free:=l;rcases l with l|l
  ·exact M' l
  ·exact absurd rfl (S.YQ _ (PySem.mem_of_lookup l))
 ·exact Nat.le_of_lt (x.above y c (PySem.mem_of_lookup h))
 ·have C:i<vs.length:=by
   unfold start at d;by_cases C:i<vs.length
   ·exact C
   ·rw[List.getElem?_append_right (by simpa using C)]at d;rw[List.getElem?_replicate]at d;split at d<;>cases d
  have M:vs[i]?=some v:=by
   unfold start at d;rw[List.getElem?_append_left (by simpa using C),List.getElem?_map]at d;cases e:vs[i]? with
   |none=>rw[e]at d;cases d
   |some a=>rw[e]at d;cases d;rfl
  obtain⟨u,I,O⟩:=r.get M;have m:ps[i]?=some y:=by
   rw[<-S.pre,List.getElem?_take_of_lt (by lia)];exact B
  have o:ps.Nodup:=by rw[<-S.pre];exact S.nd.sublist (List.take_sublist _ _)
  refine⟨u,O,?_⟩;rcases S.par y (rZ m)with k|k
  ·exact .inl ⟨k,Kh o m I k⟩
  ·obtain⟨c,e⟩:=M' (n:=s.heap.objs.size+1) k;refine .inr ⟨.inl k,c,e,?_⟩;have q:=x.cell y c e;rw[Ki o m I (by show scope.names.lookup y≠_;rw[k];decide)]at q;exact q
 ·exact g.Ap.fresh (Nat.le_of_lt (x.above y c (PySem.mem_of_lookup h)))
 ·unfold start;show _=N.length;rw[List.length_append,List.length_map,List.length_replicate];lia
theorem XR{m:Sd}{k:Nat}{f:Addr}{name qual:Str}{params:Arguments}{G kV doc pm a ct R:Value}{L T:Option Addr}{p:Array (Option Value)}{sp:Sp}(lk:K.lookup f=some ⟨R,T,.func (PySem.W.fnOf name qual params body scope G kV doc pm L a ct),p⟩)(z:PySem.W.codeIn K a qual=true)(S:AW N ps scope)(len:∀vs H Q E,sp vs H Q E->vs.length=ps.length)(g:∀(A:Around) (outer:List Env) (s:Shared) (H:Hp) (vs:List V) (Q:VK) (E:XK),BQ k (A.deeper (envOfC qual scope s.heap.objs.size f a))->sp vs H Q E->
   ∃t,Om (Lb m P w K mg base N qual scope f a A outer s H E) body t/\t {nx:=fun _ d=>Q .Ai d,rt:=Q} (start N vs) H):
  Ac P w K mg base m (k+1) f (PySem.W.fnOf name qual params body scope G kV doc pm L a ct) ps sp:=by
 refine⟨len,fun A outer s H args U vs Q E B j X r l=>?_⟩;have Y:=len _ _ _ _ l;have M:K.In s.heap:=j.mod.YC.keeps fun b o e=>(j.bs b o e).1;have C:s.heap.NoLimit:=j.mod.nolimit.keeps fun b o e=>(j.bs b o e).1;have h:∀y∈ps.zip U,scope.names.lookup y.1=some .local∨(scope.names.lookup y.1=some .cell/\((cellsFrom (s.heap.objs.size+1) scope.names []).lookup y.1).isSome=true):=fun⟨n,v⟩ Z=>by
  rcases S.par n (List.of_mem_zip Z).1 with q|q
  ·exact .inl q
  ·exact .inr ⟨q,PySem.W.cellsFrom_some _ _ _ (.inl q)⟩
 refine codeAny_call_function B.depth (M _ _ lk) rfl S.co S.gen rfl (PySem.W.codeRec_of M z) (X _ _ _ _ ?_);refine wpAny_newFunctionEnv_cells S.kind h fun env he O x=>?_;subst he;refine⟨C.keeps x.toInCall.keep,codeAny_func ?_⟩;obtain⟨t,ht,hq⟩:=g A outer s H vs Q E (B.deeper _) l;have I:Inv (Lb m P w K mg base N qual scope f a A outer s H E) [] (start N vs) H O:=RO S B.hd j Y r x;refine wpAny_mono (ht [] O (start N vs) H _ I hq) (fun fl D i=>?_) fun e D i=>i;have fin:∀{c:St}{d:Hp}{v:V}{u:Value},Inv (Lb m P w K mg base N qual scope f a A outer s H E) [] c d D->RelV v u->Q v d->CE outer P w H s Q u D:=
  fun{c d v u} J F q=>⟨v,d,J.os,J.bare,J.base,J.Ap,F,q⟩
 cases fl with
 |ret u=>
  obtain⟨v,c,d,J,F,q⟩:=i;exact fin J F q
 |next=>
  obtain⟨c,d,J,q⟩:=i;exact fin (v:=V.Ai) (u:=Value.none) J rfl q
 |brk=>
  obtain⟨_,_,_,q⟩:=i;exact False.elim q
 |cont=>
  obtain⟨_,_,_,q⟩:=i;exact False.elim q
section
variable{X:Cx} {x:Str} {p pos:Pos} {e:Expr} {es:List Expr} {t:TA} {id T:String} {r:List V->Hp->VK->Prop}
def Zk(r:List V->Hp->VK->Prop)(t:TA):TE:=fun a H Q=>t a H fun b c=>r b c Q
theorem AR(d:BE X (.builtin id) r)(f:Gl X x)(g:X.mg x=none)(i:bootBuiltins x=some (.builtin id))(j:PA X (e::es) t)(k:x≠"__name__":=by decide)(a:(x==("__debug__":Str))=false:=by decide)(l:starEach (e::es) X.env=(false,eval e X.env)::starEach es X.env:=by rfl)(b:(backTo pos (starEach es X.env)).any (·.1)=false:=by rfl):PE X (.Call (.Name x p) (e::es) [] pos) (Zk r t):=by
 intro pins s c H Q I h;refine wpAny_Call_Name_kw (EN I f g i ?_ k a);exact PyProof.Rows.callWith_builtin1 (BH (j pos pins s c H _ I h) fun m n o=>o.elim fun q u v w y=>d pins n c u q m Q v w y) l b
theorem CN(d:BE X (.type T) r)(f:Gl X x)(g:X.mg x=none)(i:bootBuiltins x=some (.type T))(j:PA X (e::es) t)(k:x≠"__name__":=by decide)(a:(x==("__debug__":Str))=false:=by decide)(l:starEach (e::es) X.env=(false,eval e X.env)::starEach es X.env:=by rfl)(b:(backTo pos (starEach es X.env)).any (·.1)=false:=by rfl):PE X (.Call (.Name x p) (e::es) [] pos) (Zk r t):=by
 intro pins s c H Q I h;refine wpAny_Call_Name_kw (EN I f g i ?_ k a);exact PyProof.Rows.callWith_type1 (BH (j pos pins s c H _ I h) fun m n o=>o.elim fun q u v w y=>d pins n c u q m Q v w y) l b
end
end L2
namespace HT
open PySem PyProof.Rows
section
open PySem.SeqAt
open PySem.AutoSeq1 (wpAny_loadPart')
open PySem.MeetsSeq PySem.MeetsSeq2 PySem.MeetsSeq3
end
section
variable{prog:Program} {w:World} {A:Around} {E:Value->Shared->Prop} {s:Shared}
noncomputable def Gi(n d:Nat):Option Int->Nat
 |none=>d
 |some v=>if v<0 then(v+(n:Int)).toNat else min v.toNat n
theorem Lc(n d k:Nat):Gi n d (some (k:Int))=min k n:=by
 show(if(k:Int)<0 then((k:Int)+(n:Int)).toNat else min (k:Int).toNat n)=min k n;rw[if_neg (by lia),Int.toNat_natCast]
end
end HT
namespace L2
open PySem PySem.Spec PyProof.Rows
abbrev TO:=St->Hp->(Option Int->Hp->Prop)->Prop
def PO(X:Cx)(e:Option Expr)(t:TO):Prop:=
 ∀(pins:List (Addr×Obj))(s:Shared)(a:St)(H:Hp)(Q:Option Int->Hp->Prop),Inv X pins a H s->t a H Q->
  wpAny (model X.prog X.w) X.A (evalPart e X.env) (fun u c=>∃o b,Inv X pins a b c/\IsPart u o/\Q o b) X.xe s
def Vt:TO:=fun _ H Q=>Q none H
def aM(t:TE):TO:=fun a H Q=>t a H fun x b=>kU x b Q
section
variable{X:Cx} {e:Expr} {te:TE} {lo hi:Option Expr} {tl th:TO} {pos p2:Pos}
theorem Fh:PO X none Vt:=by
 intro pins s a H Q I h;rw[evalPart_none];exact wpAny_pure ⟨none,H,I,.none,h⟩
theorem Dv(h:PE X e te):PO X (some e) (aM te):=by
 intro pins s a H Q I hw;rw[evalPart_some];refine BH (h pins s a H _ I hw) fun u j b=>b.elim fun x c d f g=>?_;obtain⟨i,rfl,q⟩:=g;obtain⟨t,rfl⟩:=f;exact⟨some i,c,d,.int i t,q⟩
def eC(X:Cx)(r:V->Option Int->Option Int->Hp->VK->Prop):Prop:=
 ∀(pins:List (Addr×Obj))(s:Shared)(a:St)(H:Hp)(x:V)(v b c:Value)(lo hi:Option Int)(d:Addr)(Q:VK),Inv X pins a H s->RelV x v->s.heap.IsSliceOf d b c .none->IsPart b lo->IsPart c hi->r x lo hi H Q->
  ∃T id,typeLookup (.type T) "__getitem__"=pure (some (.builtin id))/\s.TypeIs v T/\wpAny (model X.prog X.w) X.A (getItem v (.ref d)) (EP X pins a Q) X.xe s
def kh(r:V->Option Int->Option Int->Hp->VK->Prop)(te:TE)(tl th:TO):TE:=fun a H Q=>te a H fun x b=>tl a b fun l c=>th a c fun u d=>r x l u d Q
theorem DY{r:V->Option Int->Option Int->Hp->VK->Prop}(i:eC X r)(j:PE X e te)(hl:PO X lo tl)(k:PO X hi th):PE X (.Subscript e (.Slice lo hi none p2) pos) (kh r te tl th):=by
 intro pins s c H Q I h;refine Subscript_ (BH (j pins s c H _ I h) fun v m n=>n.elim fun x o p t y=>?_);refine wpAny_Slice (BH (hl pins m c o _ p y) fun d z ⟨l,B,C,D,E⟩=>BH (k pins z c B _ C E) fun f a ⟨u,g,F,G,J⟩=>?_);rw[evalPart_none];refine wpAny_pure ?_;have K:Inv X pins c g {a with heap:=a.heap.push {cls:=.type "slice",data:=.fields #[d,f,.none]}}:=F.kept (t':=a.toks) fun b O q=>Heap.get?_push_of_some _ q;obtain⟨T,id,L,M,N⟩:=i pins {a with heap:=a.heap.push {cls:=.type "slice",data:=.fields #[d,f,.none]}} c g x v d f l u a.heap.objs.size Q K t (Heap.IsSliceOf.new ..) D G J;show wpAny (model X.prog X.w) X.A (subscriptTail e (.Slice lo hi none p2) v (.ref a.heap.objs.size)) (EP X pins c Q) X.xe {a with heap:=a.heap.push {cls:=.type "slice",data:=.fields #[d,f,.none]}};exact tail_any (ops:=[.ref a.heap.objs.size,v]) M L N (by with_unfolding_all rfl)
def Ld(xs:List V)(lo hi:Option Int):List V:=(xs.drop (HT.Gi xs.length 0 lo)).take (HT.Gi xs.length xs.length hi-HT.Gi xs.length 0 lo)
theorem NA(xs:List V)(lo hi:Option Int):(Ld xs lo hi).length<=xs.length:=by
 unfold Ld;rw[List.length_take,List.length_drop];lia
end
def Se(n:Nat)(i:Int):Option Nat:=if 0<=i then(if i<n then some i.toNat else none)else if-(n:Int)<=i then some (i+n).toNat else none
def Oo{a:Type}(xs:List a)(i:Int):Option a:=(Se xs.length i).bind fun j=>xs[j]?
variable{n:Nat}
theorem IF{i:Int}{j:Nat}(h:Se n i=some j):seqIndex? i n=some j/\j<n/\ -(n:Int)<=i/\i<n:=by
 unfold Se at h;by_cases b:0<=i
 ·rw[if_pos b]at h;by_cases a:i<n
  ·rw[if_pos a]at h;have e:i.toNat=j:=rY h;exact⟨by rw[seqIndex_of b a,e],by lia,by lia,a⟩
  ·rw[if_neg a]at h;cases h
 ·rw[if_neg b]at h;by_cases a: -(n:Int)<=i
  ·rw[if_pos a]at h;have e:(i+n).toNat=j:=rY h;exact⟨by rw[seqIndex_neg (by lia) a,e],by lia,a,by lia⟩
  ·rw[if_neg a]at h;cases h
variable{a:Type}
theorem IG{xs:List a}{i:Int}{v:a}(h:Oo xs i=some v):∃j,seqIndex? i xs.length=some j/\xs[j]?=some v/\j<xs.length/\ -(xs.length:Int)<=i/\i<xs.length:=by
 unfold Oo at h;cases e:Se xs.length i with
 |none=>rw[e]at h;cases h
 |some j=>
  rw[e]at h;obtain⟨b,c,d,f⟩:=IF e;exact⟨j,b,h,c,d,f⟩
theorem Ao{xs:List a}{j:Nat}{v:a}(h:xs[j]?=some v):Oo xs (j:Int)=some v:=by
 have b:j<xs.length:=(rX h).1;have e:Se xs.length (j:Int)=some j:=by
  unfold Se;rw[if_pos (by lia),if_pos (by lia)];simp
 unfold Oo;rw[e];exact h
def QL(b:Expr):Prop:=∀o i,subscripted b false o i=operate [o,i] (getItem o i)
def cU(X:Cx)(r:R2):Prop:=
 ∀(value slice:Expr)(pins:List (Addr×Obj))(s:Shared)(a:St)(H:Hp)(x y:V)(v u:Value)(Q:VK),Inv X pins a H s->RelV x v->RelV y u->r x y H Q->
  subscripted slice false v u=operate [v,u] (getItem v u)->wpAny (model X.prog X.w) X.A (subscriptTail value slice v u) (EP X pins a Q) X.xe s
def eD(X:Cx)(id:String)(r:V->List V->Hp->VK->Prop):Prop:=
 ∀(pins:List (Addr×Obj))(s:Shared)(a:St)(H:Hp)(x:V)(b:List V)(v:Value)(c:List Value)(Q:VK),Inv X pins a H s->RelV x v->Vals b c->r x b H Q->
  wpAny (model X.prog X.w) X.A (call (.builtin id) (v::c)) (EP X pins a Q) X.xe s
variable{pins:List (Addr×Obj)}{s:Shared}{u:Value}{H:Hp}{its:List Value}{y x:V}{A:Around}
section
variable{X:Cx} {a b:Expr} {ta tb:TE} {pos:Pos}
theorem NB{r:R2}(c:cU X r)(d:PE X a ta)(e:PE X b tb)(f:QL b):PE X (.Subscript a b pos) (Sx r ta tb):=by
 intro pins s g H Q I h;exact Subscript_ (YK d e I h fun v u i x y j k l m q=>c a b pins i g j x y v u Q k l m q (f _ _))
inductive aN(K:rg)(x y:V)(H:Hp)(Q:VK):Prop
 |mk(p xs i v:_)(c:x=.ref p)(d:y=.int i)(e:Aq K H p xs)(f:Oo xs i=some v)(g:Q v H)
def Vu(K:rg):R2:=fun x y H Q=>aN K x y H Q
inductive aO(K:rg)(x y:V)(H:Hp)(Q:VK):Prop
 |mk(p xs i v:_)(c:x=.ref p)(d:y=.int i)(e:Bm K H p xs)(f:Oo xs i=some v)(g:Q v H)
def Vv(K:rg):R2:=fun x y H Q=>aO K x y H Q
inductive aP(x y:V)(H:Hp)(Q:VK):Prop
 |mk(z i c:_)(d:x=.str z)(e:y=.int i)(f:z.length<=sizeLine)(g:Oo z.cps.toList i=some c)(h:Q (.str ⟨#[c]⟩) H)
def eE:R2:=fun x y H Q=>aP x y H Q
theorem Vw:cU X (Vu X.K):=by
 intro value slice pins s k H x y v u Q I o A h l;obtain⟨p,L,i,z,rfl,rfl,B,C,q⟩:=h;cases o;obtain⟨t,rfl⟩:=A;obtain⟨d,r,e,M⟩:=I.list B;obtain⟨j,c,D,N,E,F⟩:=IG C;obtain⟨w,m,f⟩:=r.get D;have G:=r.length;have O:=FN;have fin:EP X pins k Q w s:=⟨z,H,I,f,q⟩;by_cases n:0<=i
 ·have g:i.toNat=j:=by
   rw[seqIndex_of n F]at c;exact rY c
  exact item_listR e.isList n (by lia) (by rw[g];simpa using m) fin l
 ·have g:(i+(d.toArray.size:Int)).toNat=j:=by
   rw[seqIndex_neg (by lia) E]at c;rw[List.size_toArray,<-G];exact rY c
  exact subscriptTail_builtinR (x:=w) e.isList.typeIs slot_list_getitem.lookup (wpAny_getItem_list_neg (Q:=fun r J=>r=w/\EP X pins k Q r J) e.isList (by lia) (by rw[List.size_toArray]<;>lia) (by lia) (by rw[g];simpa using m) ⟨rfl,fin⟩) l
theorem YR:cU X (Vv X.K):=by
 intro value slice pins s d H x y v u Q I f g h k;obtain⟨p,E,i,z,rfl,rfl,l,m,q⟩:=h;cases f;obtain⟨t,rfl⟩:=g;obtain⟨n,r,e,F⟩:=I.tuple l;obtain⟨j,o,A,G,J,L⟩:=IG m;obtain⟨w,B,c⟩:=r.get A;have C:=r.length;have M:=FN;have fin:EP X pins d Q w s:=⟨z,H,I,c,q⟩;exact subscriptTail_builtinR (x:=w) e.typeIs slot_tuple_getitem.lookup (getItem_tuple (j:=j) (Q:=fun r D=>r=w/\EP X pins d Q r D) e (by lia) (by lia) (by rw[List.size_toArray,<-C];exact o) (by simpa using B) ⟨rfl,fin⟩) k
theorem PH:cU X eE:=by
 intro value slice pins s w H x y v u Q I e f h g;obtain⟨z,i,c,rfl,rfl,A,k,q⟩:=h;obtain⟨t,rfl⟩:=e;obtain⟨B,rfl⟩:=f;obtain⟨j,d,l,C,m,n⟩:=IG k;have o:z.cps.toList.length=z.length:=by simp[Str.length]
 rw[o]at d m n;have D:=FN;exact tail_any (typeIs_str s z t) slot_str_getitem.lookup (getItem_str (c:=c) (by
  have p:decide (i< -(2 ^ 63:Int))=false:=decide_eq_false (by lia);have r:decide (i≥2 ^ 63)=false:=decide_eq_false (by lia);rw[p,r,Bool.or_false]) (by rw[d];simpa using l) ⟨.str ⟨#[c]⟩,H,I.tok _,⟨_,rfl⟩,q⟩) g
theorem PJ(its:List Value)(n j:Nat)(u:Value):Obj.mapSeq (·.setIfInBounds j u) {cls:=.type "list",data:=.seq its.toArray n}={cls:=.type "list",data:=.seq (its.set j u).toArray n}:=by
 simp[Obj.mapSeq]
theorem Inv.lst{pins:List (Addr×Obj)}{c:St}{H:Hp}{s:Shared}{p:Addr}{xs:List V}(I:Inv X pins c H s)(h:H p=some (.lst xs)):
  ∃(its:List Value)(n:Nat),Vals xs its/\s.heap.get? p=some {cls:=.type "list",data:=.seq its.toArray n}/\xs.length<=sizeLine:=by
 obtain⟨z,its,n,r,e⟩:=I.Ap p _ h;exact⟨its,n,r,e,z⟩
theorem Inv.YS{d:St}{p:Addr}{xs ys:List V}{its':List Value}{c:Nat}{f:Obj->Obj}(I:Inv X pins d H s)(h:H p=some (.lst xs))(i:s.heap.get? p=some {cls:=.type "list",data:=.seq its.toArray n})(g:f {cls:=.type "list",data:=.seq its.toArray n}={cls:=.type "list",data:=.seq its'.toArray c})(r:Vals ys its')(j:ys.length<=sizeLine)(t:Nat):
  Inv X pins d (upd H p (.lst ys)) {s with heap:=s.heap.update p f,toks:=t}:=by
 have e:(s.heap.update p f).get? p=some {cls:=.type "list",data:=.seq its'.toArray c}:=by
  rw[Heap.get?_update_self f i (by rw[g]<;>rfl),g]
 refine I.write (x:=p) (e:=p) (by rw[h];trivial) (.inl rfl) (fun b u k q=>(Heap.get?_update_other _ _ (Ne.symm k)).trans q) ⟨_,e⟩ ?_;exact⟨j,its',c,r,e⟩
inductive YT(o i v:V)(H:Hp)(Q:(Hp->Prop)):Prop
 |mk(p xs k j:_)(c:o=.ref p)(d:i=.int k)(e:H p=some (.lst xs))(f:Se xs.length k=some j)(g:Q (upd H p (.lst (xs.set j v))))
def aQ:V->V->V->Hp->(Hp->Prop)->Prop:=fun o i v H Q=>YT o i v H Q
theorem set_list:aA X aQ:=by
 intro pins s z H o i v ov G u Q I A B C h;obtain⟨p,D,k,j,rfl,rfl,l,E,q⟩:=h;cases A;obtain⟨t,rfl⟩:=B;obtain⟨c,n,r,e,F⟩:=I.lst l;obtain⟨d,J,m,w⟩:=IF E;have f:=r.length;have K:=FN;have x:Inv X pins z (upd H p (.lst (D.set j v))) {s with heap:=s.heap.update p (Obj.mapSeq (·.setIfInBounds j u))}:=
  I.YS l e (PJ c n j u) (r.set C j) (by rw[List.length_set];exact F) s.toks
 by_cases y:0<=k
 ·have g:k.toNat=j:=by
   rw[seqIndex_of y w]at d;exact rY d
  exact PySem.W.ki_setAt e y (by lia) (by rw[List.size_toArray,<-f];exact w) (by rw[g];exact⟨_,x,q⟩)
 ·have g:(k+(c.toArray.size:Int)).toNat=j:=by
   rw[seqIndex_neg (by lia) m]at d;rw[List.size_toArray,<-f];exact rY d
  exact PySem.W.ki_setBack e (by lia) (by rw[List.size_toArray,<-f];exact m) (by lia) (by rw[g];exact⟨_,x,q⟩)
theorem Le(lo c:Option Int)(n:Nat):(sliceBounds lo c none n).1=((HT.Gi n 0 lo:Nat):Int)/\(sliceBounds lo c none n).2.1=((HT.Gi n n c:Nat):Int)/\(sliceBounds lo c none n).2.2=1:=by
 refine⟨?_,?_,rfl⟩
 ·cases lo with
  |none=>simp[sliceBounds,HT.Gi]
  |some i=>
   simp only[sliceBounds,HT.Gi,Option.getD_none,show(1:Int)>0 by decide,if_true];by_cases h:i<0
   ·simp only[h,if_true]<;>lia
   ·simp only[h,if_false]<;>lia
 ·cases c with
  |none=>simp[sliceBounds,HT.Gi]
  |some i=>
   simp only[sliceBounds,HT.Gi,Option.getD_none,show(1:Int)>0 by decide,if_true];by_cases h:i<0
   ·simp only[h,if_true]<;>lia
   ·simp only[h,if_false]<;>lia
theorem KJ(its:List Value)(lo c:Option Int):slicePick its.toArray lo c none=((its.drop (HT.Gi its.length 0 lo)).take (HT.Gi its.length its.length c-HT.Gi its.length 0 lo)).toArray:=by
 obtain⟨d,e,f⟩:=Le lo c its.toArray.size;unfold slicePick;rw[d,e,f];simp only[sliceRange_one,pick_run,List.size_toArray]<;>rfl
inductive aR(K:rg)(x:V)(lo c:Option Int)(H:Hp)(Q:VK):Prop
 |mk(a xs:_)(d:x=.ref a)(e:Aq K H a xs)(f:∀p,H p=none->Q (.ref p) (upd H p (.lst (Ld xs lo c))))
def YU(K:rg):V->Option Int->Option Int->Hp->VK->Prop:=fun x lo c H Q=>aR K x lo c H Q
theorem QM:eC X (YU X.K):=by
 intro pins s n H x v p t lo d u Q I f g i j h;obtain⟨a,c,rfl,k,q⟩:=h;cases f;obtain⟨l,r,e,m⟩:=I.list k;have hlen:=r.length;refine⟨"list",_,slot_list_getitem.lookup,e.isList.typeIs,?_⟩;refine wpAny_getItem_list_slice e.isList g i j .none (by simp) ?_ (by rw[List.size_toArray]<;>lia);rw[KJ,<-hlen];refine⟨.ref s.heap.objs.size,_,I.laid (t':=s.toks) (o:=.lst (Ld c lo d)) (fun b w q=>Heap.get?_push_of_some _ q) (Nat.le_refl _) ?_,rfl,q _ (I.Ap.fresh (Nat.le_refl _))⟩;exact⟨Nat.le_trans (NA c lo d) m,_,0,(r.drop (HT.Gi c.length 0 lo)).take (HT.Gi c.length c.length d-HT.Gi c.length 0 lo),Heap.get?_push_size _ rfl⟩
noncomputable def E_:V->Bool
 | .Ai=>true
 | .bl _=>true
 | .int _=>true
 | .str _=>true
 |_=>false
noncomputable def Sf:V->V->Bool
 | .Ai,.Ai=>true
 | .bl a,.bl b=>a==b
 | .bl a,.int b=>(if a then 1 else 0)==b
 | .int a,.bl b=>a==(if b then 1 else 0)
 | .int a,.int b=>a==b
 | .str a,.str b=>a==b
 |_,_=>false
theorem YV{v:Value}(e:RelV y u)(c:RelV x v)(g:E_ y=true)(f:E_ x=true):SeqAt.EqAt A s u v (Sf y x):=by
 cases y with
 |Ai=>
  cases e;cases x with
  |Ai=>cases c;exact SeqAt.EqAt.same _
  |bl b=>cases c;exact SeqAt.EqAt.none_bool b
  |int b=>obtain⟨t,rfl⟩:=c;exact SeqAt.EqAt.none_int b t
  |str b=>obtain⟨t,rfl⟩:=c;exact SeqAt.EqAt.none_str b t
  |_=>exact absurd (show false=true from f) Bool.false_ne_true
 |bl a=>
  cases e;cases x with
  |Ai=>cases c;exact SeqAt.EqAt.bool_none a
  |bl b=>cases c;exact SeqAt.EqAt.bool_bool a b
  |int b=>obtain⟨t,rfl⟩:=c;exact SeqAt.EqAt.bool_int a b t
  |str b=>obtain⟨t,rfl⟩:=c;exact SeqAt.EqAt.bool_str a b t
  |_=>exact absurd (show false=true from f) Bool.false_ne_true
 |int a=>
  obtain⟨d,rfl⟩:=e;cases x with
  |Ai=>cases c;exact SeqAt.EqAt.int_none a d
  |bl b=>cases c;exact SeqAt.EqAt.int_bool a d b
  |int b=>obtain⟨t,rfl⟩:=c;exact SeqAt.EqAt.int_int a d b t
  |str b=>obtain⟨t,rfl⟩:=c;exact SeqAt.EqAt.int_str a d b t
  |_=>exact absurd (show false=true from f) Bool.false_ne_true
 |str a=>
  obtain⟨d,rfl⟩:=e;cases x with
  |Ai=>cases c;exact SeqAt.EqAt.str_none a d
  |bl b=>cases c;exact SeqAt.EqAt.str_bool a d b
  |int b=>obtain⟨t,rfl⟩:=c;exact SeqAt.EqAt.str_int a d b t
  |str b=>obtain⟨t,rfl⟩:=c;exact SeqAt.EqAt.str_str a d b t
  |_=>exact absurd (show false=true from f) Bool.false_ne_true
 |_=>exact absurd (show false=true from g) Bool.false_ne_true
def Vx(x:V)(u:Value):Bool:=match u with
 | .none=>Sf .Ai x
 | .bool b=>Sf (.bl b) x
 | .int i _=>Sf (.int i) x
 | .str z _=>Sf (.str z) x
 |_=>false
theorem TK(r:RelV y u)(f:E_ y=true):Vx x u=Sf y x:=by
 cases y with
 |Ai=>cases r;rfl
 |bl b=>cases r;rfl
 |int i=>obtain⟨t,rfl⟩:=r;rfl
 |str z=>obtain⟨t,rfl⟩:=r;rfl
 |_=>exact absurd (show false=true from f) Bool.false_ne_true
theorem Lg{x:V}:∀{xs:List V}{us:List Value},Vals xs us->xs.all E_=true->us.any (Vx x)=xs.any fun y=>Sf y x
 |_,_,.nil,_=>rfl
 |y::xs,u::us,.cons r t,f=>by
  rw[List.all_cons,Bool.and_eq_true]at f;rw[List.any_cons,List.any_cons,TK r f.1,Lg t f.2]
theorem Il{A:Around}{s:Shared}{x:V}{v:Value}(d:RelV x v)(e:E_ x=true):∀{xs:List V}{us:List Value},Vals xs us->xs.all E_=true->∀u∈us,SeqAt.EqAt A s u v (Vx x u)
 |_,_,.nil,_=>fun u c=>by cases c
 |y::xs,u::us,.cons r t,f=>fun u' c=>by
  rw[List.all_cons,Bool.and_eq_true]at f;rcases List.mem_cons.mp c with rfl|c
  ·rw[TK r f.1];exact YV r d f.1 e
  ·exact Il d e t f.2 u' c
def Sg(x:V)(xs:List V):Bool:=xs.any fun y=>Sf y x
inductive eF(K:rg)(c:Bool)(x y:V)(H:Hp)(Q:VK):Prop
 |mk(p xs:_)(d:y=.ref p)(e:(Aq K H p xs∨Bm K H p xs))(f:E_ x=true)(g:xs.all E_=true)(h:Q (.bl (if c then !Sg x xs else Sg x xs)) H)
def aS(K:rg)(c:Bool):R2:=fun x y H Q=>eF K c x y H Q
theorem Eg:ET X (compareOp .In) (aS X.K false):=by
 intro pins s k H x y v u Q I f i h;obtain⟨p,l,rfl,d,g,fs,q⟩:=h;cases i;rcases d with d|d
 ·obtain⟨c,r,e,j⟩:=I.list d;refine SeqAt.in_listAt (Vx x) e.isList (fun w hw=>Il f g r fs w (by simpa using hw)) ⟨.bl _,H,I,rfl,?_⟩;rw[show c.toArray.any (Vx x)=c.any (Vx x)by simp,Lg r fs];exact q
 ·obtain⟨c,r,e,j⟩:=I.tuple d;refine SeqAt.in_tupleAt (Vx x) e (fun w hw=>Il f g r fs w (by simpa using hw)) ⟨.bl _,H,I,rfl,?_⟩;rw[show c.toArray.any (Vx x)=c.any (Vx x)by simp,Lg r fs];exact q
inductive Hl(K:rg)(xs:List V)(H:Hp)(Q:VK):Prop
 |mk(p ys:_)(c:xs=[.ref p])(d:(Aq K H p ys∨Bm K H p ys))(e:Q (.int ys.length) H)
def DA(K:rg):List V->Hp->VK->Prop:=fun c H Q=>Hl K c H Q
theorem Lh:BE X (.builtin "len") (DA X.K):=by
 intro pins s k H l m Q I r h;obtain⟨p,g,rfl,c,q⟩:=h;obtain⟨u,rfl,i⟩:=vals1 r;cases i;have n:=FN;rcases c with c|c
 ·obtain⟨d,e,f,j⟩:=I.list c;have hlen:=e.length;exact Calls.call_len_list f.isList (by simp only[List.size_toArray]<;>lia) ⟨.int g.length,H,I.tok _,⟨s.toks+1,by rw[List.size_toArray,hlen]⟩,q⟩
 ·obtain⟨d,e,f,j⟩:=I.tuple c;have hlen:=e.length;exact len_tuple f (by simp only[List.size_toArray]<;>lia) ⟨.int g.length,H,I.tok _,⟨s.toks+1,by rw[List.size_toArray,hlen]⟩,q⟩
inductive Ho(xs:List V)(H:Hp)(Q:VK):Prop
 |mk(z:_)(c:xs=[.str z])(d:z.length<=sizeLine)(e:Q (.int z.length) H)
def Im:List V->Hp->VK->Prop:=fun c H Q=>Ho c H Q
theorem Li:BE X (.builtin "len") Im:=by
 intro pins s c H d e Q I r h;obtain⟨z,rfl,f,q⟩:=h;obtain⟨u,rfl,t,rfl⟩:=vals1 r;have g:=FN;exact len_str (by lia) ⟨.int z.length,H,I.tok _,⟨_,rfl⟩,q⟩
inductive Hq(K:rg)(xs:List V)(H:Hp)(Q:VK):Prop
 |mk(p ys:_)(c:xs=[.ref p])(d:(Aq K H p ys∨Bm K H p ys))(e:∀l,H l=none->Q (.ref l) (upd H l (.lst ys)))
def Io(K:rg):List V->Hp->VK->Prop:=fun c H Q=>Hq K c H Q
theorem Fi:BE X (.type "list") (Io X.K):=by
 intro pins s z H B C Q I r h;obtain⟨p,l,rfl,i,q⟩:=h;obtain⟨u,rfl,A⟩:=vals1 r;cases A;have fin:∀(c:List Value),Vals l c->l.length<=sizeLine->∀(d:Heap)(f:Nat),(∀b y,s.heap.get? b=some y->d.get? b=some y)->
   d.get? s.heap.objs.size=some {cls:=.type "list",dict:=none,data:=.seq c.toArray f,slots:= #[]}->EP X pins z Q (.ref s.heap.objs.size) {s with heap:=d}:=fun c g j d f k e=>
  ⟨.ref s.heap.objs.size,_,I.laid (t':=s.toks) k (Nat.le_refl _) (show Aj X.prog X.w _ d _ (.lst l)from⟨j,c,f,g,e⟩),rfl,q _ (I.Ap.fresh (Nat.le_refl _))⟩
 rcases i with i|i
 ·obtain⟨c,g,m,j⟩:=I.list i;have hlen:=g.length;obtain⟨o,t,v,n,x⟩:=m.isList;exact call_list_seq p (.inl rfl) t v x (fun d f k e=>fin c g j d f k e) (by simp only[List.size_toArray]<;>lia)
 ·obtain⟨c,g,m,j⟩:=I.tuple i;have hlen:=g.length;obtain⟨o,t,v,n,x⟩:=m;exact call_list_seq p (.inr rfl) t v x (fun d f k e=>fin c g j d f k e) (by simp only[List.size_toArray]<;>lia)
inductive Gj(K:rg)(xs:List V)(H:Hp)(Q:VK):Prop
 |mk(p ys:_)(c:xs=[.ref p])(d:((Aq K H p ys/\∀l,H l=none->Q (.ref l) (upd H l (.tup ys)))∨(Bm K H p ys/\Q (.ref p) H)))
def Hr(K:rg):List V->Hp->VK->Prop:=fun c H Q=>Gj K c H Q
theorem KL:BE X (.type "tuple") (Hr X.K):=by
 intro pins s j H x y Q I r h;obtain⟨p,k,rfl,h⟩:=h;obtain⟨u,rfl,n⟩:=vals1 r;cases n;rcases h with⟨f,q⟩|⟨f,q⟩
 ·obtain⟨c,g,i,l⟩:=I.list f;have hlen:=g.length;refine call_tuple_list i.isList (fun d t=>?_) (by simp only[List.size_toArray]<;>lia);have m:Inv X pins j H {s with heap:=d}:=I.kept (t':=s.toks) t;have v:Inv X pins j (upd H d.objs.size (.tup k)) {s with heap:=d.push {cls:=.type "tuple",data:=.seq c.toArray}}:=
   m.laid (t':=s.toks) (fun b o e=>Heap.get?_push_of_some _ e) (Nat.le_refl _) (show Aj X.prog X.w _ _ _ (.tup k)from⟨l,c,g,IsTup.new _ _⟩)
  exact⟨.ref d.objs.size,_,v,rfl,q _ (m.Ap.fresh (Nat.le_refl _))⟩
 ·obtain⟨c,g,i,l⟩:=I.tuple f;exact call_tuple_same i ⟨.ref p,H,I,rfl,q⟩
def eG(K:rg)(T:String)(x:V)(H:Hp):Prop:=match x with
 | .str _=>T="str"
 | .int _=>T="int"
 | .ref p=>(T="list"/\∃c,Aq K H p c)∨(T="tuple"/\∃o,K.lookup p=some o/\o.cls=.type "tuple"/\o.dict=none)∨ (T="dict"/\((∃kvs,H p=some (.dK kvs))∨∃kvs,H p=some (.dT kvs)))∨(T="set"/\∃S n,H p=some (.set S n))
 |_=>False
theorem TL{l:St}{T:String}{v:Value}(I:Inv X pins l H s)(r:RelV x v)(ty:eG X.K T x H):
  s.TypeIs v T/\∀a,v=.ref a->∃j,s.heap.get? a=some j/\j.dict=none:=by
 cases x with
 |str z=>
  obtain⟨t,rfl⟩:=r;cases(show T="str"from ty);exact⟨typeIs_str s z t,fun _ e=>nomatch e⟩
 |int i=>
  obtain⟨t,rfl⟩:=r;cases(show T="int"from ty);exact⟨typeIs_int s i t,fun _ e=>nomatch e⟩
 |ref p=>
  cases r;rcases ty with⟨rfl,w,m⟩|⟨rfl,o,d,q,g⟩|⟨rfl,d⟩|⟨rfl,S,n,d⟩
  ·obtain⟨u,_,k,_⟩:=I.list m;refine⟨k.isList.typeIs,fun a e=>?_⟩;cases e;obtain⟨o,n,e,c,g,_⟩:=k;exact⟨o,e,g⟩
  ·refine⟨⟨o,I.Dq p o d,q⟩,fun a e=>?_⟩;cases e;exact⟨o,I.Dq _ o d,g⟩
  ·have z:∃o,s.heap.get? p=some o/\o.ExactDict:=by
    rcases d with⟨kvs,d⟩|⟨kvs,d⟩
    ·obtain⟨_,_,_,_,o,_,_,e,f,_⟩:=I.Ap p _ d;exact⟨o,e,f⟩
    ·obtain⟨_,_,_,_,o,_,_,e,f,_⟩:=I.Ap p _ d;exact⟨o,e,f⟩
   obtain⟨o,e,f⟩:=z;refine⟨⟨o,e,f.1⟩,fun a h=>?_⟩;cases h;exact⟨o,e,f.2.1⟩
  ·obtain⟨o,_,_,_,e,f,_⟩:=I.Ap p _ d;refine⟨⟨o,e,f.1⟩,fun a h=>?_⟩;cases h;exact⟨o,e,f.2.1⟩
 |_=>exact False.elim ty
def eI(K:rg)(T:String)(r:V->List V->Hp->VK->Prop)(d:TE):TE:=fun e H Q=>d e H fun x c=>eG K T x c/\r x [] c Q
def i_(K:rg)(T:String)(r:V->List V->Hp->VK->Prop)(e:TE)(t:TA):TE:=fun c H Q=>e c H fun x d=>eG K T x d/\t c d fun f g=>r x f g Q
variable{o e:Expr} {es:List Expr} {to:TE} {t:TA} {name:Str} {apos Ca:Pos} {T id:String} {r:V->List V->Hp->VK->Prop}
theorem YW(k:PlainAttrs T)(slot:Slot T name id)(f:typeOf (.builtin id)=pure (.type "method_descriptor"))(l:eD X id r)(m:PE X o to)(c:attributeBase o name X.env (eval o X.env)=eval o X.env:=by rfl)(d:(apos.endLine==Ca.line)=true:=by rfl):PE X (.Call (.Attribute o name apos) [] [] Ca) (eI X.K T r to):=by
 intro pins s g H Q I h;refine wpAny_Call_method0_late c d (BH (m pins s g H _ I h) fun v n ⟨x,p,i,j,ty,q⟩=>?_);obtain⟨u,w⟩:=TL i j ty;exact⟨T,id,k,slot,f,u,w,Calls.callWith_builtin rfl (PySem.evalArgs_none (l pins n g p x [] v [] Q i j .nil q))⟩
theorem DZ(n:PlainAttrs T)(slot:Slot T name id)(i:typeOf (.builtin id)=pure (.type "method_descriptor"))(p:eD X id r)(q:PE X o to)(u:PA X (e::es) t)(d:attributeBase o name X.env (eval o X.env)=eval o X.env:=by rfl)(g:((backTo Ca (starEach (e::es) X.env)).all (fun x=> !x.1)&&(backToKw Ca (keywordEach [] X.env)).all (fun x=>x.1.isSome)
   &&decide ((e::es).length+([]:List Keyword).length+(if([]:List Keyword).isEmpty then 0 else 1)<30))=true:=by rfl)(f:(apos.endLine==Ca.line)=true:=by rfl)(w:starEach (e::es) X.env=(false,eval e X.env)::starEach es X.env:=by rfl)(c:(backTo Ca (starEach es X.env)).any (·.1)=false:=by rfl):
  PE X (.Call (.Attribute o name apos) (e::es) [] Ca) (i_ X.K T r to t):=by
 intro pins s j H Q I h;refine wpAny_Call_method_late d g f rfl (BH (q pins s j H _ I h) fun v y ⟨x,z,k,l,ty,A⟩=>?_);obtain⟨B,C⟩:=TL k l ty;refine⟨T,id,n,slot,i,B,C,?_⟩;have m:=u Ca pins y j z _ k A;rw[w]at m⊢;refine Calls.callWith_builtin (by show(false||(backTo Ca (starEach es X.env)).any (·.1))=false;rw[c]<;>rfl) (Calls.evalArgs_plain ?_);exact BH m fun D E F=>F.elim fun G J L M N=>p pins E j J x G v D Q L l M N
end
def aU(X:Cx)(id:String)(r:V->List V->Hp->VK->Prop):Prop:=
 ∀(pins:List (Addr×Obj))(s:Shared)(a:St)(H:Hp)(x:V)(b:List V)(v:Value)(c:List Value)(Q:VK),Inv X pins a H s->RelV x v->Vals b c->r x b H Q->
  wpAny (model X.prog X.w) X.A (call (.builtin id) (v::c)) (EP X pins a Q) X.xe s
variable{us:List Value}
theorem Vals.zero(r:Vals [] us):us=[]:=List.eq_nil_of_length_eq_zero (Paired.length r).symm
theorem Vals.one(r:Vals [x] us):∃u,us=[u]/\RelV x u:=by
 obtain⟨u,a,rfl,h,t⟩:=r.inv;rw[t.zero];exact⟨u,rfl,h⟩
theorem Vals.dropLast{xs:List V}(h:Vals xs us):Vals xs.dropLast us.dropLast:=by
 induction h with
 |nil=>exact .nil
 |cons r t a=>
  cases t with
  |nil=>exact .nil
  |cons q b=>exact .cons r a
theorem Vals.eraseIdx:∀{xs:List V}{us:List Value}(i:Nat),Vals xs us->Vals (xs.eraseIdx i) (us.eraseIdx i)
 |_,_,_,.nil=>.nil
 |_,_,0,.cons _ t=>t
 |_,_,i+1,.cons r t=>.cons r (Vals.eraseIdx i t)
theorem Vals.rep{xs:List V}{us:List Value}(h:Vals xs us):∀k:Nat,Vals (List.replicate k xs).flatten (List.replicate k us).flatten
 |0=>.nil
 |k+1=>by
  rw[List.replicate_succ,List.replicate_succ,List.flatten_cons,List.flatten_cons];exact Vals.append h (Vals.rep h k)
theorem PK(l:List a):l.eraseIdx (l.length-1)=l.dropLast:=List.eraseIdx_length_sub_one
theorem Kj{a:Type}:∀(l:List a)(i:Nat),(l.eraseIdx i).length<=l.length
 |[],_=>Nat.le_refl _
 |_::_,0=>Nat.le_succ _
 |_::r,i+1=>Nat.succ_le_succ (Kj r i)
theorem foldl_rep(its:List Value):∀(k:Nat)(a:List Value),
  List.foldl (fun b c=>b++c) a.toArray (List.replicate k its.toArray)=(a++(List.replicate k its).flatten).toArray
 |0,a=>by simp
 |k+1,a=>by
  have e:a.toArray++its.toArray=(a++its).toArray:=by simp
  have d:(a++its)++(List.replicate k its).flatten=a++(List.replicate (k+1) its).flatten:=by
   rw[List.replicate_succ,List.flatten_cons,List.append_assoc]
  rw[<-d,<-foldl_rep its k (a++its),<-e,List.replicate_succ,List.foldl_cons]
variable{t':Nat}
section
variable{X:Cx} {pins:List (Addr×Obj)} {σ:St} {H:Hp} {s:Shared} {l b:Addr} {xs ys zs:List V}
theorem Inv.Vy{its':List Value}{f:Array Value->Array Value}(I:Inv X pins σ H s)(a:H l=some (.lst xs))(e:s.heap.get? l=some {cls:=.type "list",data:=.seq its.toArray n})(c:f its.toArray=its'.toArray)(d:Vals ys its')(g:ys.length<=sizeLine):
  Inv X pins σ (upd H l (.lst ys)) {s with heap:=s.heap.update l (Obj.mapSeq f),toks:=t'}:=by
 have q:=PySem.IsL.update e f;rw[c]at q;refine I.write (x:=l) (e:=l) (by rw[a];exact trivial) (.inl rfl) (fun j u h i=>(Heap.get?_update_other s.heap (Obj.mapSeq f) (Ne.symm h)).trans i) ⟨_,q⟩ ?_;exact⟨g,its',_,d,q⟩
theorem Inv.Vz(I:Inv X pins σ H s)(a:Vals ys its)(c:ys.length<=sizeLine):
  Inv X pins σ (upd H s.heap.objs.size (.lst ys)) {s with heap:=s.heap.push {cls:=.type "list",data:=.seq its.toArray},toks:=t'}:=
 I.laid (fun _ _ q=>Heap.get?_push_of_some _ q) (Nat.le_refl _) ⟨c,its,0,a,Heap.get?_push_size _ rfl⟩
theorem Inv.fresh(I:Inv X pins σ H s):H s.heap.objs.size=none:=I.Ap.fresh (Nat.le_refl _)
theorem Inv.NC(I:Inv X pins σ H s)(a:H l=some (.lst xs)):xs.length<=sizeLine/\∃(its:List Value)(n:Nat),Vals xs its/\xs.length=its.length/\s.heap.get? l=some {cls:=.type "list",data:=.seq its.toArray n}:=by
 obtain⟨z,its,n,r,e⟩:=I.Ap l _ a;exact⟨z,its,n,r,r.length,e⟩
theorem ND(h:n<=sizeLine):Builtin.List.listTooLong n=false:=by
 unfold Builtin.List.listTooLong;exact decide_eq_false (by lia)
end
section
variable{X:Cx}
inductive TN(x:V)(vs:List V)(H:Hp)(Q:VK):Prop
 |mk(l xs y:_)(a:x=.ref l)(b:vs=[y])(c:H l=some (.lst xs))(d:xs.length<sizeLine)(e:Q .Ai (upd H l (.lst (xs++[y]))))
def V_:V->List V->Hp->VK->Prop:=fun x a H Q=>TN x a H Q
theorem Dd:aU X "list.append" V_:=by
 intro pins s g H x i v j Q I c d h;obtain⟨l,k,y,rfl,rfl,b,m,q⟩:=h;cases c;obtain⟨u,rfl,f⟩:=d.one;obtain⟨z,a,n,r,o,e⟩:=I.NC b;refine call_meets F.slot_list_append ⟨_,e,rfl⟩ F.entry_list_append (F.args_list_append_2 _ _) (PySem.list_append l a.toArray n u (by rw[List.size_toArray];lia)) ⟨e,?_⟩;refine⟨.Ai,_,I.Vy (its':=a++[u]) b e (by simp) (r.append (.cons f .nil)) ?_,rfl,q⟩;rw[List.length_append,List.length_singleton];lia
inductive TQ(x:V)(vs:List V)(H:Hp)(Q:VK):Prop
 |mk(l b xs a:_)(c:x=.ref l)(d:vs=[.ref b])(e:H l=some (.lst xs))(f:H b=some (.lst a))(g:xs.length+a.length<=sizeLine)(h:Q .Ai (upd H l (.lst (xs++a))))
def QN:V->List V->Hp->VK->Prop:=fun x a H Q=>TQ x a H Q
theorem CO:aU X "list.extend" QN:=by
 intro pins s y H x A v B Q I i j h;obtain⟨l,b,C,D,rfl,rfl,g,k,E,q⟩:=h;cases i;obtain⟨u,rfl,m⟩:=j.one;cases m;obtain⟨z,c,n,r,G,e⟩:=I.NC g;obtain⟨z2,a,o,p,t,w⟩:=I.NC k;have f:c.toArray.size+a.toArray.size<=sizeLine:=by rw[List.size_toArray,List.size_toArray];lia
 have d:¬(!c.toArray.isEmpty&&Builtin.List.listTooLong (c.toArray.size+a.toArray.size))=true:=by
  rw[ND f,Bool.and_false];exact Bool.false_ne_true
 refine call_meets F.slot_list_extend ⟨_,e,rfl⟩ F.entry_list_extend (F.args_list_extend_2 _ _) (AutoSeq1.list_extend_list_list_0 l c.toArray n b a.toArray o d (by rw[List.size_toArray];lia) (by lia)) ⟨e,w,?_⟩;refine⟨.Ai,_,I.Vy (its':=c++a) g e (by simp) (r.append p) ?_,rfl,q⟩;rw[List.length_append];lia
inductive aV(x:V)(vs:List V)(H:Hp)(Q:VK):Prop
 |mk(l xs y:_)(a:x=.ref l)(b:vs=[])(c:H l=some (.lst xs))(d:xs[xs.length-1]?=some y)(e:Q y (upd H l (.lst xs.dropLast)))
def eM:V->List V->Hp->VK->Prop:=fun x a H Q=>aV x a H Q
theorem YX:aU X "list.pop" eM:=by
 intro pins s o H x p v t Q I f g h;obtain⟨l,w,y,rfl,rfl,d,i,q⟩:=h;cases f;have b:=g.zero;subst b;obtain⟨z,a,n,r,j,e⟩:=I.NC d;obtain⟨u,k,m⟩:=r.get i;have c:a.toArray[a.toArray.size-1]?=some u:=by
  show a.toArray[a.length-1]?=some u;rw[<-Array.getElem?_toList,<-j];exact k
 refine call_meets F.slot_list_pop ⟨_,e,rfl⟩ F.entry_list_pop (F.args_list_pop_1 _) (MeetsSeq.list_pop_last l a.toArray n u c (by rw[List.size_toArray];lia)) ⟨e,?_⟩;refine⟨y,_,I.Vy (its':=a.dropLast) d e ?_ r.dropLast ?_,m,q⟩
 ·show a.toArray.eraseIdxIfInBounds (a.toArray.size-1)=a.dropLast.toArray;rw[List.size_toArray,List.eraseIdxIfInBounds_toArray,PK]
 ·rw[List.length_dropLast];lia
inductive V'(x:V)(vs:List V)(H:Hp)(Q:VK):Prop
 |mk(l xs i k y:_)(a:x=.ref l)(b:vs=[.int i])(c:H l=some (.lst xs))(d: -(2 ^ 63)<=i)(e:i<2 ^ 63)(f:seqIndex? i xs.length=some k)(g:xs[k]?=some y)(h:Q y (upd H l (.lst (xs.eraseIdx k))))
def YY:V->List V->Hp->VK->Prop:=fun x a H Q=>V' x a H Q
theorem TR:aU X "list.pop" YY:=by
 intro pins s C H x D v E Q I d f h;obtain⟨l,g,i,k,y,rfl,rfl,c,j,m,o,p,q⟩:=h;cases d;obtain⟨u,rfl,A⟩:=f.one;obtain⟨t,rfl⟩:=A;obtain⟨z,a,n,r,B,e⟩:=I.NC c;obtain⟨w,hw,b⟩:=r.get p;refine call_meets F.slot_list_pop ⟨_,e,rfl⟩ F.entry_list_pop (F.args_list_pop_2 _ _) (MeetsSeq.list_pop_at l a.toArray n i t k w (fitsIndex_both j m) (by rw[List.size_toArray,<-B];exact o) (by rw[<-Array.getElem?_toList];exact hw) (by rw[List.size_toArray];lia)) ⟨e,?_⟩;refine⟨y,_,I.Vy (its':=a.eraseIdx k) c e ?_ (r.eraseIdx k) ?_,b,q⟩
 ·show a.toArray.eraseIdxIfInBounds k=(a.eraseIdx k).toArray;rw[List.eraseIdxIfInBounds_toArray]
 ·have:=Kj g k;lia
inductive aW(x y:V)(H:Hp)(Q:VK):Prop
 |mk(l b xs a:_)(c:x=.ref l)(d:y=.ref b)(e:H l=some (.lst xs))(f:H b=some (.lst a))(g:xs.length+a.length<=sizeLine)(h:∀p,H p=none->Q (.ref p) (upd H p (.lst (xs++a))))
def eN:R2:=fun x y H Q=>aW x y H Q
theorem PL:ET X (binaryOp .Add) eN:=by
 intro pins s p H x y v u Q I d f h;obtain⟨l,b,t,w,rfl,rfl,g,i,A,q⟩:=h;cases d;cases f;obtain⟨z,c,n,r,B,e⟩:=I.NC g;obtain⟨z2,a,C,j,k,m⟩:=I.NC i;refine PySem.P.add_list e m ?_ (by rw[List.size_toArray,List.size_toArray];lia);have o:c.toArray++a.toArray=(c++a).toArray:=by simp
 rw[o];exact⟨.ref _,_,I.Vz (t':=s.toks) (r.append j) (by rw[List.length_append];lia),rfl,q _ I.fresh⟩
inductive aX(x y:V)(H:Hp)(Q:VK):Prop
 |mk(l k xs:_)(a:x=.ref l)(b:y=.int k)(c:H l=some (.lst xs))(d: -(2 ^ 63)<=k)(e:k<2 ^ 63)(f:xs.length*k.toNat<=sizeLine)(g:∀p,H p=none->Q (.ref p) (upd H p (.lst (List.replicate k.toNat xs).flatten)))
def eO:R2:=fun x y H Q=>aX x y H Q
theorem len_rep(xs:List a)(k:Nat):(List.replicate k xs).flatten.length=k*xs.length:=by
 induction k with
 |zero=>simp
 |succ k b=>rw[List.replicate_succ,List.flatten_cons,List.length_append,b,Nat.succ_mul,Nat.add_comm]
theorem TU:ET X (binaryOp .Mult) eO:=by
 intro pins s J H x y v u Q I p w h;obtain⟨l,k,K,rfl,rfl,A,B,C,o,q⟩:=h;cases p;obtain⟨t,rfl⟩:=w;obtain⟨z,b,n,r,D,e⟩:=I.NC A;have hlen:b.toArray.size*k.toNat<=sizeLine:=by rw[List.size_toArray,<-D];exact o
 have d:¬b.toArray.size*k.toNat>(2 ^ 63-1)/8:=by
  have:(sizeLine:Nat)<=(2 ^ 63-1)/8:=by decide
  lia
 have f:¬(!Builtin.List.listFitsIndex k)=true:=by
  rw[fitsIndex_both B C];exact Bool.false_ne_true
 have c:¬Builtin.List.listTooLong (b.toArray.size*k.toNat)=true:=by
  rw[ND hlen];exact Bool.false_ne_true
 have g:List.foldl (fun i j=>i++j) #[] (List.replicate (if b.toArray.isEmpty=true then 0 else k.toNat) b.toArray)=(List.replicate k.toNat b).flatten.toArray:=by
  have E:∀m:Nat,List.foldl (fun i j=>i++j) #[] (List.replicate m b.toArray)=(List.replicate m b).flatten.toArray:=fun m=>by
   have:=foldl_rep b m [];rw[List.nil_append]at this;exact this
  rw[E];cases b with
  |nil=>simp
  |cons a L=>rw[if_neg (by simp)]
 refine wpAny_binaryOp_repeat_ref (T:="list") (U:="int") (by decide) ⟨_,e,rfl⟩ (fun G=>typeIs_int G k t) noFill_list_mul F.fills_int_mul F.slot_int_rmul repeat_list F.slot_int_index.lookup (call_meets F.slot_int_rmul (typeIs_int s k t) F.entry_int_rmul (F.args_int_rmul_2 _ _) (int___rmul___int_list k t l b.toArray n)
   ⟨e,rfl,⟨_,e,rfl⟩,call_meets F.slot_list_mul ⟨_,e,rfl⟩ F.entry_list_mul (F.args_list_mul_2 _ _) (AutoListH.list___mul___list_int_3 l b.toArray n k t f d c) ⟨e,?_⟩⟩)
 rw[g];exact⟨.ref _,_,I.Vz (t':=s.toks) (r.rep k.toNat) (by rw[len_rep,Nat.mul_comm];exact o),rfl,q _ I.fresh⟩
end
section
variable{prog:Program} {w:World} {A:Around} {E:Value->Shared->Prop} {s:Shared}
end
section
variable{X:Cx}
end
variable{o:Option V}
section
variable{κ:Type} [DecidableEq κ]
def Av(kvs:List (κ×V))(k:κ):Option V:=(kvs.find? fun a=>decide (a.1=k)).map (·.2)
def putK(kvs:List (κ×V))(k:κ)(v:V):List (κ×V):=
 if(kvs.any fun a=>decide (a.1=k))=true then kvs.map (fun a=>if a.1=k then(a.1,v)else a)else kvs++[(k,v)]
def NF(kvs:List (κ×V))(k:κ):List (κ×V):=kvs.filter fun a=>decide (a.1≠k)
theorem BZ{p:κ×V}{r:List (κ×V)}{k:κ}(e:p.1=k):Av (p::r) k=some p.2:=by simp[Av,List.find?_cons,e]
theorem BS{p:κ×V}{r:List (κ×V)}{k:κ}(e:¬p.1=k):Av (p::r) k=Av r k:=by simp[Av,List.find?_cons,e]
theorem Cn(k:κ):∀kvs:List (κ×V),(kvs.any fun a=>decide (a.1=k))=(Av kvs k).isSome
 |[]=>rfl
 |p::r=>by
  rw[List.any_cons];by_cases e:p.1=k
  ·simp only[BZ e,decide_eq_true e,Bool.true_or,Option.isSome_some]
  ·rw[BS e,decide_eq_false e,Bool.false_or];exact Cn k r
theorem NG(k j:κ)(y:V):∀kvs:List (κ×V),Av (kvs.map fun a=>if a.1=k then(a.1,y)else a) j=(Av kvs j).map fun x=>if j=k then y else x
 |[]=>rfl
 |p::r=>by
  have b:=NG k j y r;rw[List.map_cons];by_cases h:p.1=k
  ·rw[if_pos h];by_cases e:p.1=j
   ·rw[BZ (p:=(p.1,y)) e,BZ e,Option.map_some,if_pos (e.symm.trans h)]
   ·rw[BS (p:=(p.1,y)) e,BS e,b]
  ·rw[if_neg h];by_cases e:p.1=j
   ·rw[BZ (p:=p) e,BZ e,Option.map_some,if_neg (fun z=>h (e.trans z))]
   ·rw[BS (p:=p) e,BS e,b]
theorem Kk(k j:κ)(y:V):∀kvs:List (κ×V),Av kvs k=none->Av (kvs++[(k,y)]) j=if j=k then some y else Av kvs j
 |[],_=>by
  by_cases e:k=j
  ·rw[if_pos e.symm];exact BZ (p:=(k,y)) e
  ·rw[if_neg (fun z=>e z.symm)];exact BS (p:=(k,y)) e
 |p::r,a=>by
  rw[List.cons_append];have b:¬p.1=k:=fun z=>by rw[BZ z]at a;cases a
  rw[BS b]at a;have c:=Kk k j y r a;by_cases e:p.1=j
  ·rw[BZ e,BZ e,if_neg (fun z=>b (e.trans z))]
  ·rw[BS e,BS e,c]
theorem Fj(kvs:List (κ×V))(k j:κ)(y:V):Av (putK kvs k y) j=if j=k then some y else Av kvs j:=by
 unfold putK;by_cases a:(kvs.any fun b=>decide (b.1=k))=true
 ·rw[if_pos a,NG];rw[Cn]at a;by_cases e:j=k
  ·obtain⟨x,c⟩:=Option.isSome_iff_exists.mp a;rw[if_pos e,e,c,Option.map_some,if_pos rfl]
  ·rw[if_neg e];cases Av kvs j with
   |none=>rfl
   |some x=>rw[Option.map_some,if_neg e]
 ·rw[if_neg a];refine Kk k j y kvs ?_;rw[Cn]at a;cases q:Av kvs k with
  |none=>rfl
  |some x=>rw[q]at a;exact(a rfl).elim
theorem CP(kvs:List (κ×V))(k:κ)(v:V):(putK kvs k v).length<=kvs.length+1:=by
 unfold putK;split
 ·rw[List.length_map];lia
 ·rw[List.length_append,List.length_cons,List.length_nil];lia
theorem NH{kvs:List (κ×V)}{k:κ}(v:V)(h:Av kvs k=none):putK kvs k v=kvs++[(k,v)]:=by
 unfold putK;rw[Cn,h];exact if_neg (by decide)
theorem Dr.De{u:Option Value}(r:Dr o u):o.isSome=u.isSome:=by
 cases o with
 |none=>cases u with
  |none=>rfl
  |some _=>exact(show False from r).elim
 |some _=>cases u with
  |none=>exact(show False from r).elim
  |some _=>rfl
theorem Dr.getD{u:Option Value}{d:V}{d':Value}(r:Dr o u)(rd:RelV d d'):RelV (o.getD d) (u.getD d'):=by
 cases o with
 |none=>cases u with
  |none=>exact rd
  |some _=>exact(show False from r).elim
 |some _=>cases u with
  |none=>exact(show False from r).elim
  |some _=>exact r
theorem KV.val{kvs:List (κ×V)}{vs:List (κ×Value)}(r:KV kvs vs)(k:κ):Dr (Av kvs k) (valueAt vs k):=by
 unfold KV at r
 induction r with
 |nil=>exact True.intro
 |@cons p q i a h t f=>
  obtain⟨d,g⟩:=h;by_cases e:p.1=k
  ·have c:q.1=k:=d.symm.trans e;have b:valueAt (q::a) k=some q.2:=by simp[valueAt,List.find?_cons,c]
   rw[BZ e,b];exact g
  ·have c:¬q.1=k:=fun z=>e (d.trans z);have b:valueAt (q::a) k=valueAt a k:=by simp[valueAt,List.find?_cons,c]
   rw[BS e,b];exact f
theorem KV.any{kvs:List (κ×V)}{vs:List (κ×Value)}(r:KV kvs vs)(k:κ):(kvs.any fun a=>decide (a.1=k))=vs.any fun a=>decide (a.1=k):=by
 unfold KV at r
 induction r with
 |nil=>rfl
 |cons h t b=>rw[List.any_cons,List.any_cons,b,h.1]
theorem KV.YZ{kvs:List (κ×V)}{vs:List (κ×Value)}(r:KV kvs vs)(k:κ)(c:RelV y u):
  KV (kvs.map fun a=>if a.1=k then(a.1,y)else a) (vs.map fun a=>if a.1=k then(a.1,u)else a):=by
 unfold KV at r⊢
 induction r with
 |nil=>exact .nil
 |@cons p q g i h t d=>
  rw[List.map_cons,List.map_cons];refine .cons ?_ d;obtain⟨b,f⟩:=h;by_cases e:p.1=k
  ·rw[if_pos e,if_pos (b.symm.trans e)];exact⟨b,c⟩
  ·rw[if_neg e,if_neg (fun z=>e (b.trans z))];exact⟨b,f⟩
theorem KV.put{kvs:List (κ×V)}{vs:List (κ×Value)}(r:KV kvs vs)(k:κ)(a:RelV y u):KV (putK kvs k y) (stored vs k u):=by
 unfold putK stored;rw[r.any k];by_cases e:(vs.any fun b=>decide (b.1=k))=true
 ·rw[if_pos e,if_pos e];exact r.YZ k a
 ·rw[if_neg e,if_neg e];exact Paired.snoc r ⟨rfl,a⟩
theorem KV.drop{kvs:List (κ×V)}{vs:List (κ×Value)}(r:KV kvs vs)(k:κ):KV (NF kvs k) (without vs k):=by
 unfold KV at r⊢;unfold NF without
 induction r with
 |nil=>exact .nil
 |@cons p q i j h t d=>
  obtain⟨c,f⟩:=h;rw[List.filter_cons,List.filter_cons];by_cases e:p.1=k
  ·have a:¬decide (p.1≠k)=true:=by simp[e]
   have b:¬decide (q.1≠k)=true:=by simp[c.symm.trans e]
   rw[if_neg a,if_neg b];exact d
  ·have g:¬q.1=k:=fun z=>e (c.trans z);have a:decide (p.1≠k)=true:=by simp[e]
   have b:decide (q.1≠k)=true:=by simp[g]
   rw[if_pos a,if_pos b];exact .cons ⟨c,f⟩ d
theorem KV.keys{kvs:List (κ×V)}{vs:List (κ×Value)}(r:KV kvs vs):kvs.map (·.1)=vs.map (·.1):=by
 unfold KV at r
 induction r with
 |nil=>rfl
 |cons h t a=>rw[List.map_cons,List.map_cons,a,h.1]
theorem KV.length{kvs:List (κ×V)}{vs:List (κ×Value)}(r:KV kvs vs):kvs.length=vs.length:=Paired.length r
theorem TV(kvs:List (κ×V))(k:κ):(NF kvs k).length<=kvs.length:=List.length_filter_le _ _
end
variable{w:World}{P:Program}
theorem E'{k:Key}(r:RelV (kV k) u):(AZ P w).is k u=true:=by
 cases k with
 |inl i=>obtain⟨t,e⟩:=(show∃t,u=Value.int i t from r);subst e;exact Mu P w i t
 |inr x=>obtain⟨t,e⟩:=(show∃t,u=Value.str x t from r);subst e;exact Mv P w x t
theorem Kl{P:Program}{w:World}:∀{ks:List Key}{us:List Value},Vals (ks.map kV) us->ItemsAre (AZ P w) ks us
 |[],_,r=>by rw[List.map_nil]at r;cases r;exact .nil
 |k::ks,_,r=>by
  rw[List.map_cons]at r;cases r with
  |cons h t=>exact .cons (E' h) (Kl t)
abbrev KT(H:Hp):List (List Key×V)->List (List Key×Addr×Value)->Prop:=Paired fun p q=>p.1=q.1/\H q.2.1=some (.tup (p.1.map kV))/\RelV p.2 q.2.2
variable{xs:List (List Key×Addr×Value)}
theorem KT.val{kvs:List (List Key×V)}(r:KT H kvs xs)(k:List Key):Dr (Av kvs k) ((atKey xs k).map (·.2)):=by
 induction r with
 |nil=>exact True.intro
 |@cons p q i a h t f=>
  obtain⟨d,_,g⟩:=h;by_cases e:p.1=k
  ·have c:q.1=k:=d.symm.trans e;have b:atKey (q::a) k=some q.2:=by simp[atKey,List.find?_cons,c]
   rw[BZ e,b];exact g
  ·have c:¬q.1=k:=fun z=>e (d.trans z);have b:atKey (q::a) k=atKey a k:=by simp[atKey,List.find?_cons,c]
   rw[BS e,b];exact f
theorem KT.YZ{kvs:List (List Key×V)}(r:KT H kvs xs)(k:List Key)(d:RelV y u):
  KT H (kvs.map fun b=>if b.1=k then(b.1,y)else b) (xs.map (putAt k u)):=by
 induction r with
 |nil=>exact .nil
 |@cons p q i j h t f=>
  rw[List.map_cons,List.map_cons];refine .cons ?_ f;obtain⟨a,c,g⟩:=h;unfold putAt;by_cases e:p.1=k
  ·rw[if_pos e,if_pos (a.symm.trans e)];exact⟨a,c,d⟩
  ·rw[if_neg e,if_neg (fun z=>e (a.trans z))];exact⟨a,c,g⟩
theorem KT.put{kvs:List (List Key×V)}(r:KT H kvs xs)(k:List Key){b:Addr}(c:H b=some (.tup (k.map kV)))(a:RelV y u):
  KT H (putK kvs k y) (storedH xs k b u):=by
 have e:(kvs.any fun d=>decide (d.1=k))=(atKey xs k).isSome:=by
  rw[Cn,(r.val k).De,Option.isSome_map]
 unfold putK storedH;rw[e];by_cases q:(atKey xs k).isSome=true
 ·rw[if_pos q,if_pos q];exact r.YZ k a
 ·rw[if_neg q,if_neg q];exact Paired.snoc r ⟨rfl,c,a⟩
theorem KT.keeps{a:Hp}{kvs:List (List Key×V)}(r:KT H kvs xs)(c:∀b ys,H b=some (.tup ys)->a b=some (.tup ys)):KT a kvs xs:=
 Paired.Zv r fun _ _ z=>⟨z.1,c _ _ z.2.1,z.2.2⟩
section
variable{P:Program} {w:World} {H:Hp} {h:Heap} {a:Addr}
theorem XS{u:HO}(ok:DV P w H h)(e:Rd H a u):Aj P w H h a u:=e.ok ok
theorem DL{kvs:List (Key×V)}(ok:DV P w H h)(e:Rd H a (.dK kvs)):kvs.length<=sizeLine/\(a==sysModules)=false/\∃vs,KV kvs vs/\h.DictOf (AZ P w) a vs:=
 show Aj P w H h a (.dK kvs)from XS ok e
theorem TX{kvs:List (Key×V)}(ok:DV P w H h)(e:H a=some (.dK kvs)):kvs.length<=sizeLine/\(a==sysModules)=false/\∃vs,KV kvs vs/\h.DictOf (AZ P w) a vs:=DL ok (.inl e)
theorem Gk{ks:List Key}(ok:DV P w H h)(e:H a=some (.tup (ks.map kV))):(tupleKind (AZ P w)).is h ks a:=by
 obtain⟨_,b,r,o,c,d,n,f⟩:=(show Aj P w H h a (.tup (ks.map kV))from ok a _ e);exact⟨o,b.toArray,n,c,d,f,by simpa using Kl r⟩
theorem Ip{kvs:List (List Key×V)}(ok:DV P w H h)(e:Rd H a (.dT kvs)):kvs.length<=sizeLine/\(a==sysModules)=false/\
  ∃xs,KT H kvs xs/\h.DictOfH (tupleKind (AZ P w)) a xs:=by
 obtain⟨z,y,xs,r,o,d,f,g,i,j,k,n⟩:=(show Aj P w H h a (.dT kvs)from XS ok e);refine⟨z,y,xs,r,o,d,f,g,i,j,k,fun x b=>?_,n⟩;have all:∀{l:List (List Key×V)}{m:List (List Key×Addr×Value)},KT H l m->∀x∈m,(tupleKind (AZ P w)).is h x.1 x.2.1:=by
  intro l m q
  induction q with
  |nil=>intro x b;exact nomatch b
  |@cons p q u v c t s=>
   intro x b;rcases List.mem_cons.mp b with e|b
   ·subst e;exact Gk ok (by rw[<-c.1];exact c.2.1)
   ·exact s x b
 exact all r x b
theorem aY{kvs:List (List Key×V)}(ok:DV P w H h)(e:H a=some (.dT kvs)):kvs.length<=sizeLine/\(a==sysModules)=false/\
  ∃xs,KT H kvs xs/\h.DictOfH (tupleKind (AZ P w)) a xs:=Ip ok (.inl e)
end
def KN(H:Hp)(a:Addr)(y:V)(r:Option V):Prop:= (∃kvs k,Rd H a (.dK kvs)/\y=kV k/\r=Av kvs k)∨∃kvs k b,Rd H a (.dT kvs)/\y=.ref b/\H b=some (.tup (k.map kV))/\r=Av kvs k
def Lj(H:Hp)(a:Addr)(y v:V)(c:Hp):Prop:= (∃kvs k,H a=some (.dK kvs)/\y=kV k/\kvs.length<sizeLine/\c=upd H a (.dK (putK kvs k v)))∨
 ∃kvs k b,H a=some (.dT kvs)/\y=.ref b/\H b=some (.tup (k.map kV))/\kvs.length<sizeLine/\c=upd H a (.dT (putK kvs k v))
theorem Lj.k{H:Hp}{a:Addr}{kvs:List (Key×V)}{k:Key}{v:V}(e:H a=some (.dK kvs))(hl:kvs.length<sizeLine):Lj H a (kV k) v (upd H a (.dK (putK kvs k v))):=.inl ⟨kvs,k,e,rfl,hl,rfl⟩
variable{Q:Value->Shared->Prop}{h':Heap}
section
variable{X:Cx} {pins:List (Addr×Obj)} {σ:St} {H:Hp} {s:Shared} {a:Addr} {y v:V} {u r:Value} {o:Option V} {A:Around} {E:Value->Shared->Prop}
theorem Inv.big(I:Inv X pins σ H s):sysModules<s.heap.objs.size:=by
 have h:mainGlobals<s.heap.objs.size:=(I.mod.glob.keeps I.bk).lt;exact Nat.lt_trans (by decide) h
theorem RP(t:A.units+1<cLine)(I:Inv X pins σ H s)(g:KN H a y (some v))(n:RelV y u)(h:∀f q,Inv X pins σ H q->RelV v f->Q f q):
  wpAny (model X.prog X.w) A (getItem (.ref a) u) Q E s:=by
 rcases g with⟨kvs,k,e,i,l⟩|⟨kvs,k,b,e,i,x,l⟩
 ·subst i;obtain⟨z,B,C,c,j⟩:=DL I.Ap e;obtain⟨f,hw,d⟩:=Dr.some_of (v:=v) (o:=valueAt C k) (by rw[l];exact c.val k);exact wpAny_getItem_of (E' n) j.mapOf hw (h f _ (I.tok _) d)
 ·subst i;cases(show u=Value.ref b from n);obtain⟨z,B,D,c,j⟩:=Ip I.Ap e;obtain⟨f,hw,d⟩:=Dr.some_of (v:=v) (o:=(atKey D k).map (·.2)) (by rw[l];exact c.val k);obtain⟨p,F,m⟩:=Option.map_eq_some_iff.mp hw;refine wpAny_getItem_heap (tupleKind_room_in1 t) (Gk I.Ap x) j F ?_;rw[m];exact h f _ (I.tok _) d
theorem eP(n:A.units+1<cLine)(I:Inv X pins σ H s)(g:KN H a y o)(j:RelV y u)(h:∀m,Inv X pins σ H m->Q (.bool o.isSome) m):
  wpAny (model X.prog X.w) A (compareOp .In u (.ref a)) Q E s:=by
 rcases g with⟨kvs,k,e,d,l⟩|⟨kvs,k,b,e,d,p,l⟩
 ·subst d;obtain⟨z,f,t,c,i⟩:=DL I.Ap e;refine wpAny_in_of (E' j) f i.mapOf ?_;rw[<-(c.val k).De,<-l];exact h _ (I.tok _)
 ·subst d;cases(show u=Value.ref b from j);obtain⟨z,f,x,c,i⟩:=Ip I.Ap e;refine wpAny_in_heap (tupleKind_room_in1 n) (Gk I.Ap p) f i ?_;have q:=(c.val k).De;rw[Option.isSome_map]at q;rw[<-q,<-l];exact h _ (I.tok _)
theorem WA(n:A.units+1<cLine)(I:Inv X pins σ H s)(g:KN H a y o)(j:RelV y u)(h:∀m,Inv X pins σ H m->Q (.bool (!o.isSome)) m):
  wpAny (model X.prog X.w) A (compareOp .NotIn u (.ref a)) Q E s:=by
 rcases g with⟨kvs,k,e,d,l⟩|⟨kvs,k,b,e,d,p,l⟩
 ·subst d;obtain⟨z,f,t,c,i⟩:=DL I.Ap e;refine wpAny_notIn_of (E' j) f i.mapOf ?_;rw[<-(c.val k).De,<-l];exact h _ (I.tok _)
 ·subst d;cases(show u=Value.ref b from j);obtain⟨z,f,x,c,i⟩:=Ip I.Ap e;refine wpAny_notIn_heap (tupleKind_room_in1 n) (Gk I.Ap p) f i ?_;have q:=(c.val k).De;rw[Option.isSome_map]at q;rw[<-q,<-l];exact h _ (I.tok _)
theorem IH{c:HO}(I:Inv X pins σ H s)(d:Zw (H a))(f:Heap.SameBut a s.heap h')(g:∃q,h'.get? a=some q)(new:Aj X.prog X.w (upd H a c) h' a c):
  Inv X pins σ (upd H a c) {s with heap:=h',toks:=t'}:=
 I.write (x:=a) (e:=a) d (.inl rfl) (fun b q h z=>(f.2 b h).trans z) g new
theorem Gm{c:Hp}{kvs:List (Key×V)}{vs:List (Key×Value)}(z:kvs.length<=sizeLine)(d:(a==sysModules)=false)(b:KV kvs vs)(e:h'.DictOf (AZ P w) a vs):
  Aj P w c h' a (.dK kvs):=⟨z,d,vs,b,e⟩
theorem RQ{C:Hp}{Q:Unit->Shared->Prop}(M:A.units+1<cLine)(I:Inv X pins σ H s)(g:Lj H a y v C)(D:RelV y u)(F:RelV v r)(h:∀G,Inv X pins σ C G->Q () G):
  wpAny (model X.prog X.w) A (setItem (.ref a) u r) Q E s:=by
 rcases g with⟨kvs,k,e,j,l,m⟩|⟨kvs,k,b,e,j,J,l,m⟩
 ·subst j m;obtain⟨z,n,N,d,p⟩:=TX I.Ap e;have t:N.length<=sizeLine:=by rw[<-d.length];exact z
  have x:(putK kvs k v).length<=sizeLine:=by have:=CP kvs k v;lia
  refine wpAny_setItem_pairs (hsz:=t) (E' D) p fun K f B=>h _ ?_;have O:∃q,K.get? a=some q:=let⟨q,_,_,i,_⟩:=f;⟨q,i⟩;exact IH I (by rw[e];exact True.intro) B O (Gm x n (d.put k F) f)
 ·subst j m;cases(show u=Value.ref b from D);obtain⟨z,n,P,d,p⟩:=aY I.Ap e;have t:P.length<=sizeLine:=by rw[<-Paired.length d];exact z
  have x:(putK kvs k v).length<=sizeLine:=by have:=CP kvs k v;lia
  refine wpAny_setItem_heap (hsz:=t) (tupleKind_room_in1 M) (Gk I.Ap J) p fun K f B=>h _ ?_;obtain⟨q,R,S,i,T,U,W,_,Y⟩:=f;refine IH I (by rw[e];exact True.intro) B ⟨q,i⟩ ⟨x,n,_,(d.put k J F).keeps fun c Z L=>?_,q,R,S,i,T,U,W,Y⟩;rw[AH (Zu L e (fun z=>nomatch z))];exact L
end
section
variable{X:Cx} {pins:List (Addr×Obj)} {σ:St} {H:Hp} {s:Shared} {a:Addr} {kvs:List (Key×V)} {k:Key} {u:Value} {A:Around} {E:Value->Shared->Prop}
theorem aZ{v:V}{more:List Value}(I:Inv X pins σ H s)(e:H a=some (.dK kvs))(f:RelV (kV k) u)(l:Av kvs k=some v)(j:more=[]∨∃x,more=[x])(h:∀c m,Inv X pins σ (upd H a (.dK (NF kvs k))) m->RelV v c->Q c m):wpAny (model X.prog X.w) A (call (.builtin "dict.pop") (.ref a::u::more)) Q E s:=by
 obtain⟨z,r,n,b,p⟩:=TX I.Ap e;obtain⟨c,hw,g⟩:=Dr.some_of (v:=v) (o:=valueAt n k) (by rw[<-l];exact b.val k);have y:(keyPart u).isSome=true:=by
  cases k with
  |inl i=>obtain⟨t,q⟩:=(show∃t,u=Value.int i t from f);subst q;rfl
  |inr x=>obtain⟨t,q⟩:=(show∃t,u=Value.str x t from f);subst q;rfl
 have B:argsOk "dict.pop" ⟨.ref a::u::more,[]⟩:=by
  rcases j with q|⟨x,q⟩
  ·subst q;exact PySem.F.args_dict_pop_2 _ _
  ·subst q;exact PySem.F.args_dict_pop_3 _ _ _
 refine call_meetsIn PySem.F.slot_dict_pop p.typeIs PySem.F.entry_dict_pop B (meets_dict_pop_there (AZ X.prog X.w) a (E' f) more j y)
  ⟨n,c,p,by rw[<-b.length];exact z,hw,fun C d D=>h c _ ?_ g⟩
 have G:∃q,C.get? a=some q:=let⟨q,_,_,J,_⟩:=d;⟨q,J⟩;exact IH I (by rw[e];exact True.intro) D G (Gm (Nat.le_trans (TV kvs k) z) r (b.drop k) d)
theorem aa(I:Inv X pins σ H s)(e:Rd H a (.dK kvs))(h:∀t c,Inv X pins σ H c->Q (.int kvs.length t) c):wpAny (model X.prog X.w) A (call (.builtin "len") [.ref a]) Q E s:=by
 obtain⟨z,d,g,b,f⟩:=DL I.Ap e;refine call_len_dict d f (by rw[<-b.length];rw[sizeLine_eq]at z;lia) ?_;rw[<-b.length];exact h _ _ (I.tok _)
end
def Ya(i:Expr):Prop:=∀ov a,subscripted i false ov a=operate [ov,a] (getItem ov a)
theorem WB{prog:Program}{E:Value->Shared->Prop}{env:Env}{value slice:Expr}{pos:Pos}{T id:String}(hl:typeLookup (.type T) "__getitem__"=pure (some (.builtin id)))(j:Ya slice)(h:wpAny (model prog w) A (eval value env) (fun o c=>wpAny (model prog w) A (eval slice env) (fun i a=>a.TypeIs o T/\wpAny (model prog w) A (getItem o i) Q E a) E c) E s):
  wpAny (model prog w) A (eval (.Subscript value slice pos) env) Q E s:=by
 refine Subscript_ (wpAny_mono h (fun o c e=>wpAny_mono e (fun i a b=>?_) fun _ _ x=>x) fun _ _ x=>x);obtain⟨g,b⟩:=b;unfold subscriptTail;refine wpAny_bind ?_;rw[getitemInPython_of_ne g.not_modules];refine wpAny_bind (wpAny_specialOf g hl ?_);have fin:wpAny (model prog w) A (subscripted slice false o i) (fun r d=>wpAny (model prog w) A (letTemporaryGo value o r>>=fun _=>pure r) Q E d) E a:=by
  rw[j o i];exact wpAny_operating (wpAny_mono b (fun r d f=>wpAny_bind (wpAny_letTemporaryGo (wpAny_pure f))) fun _ _ x=>x)
 first
  |exact wpAny_pure (wpAny_bind fin)
  |exact wpAny_bind (wpAny_pure (wpAny_bind fin))
  |exact wpAny_bind fin
variable{X:Cx}
theorem NI{d:St}{a:Addr}(I:Inv X pins d H s)(g:KN H a y o):s.TypeIs (.ref a) "dict":=by
 rcases g with⟨kvs,k,e,_,_⟩|⟨kvs,k,b,e,_,_,_⟩
 ·obtain⟨_,_,f,_,c⟩:=DL I.Ap e;exact c.typeIs
 ·obtain⟨_,_,h,_,c⟩:=Ip I.Ap e;exact c.typeIs
inductive ki(x y:V)(H:Hp)(Q:VK):Prop
 |mk(a:Addr)(v:V)(e:x=.ref a)(g:KN H a y (some v))(q:Q v H)
inductive kj(x y:V)(H:Hp)(Q:VK):Prop
 |mk(a:Addr)(o:Option V)(e:x=.ref a)(g:KN H a y o)(q:Q (.bl o.isSome) H)
inductive km(x y:V)(H:Hp)(Q:VK):Prop
 |mk(a:Addr)(o:Option V)(e:x=.ref a)(g:KN H a y o)(q:Q (.bl (!o.isSome)) H)
def XT(b ty:TE):TE:=fun a H Q=>b a H fun x c=>ty a c fun y d=>ki x y d Q
def eQ(ty b:TE):TE:=fun a H Q=>ty a H fun y c=>b a c fun x d=>kj x y d Q
def WC(ty b:TE):TE:=fun a H Q=>ty a H fun y c=>b a c fun x d=>km x y d Q
def ab(d ty e:TE):TS:=fun D b H=>e b H fun v f=>d b f fun x g=>ty b g fun y h=>∃a c,x=.ref a/\Lj h a y v c/\D.nx b c
section
variable{X:Cx} {o i e value:Expr} {pos pos' eA:Pos} {td ty tv:TE}
theorem WD(f:X.A.units+1<cLine)(j:PE X o td)(k:PE X i ty)(l:Ya i):PE X (.Subscript o i pos) (XT td ty):=by
 intro pins s c H Q I h;refine WB PySem.F.slot_dict_getitem.lookup l (BH (j pins s c H _ I h) fun u m n=>n.elim fun x p q r t=>BH (k pins m c p _ q t) fun E G ⟨y,w,d,z,a,v,B,g,C⟩=>?_);subst B;obtain rfl:u=Value.ref a:=r;exact⟨NI d g,RP f d g z fun J K D b=>⟨v,w,D,b,C⟩⟩
theorem Yb(c:X.A.units+1<cLine)(d:PE X i ty)(f:PE X o td):PC X .In i o (eQ ty td):=by
 intro pins s b H Q I h;refine BH (d pins s b H _ I h) fun B j k=>k.elim fun y l m n p=>BH (f pins j b l _ m p) fun u C ⟨x,q,r,t,a,ov,v,g,w⟩=>?_;subst v;obtain rfl:u=Value.ref a:=t;exact eP c r g n fun D z=>⟨.bl ov.isSome,q,z,rfl,w⟩
theorem RS(c:X.A.units+1<cLine)(d:PE X i ty)(f:PE X o td):PC X .NotIn i o (WC ty td):=by
 intro pins s b H Q I h;refine BH (d pins s b H _ I h) fun B j k=>k.elim fun y l m n p=>BH (f pins j b l _ m p) fun u C ⟨x,q,r,t,a,ov,v,g,w⟩=>?_;subst v;obtain rfl:u=Value.ref a:=t;exact WA c r g n fun D z=>⟨.bl (!ov.isSome),q,z,rfl,w⟩
theorem Fl(d:X.A.units+1<cLine)(f:PE X o td)(j:PE X i ty)(k:PE X value tv)(l:swapsWith value (some (.Subscript o i pos')) pos.line X.env=pure false):
  PS X (.Assign [.Subscript o i pos'] value pos) (ab td ty tv):=by
 intro pins s b H D I h;refine wpAny_Assign_Subscript (BH (k pins s b H _ I h) fun r m c=>c.elim fun v n p q t=>BH (f pins m b n _ p t) fun u w c=>c.elim fun x z B C E=>BH (j pins w b z _ B E) fun N O ⟨y,P,F,G,a,J,K,g,L⟩=>?_) l;subst K;obtain rfl:u=Value.ref a:=C;exact RQ d F g G q fun Q M=>⟨b,J,M,L⟩
end
theorem NJ(h:Heap)(a:sysModules<h.objs.size):Aj P w H (h.push {cls:=.type "dict",data:=.dict #[]}) h.objs.size (.dK []):=
 ⟨Nat.zero_le _,beq_eq_false_iff_ne.mpr (Ne.symm (Nat.ne_of_lt a)),[],.nil,Heap.DictOf.new h⟩
def Yc:TE:=fun _ H Q=>∀p,H p=none->Q (.ref p) (upd H p (.dK []))
section
variable{X:Cx} {pos:Pos}
theorem Fm:PE X (.Dict [] [] pos) Yc:=fun pins s b H Q I h=>
 wpAny_Dict_empty ⟨.ref s.heap.objs.size,_,I.laid (a:=s.heap.objs.size) (o:=.dK []) (t':=s.toks) (fun _ _ q=>Heap.get?_push_of_some _ q) (Nat.le_refl _) (NJ s.heap I.big),rfl,h _ (I.Ap.fresh (Nat.le_refl _))⟩
end
def PM:List (TE×TE)->St->Hp->(List (V×V)->Hp->Prop)->Prop
 |[],_,H,Q=>Q [] H
 |(tk,b)::r,a,H,Q=>tk a H fun x c=>b a c fun y H2=>PM r a H2 fun ps d=>Q ((x,y)::ps) d
abbrev VV:List (V×V)->List (Value×Value)->Prop:=Paired fun p q=>RelV p.1 q.1/\RelV p.2 q.2
def cV(X:Cx)(pos:Pos)(keys:List (Option Expr))(values:List Expr)(a:List (TE×TE)):Prop:=
 ∀(pins:List (Addr×Obj))(s:Shared)(b:St)(H:Hp)(Q:List (V×V)->Hp->Prop),Inv X pins b H s->PM a b H Q->
  wpAny (model X.prog X.w) X.A (evalPairs (pairTrees keys values X.env pos)) (fun e f=>∃c d,Inv X pins b d f/\VV c e/\Q c d) X.xe s
theorem Lk{pos:Pos}:cV X pos [] [] []:=fun pins s a H Q I h=>pairTrees_nil_walk ⟨[],H,I,.nil,h⟩
theorem Fn{pos:Pos}{k v:Expr}{ks:List (Option Expr)}{vs:List Expr}{tk d:TE}{a:List (TE×TE)}(e:PE X k tk)(f:PE X v d)(g:cV X pos ks vs a):
  cV X pos (some k::ks) (v::vs) ((tk,d)::a):=fun pins s b H Q I h=>
 pairTrees_cons_walk (BH (e pins s b H _ I h) fun u i j=>j.elim fun x l m n o=>BH (f pins i b l _ m o) fun D p ⟨y,q,r,t,w⟩=>
  BH (g pins p b q _ r w) fun E F ⟨z,A,B,c,C⟩=>⟨(x,y)::z,A,B,.cons ⟨n,t⟩ c,C⟩)
def CC(kvs more:List (Key×V)):List (Key×V):=more.foldl (fun a b=>putK a b.1 b.2) kvs
theorem KV.merge:∀{more:List (Key×V)}{a:List (Key×Value)}{kvs:List (Key×V)}{vs:List (Key×Value)},KV more a->KV kvs vs->KV (CC kvs more) (merged vs a):=by
 intro more a kvs vs r;unfold KV at r
 induction r generalizing kvs vs with
 |nil=>intro q;exact q
 |@cons p q d f h t b=>
  intro c;have e:KV (putK kvs p.1 p.2) (stored vs q.1 q.2):=by
   have:=c.put p.1 h.2;rw[<-h.1];exact this
  exact b e
theorem Cg:∀(more kvs:List (Key×V)),(CC kvs more).length<=kvs.length+more.length
 |[],kvs=>by show kvs.length<=kvs.length+0;lia
 |p::r,kvs=>by
  have a:=Cg r (putK kvs p.1 p.2);have b:=CP kvs p.1 p.2;show(CC (putK kvs p.1 p.2) r).length<=_;rw[List.length_cons];lia
theorem Iq{P:Program}{w:World}:∀{kvs:List (Key×V)}{ws:List (Value×Value)},VV (kvs.map fun e=>(kV e.1,e.2)) ws->∃d,Carries (AZ P w) ws d/\KV kvs d
 |[],_,r=>by rw[List.map_nil]at r;cases r;exact⟨[],True.intro,.nil⟩
 |p::kvs,_,r=>by
  rw[List.map_cons]at r;cases r with
  |@cons a b as bs h t=>
   obtain⟨d,c,q⟩:=Iq (P:=P) (w:=w) t;obtain⟨g,f⟩:=b;exact⟨(p.1,f)::d,⟨E' h.1,rfl,c⟩,.cons ⟨rfl,h.2⟩ q⟩
def ag(a:List (TE×TE)):TE:=fun d H Q=>∀p,H p=none->PM a d (upd H p (.dK [])) fun e b=>b p=some (.dK [])/\∃kvs:List (Key×V),e=kvs.map (fun c=>(kV c.1,c.2))/\kvs.length<=15/\Q (.ref p) (upd b p (.dK (CC [] kvs)))
theorem Ll{pos:Pos}{keys:List (Option Expr)}{values:List Expr}{b:List (TE×TE)}(h:cV X pos keys values b)(d:keys.all (·.isSome)=true)(hl:keys.length=values.length)(k:keys≠[])(g:keys.length<=15):PE X (.Dict keys values pos) (ag b):=by
 intro pins s l H Q I q;have m:=I.Ap.fresh (Nat.le_refl s.heap.objs.size);have n:=I.laid (a:=s.heap.objs.size) (o:=.dK []) (h':=s.heap.push {cls:=.type "dict",data:=.dict #[]}) (t':=s.toks) (fun _ _ q=>Heap.get?_push_of_some _ q) (Nat.le_refl _) (NJ s.heap I.big);refine wpAny_Dict_walk (knd:=AZ X.prog X.w) d hl k g (BH (h pins _ l _ _ n (q _ m)) fun G J ⟨K,L,j,i,e,kvs,p,lk,r⟩=>?_);subst p;obtain⟨t,c,u⟩:=Iq (P:=X.prog) (w:=X.w) i;obtain⟨z,v,x,y,A⟩:=TX j.Ap e;cases y;refine⟨t,c,A,fun h' f B=>⟨.ref s.heap.objs.size,_,?_,rfl,r⟩⟩;have C:(CC [] kvs).length<=sizeLine:=by
  have D:=Cg kvs [];rw[List.length_nil]at D;rw[sizeLine_eq];lia
 have E:∃q,h'.get? s.heap.objs.size=some q:=let⟨q,_,_,F,_⟩:=f;⟨q,F⟩;exact IH j (by rw[e];exact True.intro) B E (Gm C v (u.merge .nil) f)
structure M1(X:Cx)(o:Expr)(m:Str)(apos:Pos)(e:Expr)(Ca:Pos):Prop where
 base:attributeBase o m X.env (eval o X.env)=eval o X.env
 Mp:((backTo Ca (starEach [e] X.env)).all (fun x=> !x.1)&&(backToKw Ca (keywordEach [] X.env)).all (fun x=>x.1.isSome)
  &&decide (([e]:List Expr).length+([]:List Keyword).length+(if([]:List Keyword).isEmpty then 0 else 1)<30))=true
 line:(apos.endLine==Ca.line)=true
 trees:backTo Ca (starEach [e] X.env)=[(false,eval e X.env)]
structure M2(X:Cx)(o:Expr)(m:Str)(apos:Pos)(e f:Expr)(Ca:Pos):Prop where
 base:attributeBase o m X.env (eval o X.env)=eval o X.env
 Mp:((backTo Ca (starEach [e,f] X.env)).all (fun x=> !x.1)&&(backToKw Ca (keywordEach [] X.env)).all (fun x=>x.1.isSome)
  &&decide (([e,f]:List Expr).length+([]:List Keyword).length+(if([]:List Keyword).isEmpty then 0 else 1)<30))=true
 line:(apos.endLine==Ca.line)=true
 trees:backTo Ca (starEach [e,f] X.env)=[(false,eval e X.env),(false,eval f X.env)]
def eR(H:Hp)(a:Addr):Prop:=(∃kvs,Rd H a (.dK kvs))∨∃kvs,Rd H a (.dT kvs)
theorem TY{j:St}{a:Addr}(I:Inv X pins j H s)(d:eR H a):
  s.TypeIs (.ref a) "dict"/\(∀b,Value.ref a=.ref b->∃c,s.heap.get? b=some c/\c.dict=none)/\(a==sysModules)=false:=by
 rcases d with⟨kvs,e⟩|⟨kvs,e⟩
 ·obtain⟨_,g,k,_,f⟩:=DL I.Ap e;refine⟨f.typeIs,fun b q=>?_,g⟩;cases q;obtain⟨c,_,_,h,i,_⟩:=f;exact⟨c,h,i.2.1⟩
 ·obtain⟨_,g,l,_,f⟩:=Ip I.Ap e;refine⟨f.typeIs,fun b q=>?_,g⟩;cases q;obtain⟨c,_,_,h,i,_⟩:=f;exact⟨c,h,i.2.1⟩
section
variable{X:Cx} {pins:List (Addr×Obj)} {σ:St} {H:Hp} {s:Shared} {a:Addr} {y d:V} {u r:Value} {o:Option V} {A:Around} {E:Value->Shared->Prop}
theorem Yd(q:A.units+1<cLine)(I:Inv X pins σ H s)(g:KN H a y o)(m:RelV y u)(rd:RelV d r)(h:∀n p,Inv X pins σ H p->RelV (o.getD d) n->Q n p):
  wpAny (model X.prog X.w) A (call (.builtin "dict.get") [.ref a,u,r]) Q E s:=by
 rcases g with⟨kvs,k,e,i,l⟩|⟨kvs,k,b,e,i,t,l⟩
 ·subst i;obtain⟨z,j,x,c,f⟩:=DL I.Ap e;refine call_meetsIn PySem.F.slot_dict_get f.typeIs PySem.F.entry_dict_get (PySem.F.args_dict_get_3 _ _ _) (meets_dict_get_default (AZ X.prog X.w) a (E' m) j r) ⟨_,f.mapOf,h _ _ (I.tok _) ?_⟩;rw[l];exact(c.val k).getD rd
 ·subst i;cases(show u=Value.ref b from m);obtain⟨z,j,v,c,f⟩:=Ip I.Ap e;refine call_meetsIn PySem.F.slot_dict_get f.typeIs PySem.F.entry_dict_get (PySem.F.args_dict_get_3 _ _ _) (meetsH_dict_get_default (tupleKind (AZ X.prog X.w)) a b j r) ⟨tupleKind_room_in1 q,k,v,Gk I.Ap t,f,h _ _ (I.tok _) ?_⟩;rw[l];exact(c.val k).getD rd
end
def Ye(e ty f:TE):TE:=fun b H Q=>e b H fun x c=>∃a,x=.ref a/\eR c a/\ty b c fun y g=>f b g fun z d=>∃o,KN d a y o/\Q (o.getD z) d
def Yf(e ty:TE):TE:=fun b H Q=>e b H fun x c=>∃a,x=.ref a/\eR c a/\ty b c fun y d=>∃kvs k v,d a=some (.dK kvs)/\y=kV k/\Av kvs k=some v/\Q v (upd d a (.dK (NF kvs k)))
section
variable{X:Cx} {o e f:Expr} {apos Ca:Pos} {td ty tx:TE}
theorem TZ(j:X.A.units+1<cLine)(k:PE X o td)(l:PE X e ty)(n:PE X f tx)(m:M2 X o "get" apos e f Ca):PE X (.Call (.Attribute o "get" apos) [e,f] [] Ca) (Ye td ty tx):=by
 intro pins s b H Q I h;refine wpAny_Call_method m.base m.Mp m.line PySem.F.plainAttrs_dict PySem.F.slot_dict_get PySem.F.type_dict_get (BH (k pins s b H _ I h) fun u p ⟨x,q,i,r,a,t,d,v⟩=>?_);subst t;obtain rfl:u=Value.ref a:=r;obtain⟨t1,t2,_⟩:=TY i d;refine⟨t1,t2,?_⟩;rw[m.trees];refine Calls.callWith_builtin rfl (Calls.evalArgs_plain (Calls.spliced_cons (BH (l pins p b q _ i v) fun N w ⟨y,B,C,D,E⟩=>
  Calls.spliced_cons (BH (n pins w b B _ C E) fun O P ⟨z,G,J,K,ov,g,L⟩=>Calls.spliced_nil ?_))))
 exact Yd j J g D K fun R S M c=>⟨_,G,M,c,L⟩
theorem Ta(i:PE X o td)(j:PE X e ty)(m:M1 X o "pop" apos e Ca):PE X (.Call (.Attribute o "pop" apos) [e] [] Ca) (Yf td ty):=by
 intro pins s c H Q I h;refine wpAny_Call_method m.base m.Mp m.line PySem.F.plainAttrs_dict PySem.F.slot_dict_pop PySem.F.type_dict_pop (BH (i pins s c H _ I h) fun u n ⟨x,p,g,q,a,r,d,t⟩=>?_);subst r;obtain rfl:u=Value.ref a:=q;obtain⟨t1,t2,_⟩:=TY g d;refine⟨t1,t2,?_⟩;rw[m.trees];refine Calls.callWith_builtin rfl (Calls.evalArgs_plain (Calls.spliced_cons (BH (j pins n c p _ g t) fun E G ⟨y,J,w,z,kvs,k,v,A,B,l,C⟩=>Calls.spliced_nil ?_)));subst B;exact aZ w A z l (.inl rfl) fun K L D b=>⟨v,_,D,b,C⟩
end
section
variable{X:Cx} {pins:List (Addr×Obj)} {σ:St} {H:Hp} {s:Shared} {a:Addr} {kvs:List (Key×V)} {A:Around} {E:Value->Shared->Prop}
theorem Tb(I:Inv X pins σ H s)(e:Rd H a (.dK kvs))(h:∀p f,H p=none->Inv X pins σ (upd H p (.dK kvs)) f->Q (.ref p) f):wpAny (model X.prog X.w) A (call (.type "dict") [.ref a]) Q E s:=by
 obtain⟨z,i,l,c,j⟩:=DL I.Ap e;refine kt_call_dict i j (by rw[<-c.length];exact z) fun m d k=>?_;refine h _ _ (I.Ap.fresh (Nat.le_refl _)) (I.laid (a:=s.heap.objs.size) (o:=.dK kvs) (t':=s.toks) (fun b q g=>?_) (Nat.le_refl _) (Gm z (beq_eq_false_iff_ne.mpr (Ne.symm (Nat.ne_of_lt I.big))) c d));exact(k.2 b (Nat.ne_of_lt (Heap.lt_size g))).trans (Heap.get?_push_of_some _ g)
end
section
variable{X:Cx} {pins:List (Addr×Obj)} {σ:St} {H:Hp} {s:Shared} {a:Addr} {y:V} {u:Value} {A:Around} {E:Value->Shared->Prop}
end
end L2
namespace jA
open PySem PySem.W PySem.Calls PyProof.Rows
variable{P:Params}
theorem Hs{h:Heap}:∀(c:List Int)(vs:List Value),WellAll P h vs (c.map WData.int)->IntsAre vs c:=by
 intro c
 induction c with
 |nil=>
  intro vs w;rw[List.map_nil]at w;cases w;exact .nil
 |cons n c d=>
  intro vs w;rw[List.map_cons]at w;cases w with
  |cons a b=>
   cases a;exact .cons _ _ (d _ b)
variable{l:OpenLaw}
theorem RT{n:Nat}(m:l.most=some n){h:Heap}{args:List WData}{vals:List Value}(c:l.row.toRowW.claim.pre args=true)(i:WellAll P h vals args):
  ∃a vs b,vals=[Value.ref a]/\args=[WData.list (b.map WData.int)]/\h.get? a=some {cls:=.type "list",data:=.seq vs.toArray}/\IntsAre vs b/\b.length<=n:=by
 have j:WShape.hasAll [] args [.list .int]=true:=(pre_splitW c).1;have k:l.pre.holds [] {args:=args}=true:=(pre_splitW c).2;obtain⟨d,r,rfl,o,p⟩:=hasAllW_cons j;obtain rfl:=hasAllW_nil p;obtain⟨x,rfl,s⟩:=hasW_list o;obtain⟨b,rfl⟩:=items_int s;have hlen:b.length<=n:=by
  unfold OpenLaw.pre at k;have f:(WTm.not (.lt (.lit (.int (n:Int))) (.len (.arg 0)))).holds [] {args:=[.list (b.map .int)]}=true:=by
   have f:=(holds_andW k).1;rw[m]at f;exact f
  have g:=condW_of f (w_not (w_lt w_lit (w_len_list (w_arg rfl))));rw[List.length_map]at g;refine Nat.le_of_not_lt fun q=>?_;have t:(n:Int)<((b.length:Nat):Int):=by lia
  first
   |(rw[decide_eq_true t]at g;exact absurd g (by decide))
   |(simp at g;lia)
 cases i with
 |cons u v=>
  cases v;cases u with
  |list w e=>exact⟨_,_,b,rfl,rfl,w,Hs b _ e,hlen⟩
theorem RU(l:OpenLaw)(args:List WData):l.row.toRowW.claim.post args (.bool true) args=true:=
 postW_of (r:=l.row.toRowW) (X:=(true==true)) (show WShape.has [] (.bool true) .bool=true by first|rfl|decide|simp[WShape.has,WShape.arms,WShape.armsAll]) (show(WTm.eq .res (.lit (.bool true))).value [] {args:=args,res:=some (.bool true),after:=args}=some (.bool (true==true))from w_eq_bool (w_res rfl) w_lit) rfl
theorem NK{n:Nat}{q:Program}{loose:List Str}{t:(Str->Option Value)->Heap->Prop}{YP:World->Heap->Prop}{d:DefRec}(x:l.most=some n)(j:d.params.defaults=[])(call:∀(w:World) (s₀ b:Shared) (mg k:Str->Option Value) (fa:Addr) (o:Obj) (pm g doc:Value) (a:Addr) (vs:List Value) (h:List Int),
   Ground q loose [] t w s₀ mg k b.heap->YP w b.heap->
   b.heap.get? fa=some o->o.data=.func (docDef d.name d.params d.body d.scope pm g doc)->b.heap.CodeRec g d.name->mg d.name=some (.ref fa)->
   b.heap.get? a=some {cls:=.type "list",data:=.seq vs.toArray}->IntsAre vs h->h.length<=n->b.gens= #[]->
   codeAny (model l.prog w) callerA (.call (.ref fa) ⟨[.ref a],[]⟩) (fun r i=>r=.ok (.ret (.bool true))/\OldK b.heap i.heap/\i.os=b.os/\AllBare i.gens) b):
  WalkO q loose t YP l.row.toRowW d [] (fun f vs=>PySem.call f vs):=by
 intro w s₀ b mg k G Y fa o pm g doc y kV z A m u p B args vals K c v C s D;obtain rfl:y=.none:=Dflts.none u j;obtain rfl:kV=.none:=Dflts.noKw u;obtain⟨a,vs,h,rfl,rfl,e,hints,hlen⟩:=RT x c s;refine enter_call (codeAny_mono (call w s₀ b mg k fa o pm g doc a vs h G Y z (fd_plain A) m p e hints hlen B) fun r i E=>?_);obtain⟨rfl,F,H,I⟩:=E;exact⟨.inl ⟨.bool true,.bool true,[],rfl,fun _=>rfl,.bool true,RU l _,fun _=>⟨List.Pairwise.nil,fun _ J=>(nomatch J)⟩⟩,F,H,I⟩
section
variable{prog:Program} {w:World} {A:Around} {E:Value->Shared->Prop} {s:Shared} {K:Frag}
end
end jA
namespace L2
open PySem PySem.Spec PyProof.Rows
theorem RV{vs:List Value}{a:List Int}(h:IntsAre vs a):Vals (a.map V.int) vs:=by
 induction h with
 |nil=>exact .nil
 |cons n t _ b=>exact .cons ⟨t,rfl⟩ b
def inClass(s:Stmt)(j:Nat):Stmt:=match s with
 | .ClassDef _ _ _ body _ _ _ _ _ _ _=>body.getD j (.Pass ⟨0,0,0,0⟩)
 |_=>.Pass ⟨0,0,0,0⟩
def CT(s:Stmt):Arguments:=match s with
 | .FunctionDef _ a _ _ _ _ _ _ _ _=>a
 |_=>{posonlyargs:=[],args:=[],vararg:=none,kwonlyargs:=[],kw_defaults:=[],kwarg:=none,defaults:=[]}
def Br(s:Stmt):List Stmt:=match s with
 | .FunctionDef _ _ b _ _ _ _ _ _ _=>b
 |_=>[]
def AJ(s:Stmt):Scope:=match s with
 | .FunctionDef _ _ _ _ _ _ a _ _ _=>a
 |_=>{kind:=.function,names:=[],isGenerator:=false,isCoroutine:=false}
abbrev Bn:Sd:=fun _ _ _ _ _ _=>False
abbrev E0:XK:=fun _ _ _=>False
variable{X:Cx}
theorem HJ:Passes Bn X E0:=fun _ _ _ _ _ _ _ h=>h.elim
structure CD(K:rg)(x qual:Str)(st:Stmt)(f:Addr)(fd:FuncData):Prop where
 ex:∃(oc:Value)(od:Option Addr)(kV doc pm:Value)(an:Option Addr)(II ct:Value)(kn:Array (Option Value)),
  fd=PySem.W.fnOf x qual (CT st) (Br st) (AJ st) .none kV doc pm an II ct/\K.lookup f=some ⟨oc,od,.func fd,kn⟩/\PySem.W.codeIn K II qual=true
 kp:PySem.W.keepIn K (.ref f)=true
variable{x qual:Str}{f:Addr}
section
variable{P:Program} {w:World} {K:rg} {mg:Str->Option Value} {base:Heap}
theorem CD.ok{st:Stmt}{e:FuncData}{N ps:List Str}{k:Nat}{sp:Sp}(F:CD K x qual st f e)(S:AW N ps (AJ st))(len:∀vs H Q E,sp vs H Q E->vs.length=ps.length)(b:∀(a:Value) (A:Around) (outer:List Env) (s:Shared) (H:Hp) (vs:List V) (Q:VK) (E:XK),BQ k (A.deeper (envOfC qual (AJ st) s.heap.objs.size f a))->sp vs H Q E->
   ∃t,Om (Lb Bn P w K mg base N qual (AJ st) f a A outer s H E).XI (Br st) t/\t {nx:=fun _ g=>Q .Ai g,rt:=Q} (start N vs) H):Ac P w K mg base Bn (k+1) f e ps sp:=by
 obtain⟨l,m,kV,doc,n,o,a,p,i,rfl,lk,c⟩:=F.ex;refine XR lk c S len fun A outer s H vs Q E j d=>?_;obtain⟨t,h,q⟩:=b a A outer s H vs Q E j d;exact⟨t,h.XI,q⟩
theorem CD.binds{st:Stmt}{c:FuncData}{ps:List Str}(F:CD K x qual st f c)(h:∀(kV doc pm:Value) (b:Option Addr) (a ct:Value) (us:List Value),us.length=ps.length->bindArgs (PySem.W.fnOf x qual (CT st) (Br st) (AJ st) .none kV doc pm b a ct) ⟨us,[]⟩=pure (ps.zip us)):Binds K c ps []:=by
 obtain⟨g,i,kV,doc,pm,b,a,ct,d,rfl,lk,e⟩:=F.ex;exact .all (h kV doc pm b a ct)
theorem Ir{st:Stmt}{e:Value}{g d:Option Addr}{b:Array (Option Value)}{kV doc pm a ct:Value}(l:K.lookup f=some ⟨e,g,.func (PySem.W.fnOf x qual (CT st) (Br st) (AJ st) .none kV doc pm d a ct),b⟩)(c:PySem.W.codeIn K a qual=true)(k:PySem.W.keepIn K (.ref f)=true):CD K x qual st f (PySem.W.fnOf x qual (CT st) (Br st) (AJ st) .none kV doc pm d a ct):=⟨⟨e,g,kV,doc,pm,d,a,ct,b,rfl,l,c⟩,k⟩
end
variable{A:Around}
theorem Az{k:Nat}(a:BQ k A):A.units+1<cLine:=Nat.lt_of_le_of_lt (Nat.add_le_add_left (by decide:1<=64) _) a.units
variable{n:Nat}
theorem Am(h:n<=1000):n<sizeLine:=Nat.lt_of_le_of_lt h (by decide)
section
variable{X:Cx}
theorem pv(i:Nat){pos:Pos}(b:X.N[i]?=some x:=by rfl)(c:cN X.env.scope x:=by first|exact Or.inl rfl|exact Or.inr (Or.inl rfl)|exact Or.inr (Or.inr rfl))(d:(x==("__debug__":Str))=false:=by decide)(a:(x==("__classdict__":Str))=false:=by decide):PE X (.Name x pos) (Ge i):=YE b c d a
end
theorem Ay{A B:Prop}(h:B):if false=true then A else B:=by
 rw[if_neg Bool.false_ne_true];exact h
theorem Bk{A B:Prop}(h:A):if true=true then A else B:=by
 rw[if_pos rfl];exact h
theorem RW{c A B:Prop}[Decidable c](a:c->A)(b:¬c->B):if c then A else B:=by
 by_cases h:c
 ·rw[if_pos h];exact a h
 ·rw[if_neg h];exact b h
def AG(H a:Hp):Prop:=∀b o,H b=some o->a b=some o
theorem AG.refl(H:Hp):AG H H:=fun _ _ h=>h
variable{H:Hp}
theorem AG.trans{d H2:Hp}(a:AG H d)(b:AG d H2):AG H H2:=fun c o h=>b c o (a c o h)
theorem AG.free{a:Hp}(e:AG H a){l:Addr}(h:a l=Option.none):H l=Option.none:=by
 cases q:H l with
 |none=>rfl
 |some o=>
  rw[e l o q]at h;cases h
theorem AG.seq{K:rg}{b:Hp}{a:Addr}{xs:List V}(e:AG H b)(h:Aq K H a xs):Aq K b a xs:=by
 rcases h with(h|⟨o,h⟩)|h
 ·exact .inl (.inl (e _ _ h))
 ·exact .inl (.inr ⟨o,e _ _ h⟩)
 ·exact .inr h
section
variable{κ:Type} [DecidableEq κ]
theorem Tc{kvs:List (κ×V)}{k:κ}(h:Av kvs k=none):¬k∈kvs.map (·.1):=by
 intro m;obtain⟨p,a,e⟩:=List.mem_map.mp m;have q:(kvs.any fun b=>decide (b.1=k))=true:=List.any_eq_true.mpr ⟨p,a,decide_eq_true e⟩;rw[Cn,h]at q;exact absurd q (by simp)
theorem QO{kvs:List (κ×V)}{k:κ}{v:V}(h:Av kvs k=some v):k∈kvs.map (·.1):=by
 have q:(kvs.any fun a=>decide (a.1=k))=true:=by
  rw[Cn,h]
  all_goals rfl
 obtain⟨p,b,e⟩:=List.any_eq_true.mp q;exact List.mem_map.mpr ⟨p,b,of_decide_eq_true e⟩
end
variable{scope:Scope}{s:Shared}{w:World}{env:Env}
theorem PN{prog:Program}{R:Result->Shared->Prop}{a f iter:Expr}{d:List Expr}{pos:Pos}{g b:Value}(e:Nat->Shared->Prop)(step:∀n s,e n s->wpAny (model prog w) A (pyNext g) (fun r p=>match r with
   |none=>R (.ok .next) p
   |some v=>wpAny (model prog w) A (letOwnedTupleGo f g v) (fun _ u=>wpAny (model prog w) A (assign f env v) (fun _ B=>
     wpAny (model prog w) A (forIn d true fun c r=>if r=true then do let ok<-isTrue c env (eval c env);pure (ForInStep.yield ok)else pure (ForInStep.yield r)) (fun ok i=>
      if ok=true then wpAny (model prog w) A (eval a env) (fun y j=>wpAny (model prog w) A (call (.builtin "list.append") [b,y]) (fun _ l=>∃m,m<n/\e m l) (fun _ _=>False) j) (fun _ _=>False) i
      else∃m,m<n/\e m i) (fun _ _=>False) B) (fun _ _=>False) u) (fun _ _=>False) p) (fun _ _=>False) s)(n:Nat)(h:e n s):codeAny (model prog w) A (.compLoop (.ListComp a [⟨f,iter,d,0⟩] scope pos) 0 g b env) R s:=by
 have up:∀{C:Type}{t:Sem C}{Q:C->Shared->Prop}{E:Value->Shared->Prop}{s:Shared},wpAny (model prog w) A t Q (fun _ _=>False) s->wpAny (model prog w) A t Q E s:=
  fun h=>wpAny_mono h (fun _ _ q=>q) fun _ _ z=>z.elim
 refine codeAny_loop rfl e (fun k s F=>?_) n h;show wpAny _ A ((compTurn (.ListComp a [⟨f,iter,d,0⟩] scope pos) 0 g b env).onRaise (fun x=>do noteFrame x env;theTreesLotGoes x)) _ _ s;refine wpAny_noted ?_;rw[compTurn_list];refine wpAny_bind (wpAny_standAt (wpAny_bind (wpAny_mono (up (step k s F)) (fun r p D=>?_) fun _ _ z=>z)));cases r with
 |none=>exact wpAny_pure D
 |some v=>
  refine wpAny_bind (wpAny_mono (up D) (fun _ u G=>?_) fun _ _ z=>z);refine wpAny_bind (wpAny_mono (up G) (fun _ B H=>?_) fun _ _ z=>z);refine wpAny_bind (wpAny_mono (up H) (fun ok i o=>?_) fun _ _ z=>z);cases ok with
  |false=>exact wpAny_pure ⟨rfl,o⟩
  |true=>
   have o:wpAny (model prog w) A (eval a env) (fun y j=>wpAny (model prog w) A (call (.builtin "list.append") [b,y]) (fun _ l=>∃m,m<k/\e m l) (fun _ _=>False) j) (fun _ _=>False) i:=o;exact wpAny_bind (wpAny_bind (wpAny_mono (up o) (fun y j I=>wpAny_bind (wpAny_mono (up I) (fun _ l J=>wpAny_pure (wpAny_pure ⟨rfl,J⟩)) fun _ _ z=>z)) fun _ _ z=>z))
noncomputable def Co(cells:List (Str×Addr)):List (Str×NameKind)->List (Str×Addr)->List (Str×Addr)
 |[],a=>a
 |(n,k)::r,a=>if k==.free then Co cells r ((n,(cells.lookup n).getD 0)::a)else Co cells r a
theorem Dw{cells:List (Str×Addr)}{x:Str}{c:Addr}:∀(names:List (Str×NameKind))(a:List (Str×Addr)),(∀p∈names,p.2=.free->∃c,cells.lookup p.1=some c)-> (∀y d,a.lookup y=some d->cells.lookup y=some d)->(Co cells names a).lookup x=some c->cells.lookup x=some c
 |[],a=>fun _ g h=>g x c h
 |(n,k)::r,a=>fun i g h=>by
  unfold Co at h;by_cases j:(k==NameKind.free)=true
  ·rw[if_pos j]at h;have o:k=.free:=by simpa using j
   obtain⟨d,q⟩:=i (n,k) List.mem_cons_self o;refine Dw r _ (fun p l=>i p (List.mem_cons_of_mem _ l)) (fun y e f=>?_) h;rw[List.lookup_cons]at f;cases b:y==n with
   |true=>
    rw[b]at f;have:y=n:=by simpa using b
    subst this;have m:List.lookup y cells=some d:=q;rw[m]at f⊢;exact f
   |false=>
    rw[b]at f;exact g y e f
  ·rw[if_neg j]at h;exact Dw r a (fun p l=>i p (List.mem_cons_of_mem _ l)) g h
theorem Eh{cells:List (Str×Addr)}{x:Str}:∀(names:List (Str×NameKind))(a:List (Str×Addr)),((a.lookup x).isSome=true∨(x,NameKind.free)∈names)->((Co cells names a).lookup x).isSome=true
 |[],a,h=>h.elim (fun z=>z) fun z=>nomatch z
 |(n,k)::r,a,h=>by
  unfold Co;by_cases b:(k==NameKind.free)=true
  ·rw[if_pos b];refine Eh r _ ?_;rcases h with h|h
   ·refine .inl ?_;rw[List.lookup_cons];cases x==n<;>simp[h]
   ·rcases List.mem_cons.mp h with e|e
    ·refine .inl ?_;have:x=n:=congrArg Prod.fst e;subst this;rw[List.lookup_cons];simp
    ·exact .inr e
  ·rw[if_neg b];refine Eh r _ ?_;rcases h with h|h
   ·exact .inl h
   ·rcases List.mem_cons.mp h with e|e
    ·have:NameKind.free=k:=congrArg Prod.snd e;subst this;exact absurd rfl b
    ·exact .inr e
theorem Dg(h:∀p∈scope.names,p.2=.free->∃c,env.cells.lookup p.1=some c):closureFor scope env=pure (Co env.cells scope.names []):=by
 have go:∀(names:List (Str×NameKind))(b:List (Str×Addr)),(∀p∈names,p.2=.free->∃c,env.cells.lookup p.1=some c)-> (forIn names b (fun(x:Str×NameKind) r=>if(x.2==NameKind.free)=true then do let a<-cellOf env x.1;pure (ForInStep.yield ((x.1,a)::r))else pure (ForInStep.yield r)):Sem (List (Str×Addr)))=pure (Co env.cells names b):=by
  intro names
  induction names with
  |nil=>intro b _;rfl
  |cons p r j=>
   intro b f;obtain⟨n,k⟩:=p;rw[List.forIn_cons];unfold Co;by_cases g:(k==NameKind.free)=true
   ·have l:k=.free:=by simpa using g
    obtain⟨c,d⟩:=f (n,k) List.mem_cons_self l;have d:List.lookup n env.cells=some c:=d;have e:cellOf env n=pure c:=by unfold cellOf;rw[d]
    simp only[g,if_true,e,d,Option.getD_some];exact j _ fun p i=>f p (List.mem_cons_of_mem _ i)
   ·simp only[g,if_false];exact j _ fun p i=>f p (List.mem_cons_of_mem _ i)
 unfold closureFor;exact Eq.trans (congrArg (fun t:Sem (List (Str×Addr))=>t>>=fun m=>pure m) (go scope.names [] h)) rfl
def NL(env:Env)(n:Str)(k:NameKind):NameKind:=if(k==.free&&env.scope.kind==.function&&env.kindOf n==some .cell)=true then .cell else k
theorem Fo{g:Str->NameKind->NameKind}(y:Str):∀names:List (Str×NameKind),(names.map fun p=>(p.1,g p.1 p.2)).lookup y=(names.lookup y).map (g y)
 |[]=>rfl
 |(n,k)::r=>by
  rw[List.map_cons,List.lookup_cons,List.lookup_cons];cases e:y==n with
  |true=>
   have:y=n:=by simpa using e
   subst this;rfl
  |false=>exact Fo y r
theorem DB(scope:Scope)(env:Env)(y:Str):(relabel scope env).names.lookup y=(scope.names.lookup y).map (NL env y):=by
 have e:(relabel scope env).names=scope.names.map fun p=>(p.1,NL env p.1 p.2):=by
  unfold relabel;refine List.map_congr_left fun p _=>?_;obtain⟨n,k⟩:=p;show(if(k==NameKind.free&&env.scope.kind==.function&&env.kindOf n==some .cell)=true then(n,NameKind.cell)else(n,k))=(n,if(k==NameKind.free&&env.scope.kind==.function&&env.kindOf n==some .cell)=true then NameKind.cell else k);by_cases h:(k==NameKind.free&&env.scope.kind==.function&&env.kindOf n==some .cell)=true
  ·rw[if_pos h,if_pos h]
  ·rw[if_neg h,if_neg h]
 rw[e];exact Fo y _
def Bu(a:St)(fs:List Nat):St:=fs.map fun i=>(a[i]?).join
theorem RX{b:St}{fs:List Nat}{j:Nat}{v:V}(h:(Bu b fs)[j]?=some (some v)):∃i,fs[j]?=some i/\b[i]?=some (some v):=by
 unfold Bu at h;rw[List.getElem?_map]at h;cases e:fs[j]? with
 |none=>rw[e]at h;cases h
 |some i=>
  rw[e]at h;refine⟨i,rfl,?_⟩;have a:(b[i]?).join=some v:=rY h;cases c:b[i]? with
  |none=>rw[c]at a;cases a
  |some o=>
   rw[c]at a;have a:o=some v:=a;rw[a]
noncomputable def kindB:Bool->NameKind
 |true=>.cell
 |false=>.local
noncomputable def Yg:Bool->Str->List (Str×NameKind)
 |true,x=>[(x,.cell)]
 |false,_=>[]
noncomputable def Ht:Bool->Str->Addr->List (Str×Addr)
 |true,x,C=>[(x,C+1)]
 |false,_,_=>[]
theorem FO:∀(names:List (Str×NameKind))(n:Nat)(a:List (Str×Addr))(h:Heap),names.filter (fun p=>p.2==.cell)=[]->cellsFrom n names a=a/\pushCells h names=h
 |[],_,_,_,_=>⟨rfl,rfl⟩
 |(y,k)::r,n,a,h,e=>by
  rw[List.filter_cons]at e;cases b:k==NameKind.cell with
  |true=>rw[b]at e;simp at e
  |false=>
   rw[b]at e;unfold cellsFrom pushCells;rw[b];exact FO r n a h (by simpa using e)
theorem Km{x:Str}:∀(names:List (Str×NameKind))(n:Nat)(a:List (Str×Addr))(h:Heap),names.filter (fun p=>p.2==.cell)=[(x,.cell)]->cellsFrom n names a=(x,n)::a/\pushCells h names=h.push {cls:=.type "cell",data:=.cell none}
 |[],_,_,_,e=>by simp at e
 |(y,k)::r,n,a,h,e=>by
  rw[List.filter_cons]at e;cases b:k==NameKind.cell with
  |true=>
   rw[b]at e;simp only[if_true,List.cons.injEq,Prod.mk.injEq]at e;unfold cellsFrom pushCells;rw[b];simp only[if_true];obtain⟨c,d⟩:=FO r (n+1) ((y,n)::a) (h.push {cls:=.type "cell",data:=.cell none}) e.2;rw[c,d,e.1.1];exact⟨rfl,rfl⟩
  |false=>
   rw[b]at e;unfold cellsFrom pushCells;rw[b];exact Km r n a h (by simpa using e)
variable{E:Value->Shared->Prop}{b:Bool}
theorem Iu{M:Model}{globals:Addr}{cl:List (Str×Addr)}{outer:Env}{Q:Env->Shared->Prop}(g:scope.names.filter (fun p=>p.2==.cell)=Yg b x)(h:∀h':Heap,h'.Ns s.heap.objs.size (fun _=>none)->(∀a o,s.heap.get? a=some o->h'.get? a=some o)->(b=true->h'.IsCell (s.heap.objs.size+1) none)->
   Q {scope,locals:=s.heap.objs.size,globals,cells:=Ht b x s.heap.objs.size++cl,qual,func:=none,code:=outer.code,frame:=outer.frame,builtins:=outer.builtins} {s with heap:=h'}):
  wpAny M A (newFunctionEnv scope globals cl [] qual none .none (some outer)) Q E s:=by
 simp only[newFunctionEnv,Option.isSome_some,if_true];refine wpAny_bind (wpAny_alloc ?_);refine wpAny_bind (wpAny_layCells _ (fun name kind cells=>by cases c:kind==NameKind.cell<;>simp[c]) _ _ _ _ ?_);rw[List.forIn_nil];refine wpAny_bind (wpAny_pure (wpAny_pure ?_));have sz:(s.heap.push {cls:=.type "dict",data:=.dict #[]}).objs.size=s.heap.objs.size+1:=Heap.size_push ..;cases b with
 |false=>
  obtain⟨d,f⟩:=FO scope.names (s.heap.push {cls:=.type "dict",data:=.dict #[]}).objs.size cl (s.heap.push {cls:=.type "dict",data:=.dict #[]}) g;show Q {scope:=_,locals:=_,globals:=_,cells:=cellsFrom (s.heap.push {cls:=.type "dict",data:=.dict #[]}).objs.size scope.names cl,qual:=_,func:=_,code:=_,frame:=_,builtins:=_} {s with heap:=pushCells (s.heap.push {cls:=.type "dict",data:=.dict #[]}) scope.names};rw[d,f];exact h _ (Heap.Ns.new s.heap (.type "dict")) (fun a o e=>Heap.get?_push_of_some _ e) (fun z=>nomatch z)
 |true=>
  obtain⟨d,f⟩:=Km scope.names (s.heap.push {cls:=.type "dict",data:=.dict #[]}).objs.size cl (s.heap.push {cls:=.type "dict",data:=.dict #[]}) g;show Q {scope:=_,locals:=_,globals:=_,cells:=cellsFrom (s.heap.push {cls:=.type "dict",data:=.dict #[]}).objs.size scope.names cl,qual:=_,func:=_,code:=_,frame:=_,builtins:=_} {s with heap:=pushCells (s.heap.push {cls:=.type "dict",data:=.dict #[]}) scope.names};rw[d,f,sz];exact h _ ((Heap.Ns.new s.heap (.type "dict")).push _) (fun a o e=>Heap.get?_push_of_some _ (Heap.get?_push_of_some _ e)) (fun _=>⟨_,by rw[<-sz];exact Heap.get?_push_size _ rfl,rfl⟩)
structure Cb(X:Cx)(scope:Scope)(x:Str)(fv:List Str)(fs:List Nat)(b:Bool:=false):Prop where
 kind:scope.kind=.function
 cW:scope.names.filter (fun p=>p.2==.cell)=Yg b x
 names:∀p∈scope.names,p.2=.local->scope.names.lookup p.1=some .local
 tg:scope.names.lookup x=some (kindB b)
 free:∀p∈scope.names,p.2=.free->X.env.scope.names.lookup p.1=some .cell
 nd:(x::fv).Nodup
 ko:∀(j:Nat) y,fv[j]?=some y->∃i,fs[j]?=some i/\X.N[i]?=some y/\scope.names.lookup y=some .free
 len:fv.length=fs.length
def QP(a:Scope)(N:List Str)(scope:Scope)(x:Str)(fv:List Str)(fs:List Nat)(b:Bool:=false):Bool:=
 scope.kind==.function&&scope.names.filter (fun p=>p.2==.cell)==Yg b x&&(scope.names.all fun p=>p.2 !=.local||scope.names.lookup p.1==some .local)&&scope.names.lookup x==some (kindB b)&&
 (scope.names.all fun p=>p.2 !=.free||a.names.lookup p.1==some .cell)&&decide (x::fv).Nodup&&fs.map (N[·]?)==fv.map some&&(fv.all fun y=>scope.names.lookup y==some .free)
theorem Cb.of{fv:List Str}{fs:List Nat}(h:QP X.env.scope X.N scope x fv fs b=true):Cb X scope x fv fs b:=by
 unfold QP at h;simp only[Bool.and_eq_true,List.all_eq_true,Bool.or_eq_true,bne_iff_ne,beq_iff_eq,decide_eq_true_eq]at h;obtain⟨⟨⟨⟨⟨⟨⟨i,k⟩,m⟩,n⟩,o⟩,q⟩,g⟩,r⟩:=h;have hlen:fs.length=fv.length:=by
  have:=congrArg List.length g;simpa using this
 refine⟨i,k,fun p c d=>(m p c).resolve_left fun z=>z d,n,fun p c d=>(o p c).resolve_left fun z=>z d,q,fun j y e=>?_,hlen.symm⟩;have s:j<fv.length:=(rX e).1;have f:=congrArg (fun l=>l[j]?) g;simp only[List.getElem?_map,e]at f;have a:j<fs.length:=by lia
 rw[rW a]at f;refine⟨fs[j],rW a,?_,r y (rZ e)⟩;simpa using f
abbrev CK(X:Cx)(ex:List (Str×Addr))(N':List Str)(scope:Scope)(C:Addr)(s0:Shared)(H0:Hp)(fp:List Addr):Cx where
 prog:=X.prog
 w:=X.w
 K:=X.K
 mg:=X.mg
 base:=X.base
 A:=X.A
 N:=N'
 s₀:=s0
 H₀:=H0
 env:=compEnvC scope (ex++Co X.env.cells scope.names []) C X.env
 outer:=X.stack
 stack:=X.stack
 ex:=fp
 fn:=fun y=>(ex.lookup y).isSome
 calm:=X.calm
 pn:=[]
 xe:=fun _ _=>False
abbrev NM(X:Cx)(a:List Str)(scope:Scope)(C:Addr)(b:Shared)(c:Hp)(d:List Addr):Cx:=CK X [] a scope C b c d
variable{y:Str}{C:Addr}
section
variable{X:Cx} {pins:List (Addr×Obj)} {σ:St} {H H':Hp} {s s':Shared} {scope:Scope} {x:Str} {fv:List Str} {fs:List Nat} {fp:List Addr} {b:Bool}
theorem Cb.cells(ok:Cb X scope x fv fs b)(I:Inv X pins σ H s):∀p∈scope.names,p.2=.free->∃c,X.env.cells.lookup p.1=some c:=fun p a d=>I.ok.has p.1 (.inl (ok.free p a d))
theorem Cb.look(ok:Cb X scope x fv fs b)(I:Inv X pins σ H s){c:Addr}(h:(Co X.env.cells scope.names []).lookup y=some c):X.env.cells.lookup y=some c:=
 Dw scope.names [] (ok.cells I) (fun _ _ z=>by cases z) h
theorem Iw{c:Addr}(h:(Ht b x C).lookup y=some c):b=true/\y=x/\c=C+1:=by
 cases b with
 |false=>cases h
 |true=>
  have h:(List.lookup y [(x,C+1)])=some c:=h;rw[List.lookup_cons]at h;cases e:y==x with
  |true=>rw[e]at h;cases h;exact⟨rfl,eq_of_beq e,rfl⟩
  |false=>rw[e]at h;cases h
theorem PQ(ok:Cb X scope x fv fs b)(I:Inv X pins σ H s)(E:∀b∈fp,Fg X pins H b)(A:∀b∈fp,∃o,s.heap.get? b=some o){w:Heap}{m:Str->Option Value}{tk:Nat}(R:w.Ns s.heap.objs.size m)(kept:∀b o,s.heap.get? b=some o->w.get? b=some o)(B:b=true->w.IsCell (s.heap.objs.size+1) none):Inv (CK X (Ht b x s.heap.objs.size) (x::fv) scope s.heap.objs.size s H fp) [] (none::Bu σ fs) H {s with heap:=w,toks:=tk}:=by
 have C:∀{y c},(Ht b x s.heap.objs.size++Co X.env.cells scope.names []).lookup y=some c->X.env.cells.lookup y=some c∨(b=true/\y=x/\c=s.heap.objs.size+1):=fun{y c} h=>by
  rw[List.lookup_append]at h;cases e:(Ht b x s.heap.objs.size).lookup y with
  |some d=>rw[e]at h;cases h;exact .inr (Iw e)
  |none=>rw[e]at h;exact .inl (ok.look I (by simpa using h))
 have lt:∀{y c},X.env.cells.lookup y=some c->c<s.heap.objs.size:=fun h=>by obtain⟨_,o,n,_⟩:=I.cell _ _ h;exact Heap.lt_size n
 have G:X.env.scope.kind=.function:=I.ok.kind;refine⟨⟨I.ok.mod,ok.kind,I.ok.glob,I.ok.blt,Nat.le_refl _,fun y z c w S=>?_,fun y f=>?_,fun y c t h=>?_,I.ok.hd,I.ok.frames,.inl rfl,fun b g=>⟨?_,fun y c e z=>?_⟩,I.bs,
  Nat.le_trans I.ok.Sb I.sz,fun b o e g=>?_,fun b g J=>?_,I.stack,I.QF⟩,rfl,I.bare,Un.kept kept,⟨m,R,fun i y v F q e3=>?_⟩,fun y c e=>?_,I.fresh,fun y c e=>?_,fun p T=>absurd (show p∈([]:List (Addr×Obj))from T) (by simp),I.Ap.kept kept,?_⟩
 ·rcases C w with a|⟨_,a1,a2⟩<;>rcases C S with d|⟨_,U,d2⟩
  ·exact I.ok.inj y z c a d
  ·have:=lt a;lia
  ·have:=lt d;lia
  ·rw[a1,U]
 ·have f:(relabel scope X.env).names.lookup y=some .cell∨(relabel scope X.env).names.lookup y=some .free:=f;rw[DB]at f;cases e:scope.names.lookup y with
  |none=>rw[e]at f;rcases f with z|z<;>cases z
  |some k=>
   show∃c,(Ht b x s.heap.objs.size++Co X.env.cells scope.names []).lookup y=some c;rw[List.lookup_append];rw[e]at f;have f:NL X.env y k=.cell∨NL X.env y k=.free:=f.elim (fun z=>.inl (rY z)) fun z=>.inr (rY z);by_cases K:k=.free
   ·subst K;have:=Eh (cells:=X.env.cells) scope.names [] (.inr (PySem.mem_of_lookup e));obtain⟨c,W⟩:=Option.isSome_iff_exists.mp this;rw[W];cases(Ht b x s.heap.objs.size).lookup y<;>exact⟨_,rfl⟩
   ·have q:NL X.env y k=k:=by
     unfold NL;have:(k==NameKind.free)=false:=by simpa using K
     rw[this];rfl
    rw[q]at f;rcases f with z|z
    ·subst z;have L:(y,NameKind.cell)∈scope.names.filter (fun p=>p.2==.cell):=List.mem_filter.mpr ⟨PySem.mem_of_lookup e,rfl⟩;rw[ok.cW]at L;cases b with
     |false=>cases L
     |true=>
      have:y=x:=congrArg Prod.fst (List.mem_singleton.mp L);subst this;exact⟨s.heap.objs.size+1,by show(List.lookup y [(y,s.heap.objs.size+1)]).or _=_;rw[List.lookup_cons];simp⟩
    ·exact absurd z K
 ·have t:((Ht b x s.heap.objs.size).lookup y).isSome=true:=t;obtain⟨d,hd⟩:=Option.isSome_iff_exists.mp t;have h:(Ht b x s.heap.objs.size++Co X.env.cells scope.names []).lookup y=some c:=h;rw[List.lookup_append,hd]at h;cases h;obtain⟨_,_,rfl⟩:=Iw hd;exact Nat.le_succ _
 ·obtain⟨o,n⟩:=A b g;exact Nat.ne_of_lt (Heap.lt_size n)
 ·rcases C e with a|⟨_,_,a2⟩
  ·exact(E b g).2.2.2.2.1 y c a z
  ·obtain⟨o,n⟩:=A b g;have:=Heap.lt_size n;lia
 ·rcases(E b g).2.2.2.1 with z|z
  ·exact I.ok.Sj b o e z
  ·exact absurd (Nat.lt_of_lt_of_le (Heap.lt_size e) (Nat.le_trans I.ok.Sb z)) (Nat.lt_irrefl _)
 ·rcases List.mem_cons.mp (I.LU b J)with z|z
  ·exact(E b g).2.1 z
  ·exact(E b g).2.2.1 z
 ·cases i with
  |zero=>
   have q:(some none:Option (Option V))=some (some v):=q;cases q
  |succ j=>
   have F:fv[j]?=some y:=F;have q:(Bu σ fs)[j]?=some (some v):=q;obtain⟨i,Y,Z⟩:=RX q;obtain⟨i',Q,g4,M⟩:=ok.ko j y F;rw[Y]at Q;cases Q;have N:X.env.scope.names.lookup y=some .cell:=ok.free (y,.free) (PySem.mem_of_lookup M) rfl;obtain⟨m0,_,O⟩:=I.loc;obtain⟨u,r,l⟩:=O i y v g4 Z (.inr (.inl N));refine⟨u,r,?_⟩;rcases l with⟨k,_⟩|⟨_,c,e,o,n,hd⟩
   ·have k:X.env.scope.names.lookup y=some .local:=k;rw[N]at k;cases k
   ·obtain⟨c',D⟩:=Option.isSome_iff_exists.mp (Eh (cells:=X.env.cells) scope.names [] (.inr (PySem.mem_of_lookup M)));have:=ok.look I D;rw[e]at this;cases this;have ny:(Ht b x s.heap.objs.size).lookup y=none:=by
     cases ey:(Ht b x s.heap.objs.size).lookup y with
     |none=>rfl
     |some d=>
      obtain⟨_,z,_⟩:=Iw ey;exact absurd (show x∈fv from z▸rZ (l:=fv) (show fv[j]?=some y from F)) (List.nodup_cons.mp ok.nd).1
    refine .inr ⟨.inl ?_,c,by show(Ht b x s.heap.objs.size++Co X.env.cells scope.names []).lookup y=some c;rw[List.lookup_append,ny];exact D,o,kept _ _ n,hd⟩;show(relabel scope X.env).names.lookup y=some .cell;rw[DB,M];show some (NL X.env y .free)=_;have P:X.env.kindOf y=some .cell:=N;unfold NL;rw[G,P];rfl
 ·rcases C e with a|⟨g,_,rfl⟩
  ·obtain⟨v,o,n,hd⟩:=I.cell y c a;exact⟨v,o,kept _ _ n,hd⟩
  ·exact⟨none,B g⟩
 ·rcases C e with a|⟨_,_,rfl⟩
  ·exact I.C_ y c a
  ·exact I.Ap.fresh (Nat.le_succ _)
 ·show(none::Bu σ fs).length=(x::fv).length;simp[Bu,ok.len]
theorem PR{e:St}{f:List Str}{ex:List (Str×Addr)}(I:Inv X pins σ H s)(a:∀b∈fp,Fg X pins H b)(c:Inv (CK X ex f scope C s H fp) [] e H' s'):Inv X pins σ H' s':=
 I.Zx (ch:=fp) c.os c.base c.Ap c.bare fun b d=>⟨(a b d).2.2.2.1,(a b d).2.1,(a b d).2.2.2.2.1,(a b d).2.2.2.2.2⟩
theorem Inv.off{h':Heap}(I:Inv X pins σ H s)(f:Fg X pins H C)(a:Heap.SameBut C s.heap h'):Inv X pins σ H {s with heap:=h'}:=
 I.turned (t':=s.toks) (fun b o c e=>a.extBut b o c e) f.1 (fun z=>f.2.1 z) f.2.2.2.1 f.2.2.2.2.1 f.2.2.2.2.2
end
def Yh(X:Cx)(a:List Expr)(t:TT):Prop:=
 ∀(pins:List (Addr×Obj))(s:Shared)(b:St)(H:Hp)(Q:Bool->Hp->Prop),Inv X pins b H s->t b H Q->
  wpAny (model X.prog X.w) X.A (forIn a true fun c r=>if r=true then do let ok<-isTrue c X.env (eval c X.env);pure (ForInStep.yield ok)else pure (ForInStep.yield r)) (TP X pins b Q) X.xe s
def Gn:TT:=fun _ H Q=>Q true H
theorem Lm:Yh X [] Gn:=fun _ _ _ H _ I h=>wpAny_tests_nil ⟨H,I,h⟩
theorem IJ{c:Expr}{t:TT}(h:PT X c t):Yh X [c] t:=fun pins s a H Q I q=>wpAny_tests_one (h pins s a H Q I q)
def Cc(J:It)(h:TT)(j:TE)(fs:List Nat)(d:St)(H:Hp)(Q:VK):Prop:=∀D,H D=none->∃W:Nat->Nat->Hp->Prop,(∃m,W 0 m (upd H D (.lst [])))/\∀i m a,W i m a-> (J.stop i a/\Q (.ref D) a)∨(J.go i a/\∀v e,J.Oq i a v e->h (some v::Bu d fs) e fun ok f=>
  if ok=true then j (some v::Bu d fs) f fun y g=>∃c,g D=some (.lst c)/\c.length<sizeLine/\∃b,b<m/\W (i+1) b (upd g D (.lst (c++[y])))else∃b,b<m/\W (i+1) b f)
def Kn(b:TI)(c:TT)(d:TE)(fs:List Nat):TE:=fun a H Q=>b a H fun J e=>Cc J c d fs a e Q
variable{J:It}{Q:VK}{it:Addr}
section
variable{X:Cx} {elt iter:Expr} {x:Str} {px pos:Pos} {ifs:List Expr} {scope:Scope} {fv:List Str} {fs:List Nat} {wi:TI} {te:TE} {tc:TT}
theorem NN(hc:X.calm=true)(ok:Cb X scope x fv fs b)(kq:∀C s0 H0 f,Yh (CK X (Ht b x C) (x::fv) scope C s0 H0 f) ifs tc)(he:∀C s0 H0 f,PE (CK X (Ht b x C) (x::fv) scope C s0 H0 f) elt te){pins:List (Addr×Obj)}{z:St}{f:List Addr}{L:Nat->Heap->Prop}(I:Inv X pins z H s)(T:Turn X.prog X.w X.K (.Name x px) J f it L)(st:L 0 s.heap)(hf:∀b∈f,Fg X pins H b)(rd:Cc J tc te fs z H Q){RR:Value->Addr->Result->Shared->Prop}(ku:∀D C B g,Inv X pins z g B->Fg X pins g C->(∃m,B.heap.Ns C m)->Q (.ref D) g->RR (.ref D) C (.ok .next) B):
  wpAny (model X.prog X.w) X.A (newList []) (fun M c=>wpAny (model X.prog X.w) X.A (newFunctionEnv scope X.env.globals (Co X.env.cells scope.names []) [] X.env.qual none .none (some X.env)) (fun j s4=>
   codeAny (model X.prog X.w) X.A (.compStart (.ListComp elt [⟨.Name x px,iter,ifs,0⟩] scope pos) 0 (.ref it) M {j with scope:=relabel scope X.env}) (RR M j.locals) s4) E c) E s:=by
 obtain⟨W,⟨m0,w0⟩,turn⟩:=rd s.heap.objs.size I.fresh;have I3:Inv X pins z (upd H s.heap.objs.size (.lst [])) {s with heap:=s.heap.push {cls:=.type "list",dict:=none,data:=.seq ([]:List Value).toArray}}:=I.Vz (its:=[]) (ys:=[]) (t':=s.toks) .nil (Nat.zero_le _);refine wpAny_newObj_type ?_;show wpAny _ _ _ _ _ ({s with heap:=s.heap.push {cls:=.type "list",dict:=none,data:=.seq ([]:List Value).toArray}}:Shared);generalize kv:({s with heap:=s.heap.push {cls:=.type "list",dict:=none,data:=.seq ([]:List Value).toArray}}:Shared)=c at I3⊢;refine Iu ok.cW fun h1 kx kept N=>?_;have eh:c.heap=s.heap.push {cls:=.type "list",dict:=none,data:=.seq ([]:List Value).toArray}:=by rw[<-kv]
 have O:∀b o,s.heap.get? b=some o->c.heap.get? b=some o:=fun b o e=>by rw[eh];exact Heap.get?_push_of_some _ e
 have ky:∀b∈f,∃o,c.heap.get? b=some o:=fun b d=>let⟨o,ho,_⟩:=T.obj 0 _ st b d;⟨o,O b o ho⟩;have kz:∀b∈f,b≠s.heap.objs.size:=fun b d=>let⟨o,ho,_⟩:=T.obj 0 _ st b d;Nat.ne_of_lt (Heap.lt_size ho);have k:∀b∈f,Fg X pins (upd H s.heap.objs.size (.lst [])) b:=fun b d=>⟨by rw[AH (kz b d)];exact(hf b d).1,(hf b d).2⟩;have I4:=PQ (tk:=c.toks) ok I3 k ky kx kept N;have P:L 0 h1:=T.keep 0 _ _ st fun b d o e=>kept b o (O b o e);have h:∀{g:Hp},(∀b∈f,g b=none)->∀a∈f,Fg (CK X (Ht b x c.heap.objs.size) (x::fv) scope c.heap.objs.size c (upd H s.heap.objs.size (.lst [])) f) [] g a:=fun hn b d=>
  ⟨hn b d,(I4.ok.cP b d).1,I4.ok.Sk b d,.inl d,(I4.ok.cP b d).2,fun p hp=>absurd hp (by simp)⟩
 have hg:PG (CK X (Ht b x c.heap.objs.size) (x::fv) scope c.heap.objs.size c (upd H s.heap.objs.size (.lst [])) f) (.Name x px) (BR 0):=by
  have tg:=ok.tg;cases b with
  |false=>exact LW ok.nd rfl (.inl (lookup_relabel_local tg)) (.inr (lookup_relabel_local tg))
  |true=>exact LW ok.nd rfl (.inr (show(relabel scope X.env).names.lookup x=_ from by rw[DB,tg];rfl)) (.inl (show(List.lookup x [(x,c.heap.objs.size+1)]).isSome=true from by rw[List.lookup_cons];simp))
 have loop:codeAny (model X.prog X.w) X.A (.compLoop (.ListComp elt [⟨.Name x px,iter,ifs,0⟩] scope pos) 0 (.ref it) (.ref s.heap.objs.size) (compEnvC scope (Ht b x c.heap.objs.size++Co X.env.cells scope.names []) c.heap.objs.size X.env)) (RR (.ref s.heap.objs.size) c.heap.objs.size)
   {c with heap:=h1}:=by
  refine PN (fun n B=>∃i o g,Inv (CK X (Ht b x c.heap.objs.size) (x::fv) scope c.heap.objs.size c (upd H s.heap.objs.size (.lst [])) f) [] (o::Bu z fs) g B/\L i B.heap/\(∀b∈f,g b=none)/\W i n g) ?_ m0
   ⟨0,none,_,I4,P,fun b d=>(k b d).1,w0⟩
  rintro n s5 ⟨i,o,H5,I5,R,S,w5⟩;rcases turn i n H5 w5 with⟨stop,q⟩|⟨go,step⟩
  ·refine BH (T.done (CK X (Ht b x c.heap.objs.size) (x::fv) scope c.heap.objs.size c (upd H s.heap.objs.size (.lst [])) f) rfl rfl rfl hc i [] s5 _ H5 _ I5 (h S) R stop) fun r s6 ⟨hr,I6⟩=>?_;subst hr;obtain⟨m,hm,_⟩:=I6.loc;exact ku _ _ s6 H5 (PR I3 k I6) (I3.Ot (Nat.le_refl _) I6.free) ⟨m,hm⟩ q
  ·refine BH (T.item (CK X (Ht b x c.heap.objs.size) (x::fv) scope c.heap.objs.size c (upd H s.heap.objs.size (.lst [])) f) rfl rfl rfl hc i [] s5 _ H5 _ I5 (h S) R go) fun r s6 ⟨u,hr,h6⟩=>?_;subst hr;refine BH h6 fun _ s7 ⟨v,H7,I7,r7,y7,l,k_⟩=>?_;have lA:=I7.pinned (h k_) (T.obj _ _ l);have back:∀{U:St}{F:Hp}{V:Shared},Inv (CK X (Ht b x c.heap.objs.size) (x::fv) scope c.heap.objs.size c (upd H s.heap.objs.size (.lst [])) f) ([]++Ig f s7.heap) U F V->L (i+1) V.heap/\∀b∈f,F b=none:=fun{U F V} G=>
    ⟨T.keep _ _ _ l fun b d o e=>(G.pin (b,o) (Ds d e)).1,fun b d=>by
     obtain⟨o,e,_⟩:=T.obj _ _ l b d;exact(G.pin (b,o) (Ds d e)).2.1⟩
   refine BH (hg _ s7 _ H7 v u (fun σ2 H2=>σ2=some v::Bu z fs/\H2=H7) lA r7 ⟨rfl,rfl⟩) fun _ s8 ⟨σ8,H8,I8,e8,lB⟩=>?_;subst e8 lB;refine BH (kq _ _ _ _ _ s8 _ H8 _ I8 (step v H8 y7)) fun ok V ⟨F,G,q9⟩=>?_;cases ok with
   |false=>
    obtain⟨m',t,w9⟩:=q9;obtain⟨b1,b2⟩:=back G;exact⟨m',t,i+1,some v,F,G.ES,b1,b2,w9⟩
   |true=>
    refine BH (he _ _ _ _ _ V _ F _ G q9) fun y s10 ⟨yv,Y,lC,r10,ys,hD,hz,m',t,w10⟩=>?_;refine BH (Dd _ s10 _ Y (.ref s.heap.objs.size) [yv] (.ref s.heap.objs.size) [y] (fun _ g=>g=upd Y s.heap.objs.size (.lst (ys++[yv]))) lC rfl (.cons r10 .nil) ⟨_,ys,yv,rfl,rfl,hD,hz,rfl⟩) fun _ s11 ⟨_,qb,Z,_,e11⟩=>?_;subst e11;obtain⟨b1,b2⟩:=back Z;exact⟨m',t,i+1,some v,_,Z.ES,b1,b2,w10⟩
 exact codeAny_compStart_list loop (T.self _ 0 _ _ _ P loop)
theorem Td(b:Bool)(i:X.calm=true)(ok:Cb X scope x fv fs b)(j:PI X (.Name x px) iter wi)(c:∀C d e a,Yh (CK X (Ht b x C) (x::fv) scope C d e a) ifs tc)(k:∀C d e a,PE (CK X (Ht b x C) (x::fv) scope C d e a) elt te)(l:∀x,foldedSetIterable iter X.env x=pure x:=by intro _;rfl):PE X (.ListComp elt [⟨.Name x px,iter,ifs,0⟩] scope pos) (Kn wi tc te fs):=by
 intro pins s n H Q I h;rw[eval_ListComp];refine wpAny_comprehension_free (use:=none) rfl l (Dg (ok.cells I)) ok.kind ok.names (BH (j pins s n H _ I h) fun B E o=>BH o fun p F r=>?_);obtain⟨G,a,K,J,L,rfl,t,T,f,u,v⟩:=r;exact NN i ok c k t T f u v fun D C M w y z ⟨m,A⟩ q=>⟨m,A,fun N g=>⟨.ref D,w,y.off z g,rfl,q⟩⟩
theorem IK(e:X.calm=true)(ok:Cb X scope x fv fs)(f:PI X (.Name x px) iter wi)(a:∀C b c d,Yh (NM X (x::fv) scope C b c d) ifs tc)(g:∀C b c d,PE (NM X (x::fv) scope C b c d) elt te)(h:∀x,foldedSetIterable iter X.env x=pure x:=by intro _;rfl):PE X (.ListComp elt [⟨.Name x px,iter,ifs,0⟩] scope pos) (Kn wi tc te fs):=Td false e ok f a g h
theorem NO(b:Bool){i:Nat}{d c:Pos}(L:X.calm=true)(ok:Cb X scope x fv fs b)(M:X.N.Nodup)(l:X.N[i]?=some y)(O:Loc X.env.scope y)(P:PI X (.Name x px) iter wi)(n:∀C o p j,Yh (CK X (Ht b x C) (x::fv) scope C o p j) ifs tc)(R:∀C o p j,PE (CK X (Ht b x C) (x::fv) scope C o p j) elt te)(r:swapsWith (.ListComp elt [⟨.Name x px,iter,ifs,0⟩] scope pos) (some (.Name y d)) c.line X.env=pure true:=by rfl)(t:X.fn y=true∨X.env.scope.names.lookup y=some .local:=by first|exact .inl rfl|exact .inr rfl|assumption)(S:∀x,foldedSetIterable iter X.env x=pure x:=by intro _;rfl):PS X (.Assign [.Name y d] (.ListComp elt [⟨.Name x px,iter,ifs,0⟩] scope pos) c) (fun D f H=>Kn wi tc te fs f H fun v g=>D.nx (f.set i (some v)) g):=by
 intro pins s f H D I h;rw[exec_Assign_Name_used _ _ _ _ r];refine wpAny_bind (wpAny_standAt (wpAny_bind ?_));show wpAny _ X.A (comprehension (.ListComp elt [⟨.Name x px,iter,ifs,0⟩] scope pos) scope X.env _ (newList []) false (eval iter X.env) (some (assign (.Name y d) X.env))>>=fun _=>pure ()) _ _ s;refine wpAny_bind (BH (wpAny_comprehension_free (use:=some (assign (.Name y d) X.env)) (Q:=fun _ k=>SP X pins D .next k) rfl S (Dg (ok.cells I)) ok.kind ok.names (BH (P pins s f H _ I h) fun xv s1 U=>BH U fun V s2 W=>?_)) fun _ k Y=>wpAny_pure (wpAny_pure Y));obtain⟨it,j,tn,J,H2,rfl,Z,T,u,f2,rd⟩:=W;refine NN (Q:=fun v g=>D.nx (f.set i (some v)) g) L ok n R Z T u f2 rd fun K C k g I' w ⟨m,hm⟩ q=>?_;show wpAny _ X.A (assign (.Name y d) X.env (.ref K)) _ _ k;refine wpAny_assign_Name (Kb I' M l O (v:=.ref K) rfl (fun cS B ⟨a,E,ha⟩=>?_) t);have F:C≠a:=by
  rcases ha with z|z
  ·rw[z];exact w.2.1
  ·exact fun e=>w.2.2.2.2.1 y a z e.symm
 exact⟨m,hm.sameBut E F,fun h' G=>⟨_,g,B.off w G,q⟩⟩
theorem FP{i:Nat}{j a:Pos}(l:X.calm=true)(ok:Cb X scope x fv fs)(m:X.N.Nodup)(b:X.N[i]?=some y)(n:Loc X.env.scope y)(o:PI X (.Name x px) iter wi)(c:∀C d e f,Yh (NM X (x::fv) scope C d e f) ifs tc)(p:∀C d e f,PE (NM X (x::fv) scope C d e f) elt te)(g:swapsWith (.ListComp elt [⟨.Name x px,iter,ifs,0⟩] scope pos) (some (.Name y j)) a.line X.env=pure true:=by rfl)(h:X.fn y=true∨X.env.scope.names.lookup y=some .local:=by first|exact .inl rfl|exact .inr rfl|assumption)(q:∀x,foldedSetIterable iter X.env x=pure x:=by intro _;rfl):PS X (.Assign [.Name y j] (.ListComp elt [⟨.Name x px,iter,ifs,0⟩] scope pos) a) (fun D k H=>Kn wi tc te fs k H fun v r=>D.nx (k.set i (some v)) r):=NO false l ok m b n o c p g h q
end
theorem Ei{l:TT}{f:TE}{fs:List Nat}{h:St}(item g:Nat->V)(p:Nat->Bool)(A:n<=sizeLine)(j:∀i D ys,i<n->H D=none->J.go i (upd H D (.lst ys)))(s:∀i D ys v o,i<n->H D=none->J.Oq i (upd H D (.lst ys)) v o->v=item i/\o=upd H D (.lst ys))(k:∀D ys,H D=none->J.stop n (upd H D (.lst ys)))(t:∀i D ys (R:Bool->Hp->Prop),i<n->H D=none->R (p i) (upd H D (.lst ys))->l (some (item i)::Bu h fs) (upd H D (.lst ys)) R)(u:∀i D ys (R:VK),i<n->H D=none->p i=true->R (g i) (upd H D (.lst ys))->f (some (item i)::Bu h fs) (upd H D (.lst ys)) R)(w:∀D,H D=none->Q (.ref D) (upd H D (.lst (((List.range n).filter p).map g)))):
  Cc J l f fs h H Q:=by
 intro D c;refine⟨fun i m q=>m=n-i/\i<=n/\q=upd H D (.lst (((List.range i).filter p).map g)),⟨n,by simp⟩,?_⟩;rintro i m q ⟨rfl,B,rfl⟩;by_cases a:i<n
 ·refine .inr ⟨j i D _ a c,fun v x y=>?_⟩;obtain⟨rfl,rfl⟩:=s i D _ v x a c y;refine t i D _ _ a c ?_;have r:∀b,p i=b->((List.range (i+1)).filter p).map g=((List.range i).filter p).map g++(if b=true then[g i]else[]):=fun b d=>by
   rw[List.range_succ,List.filter_append,List.map_append];cases b with
   |true=>simp[d]
   |false=>simp[d]
  cases d:p i with
  |false=>
   show∃z,z<n-i/\_;refine⟨n-(i+1),by lia,rfl,a,?_⟩;rw[r false d];simp
  |true=>
   show f _ _ _;refine u i D _ _ a c d ⟨_,AB,?_,n-(i+1),by lia,rfl,a,?_⟩
   ·rw[List.length_map];have:=List.length_filter_le p (List.range i);rw[List.length_range]at this;lia
   ·rw[Vh,r true d];simp
 ·have e:i=n:=by lia
  subst e;exact .inl ⟨k D _ c,w D c⟩
theorem AG.put{a:Hp}{D:Addr}{o:HO}(s:AG H a)(h:H D=none):AG H (upd a D o):=fun b u e=>by
 rw[AH (AV e h)];exact s b u e
theorem AG.new{D:Addr}{o:HO}(h:H D=none):AG H (upd H D o):=(AG.refl H).put h
theorem CU{f:TE}{fs:List Nat}{o:St}(item:Nat->V)(Ok:Nat->V->Prop)(E:n<=sizeLine)(g:∀i H2,i<n->AG H H2->J.go i H2)(w:∀i H2 v p,i<n->AG H H2->J.Oq i H2 v p->v=item i/\p=H2)(h:∀H2,AG H H2->J.stop n H2)(x:∀i H2 (R:VK),i<n->AG H H2->(∀y d,AG H2 d->Ok i y->R y d)->f (some (item i)::Bu o fs) H2 R)(A:∀D H2 ys,H D=none->AG H H2->H2 D=some (.lst ys)->ys.length=n->(∀(i:Nat) y,ys[i]?=some y->Ok i y)->Q (.ref D) H2):
  Cc J Gn f fs o H Q:=by
 intro D k;refine⟨fun i m H2=>m=n-i/\i<=n/\AG H H2/\∃ys,H2 D=some (.lst ys)/\ys.length=i/\∀(j:Nat) y,ys[j]?=some y->Ok j y,⟨n,by simp,Nat.zero_le _,AG.new k,[],AB,rfl,fun j y z=>by simp at z⟩,?_⟩;rintro i m H2 ⟨rfl,F,c,ys,r,s,t⟩;by_cases a:i<n
 ·refine .inr ⟨g i H2 a c,fun v d B=>?_⟩;obtain⟨rfl,rfl⟩:=w i H2 v d a c B;show f _ _ _;refine x i _ _ a c fun y G u l=>⟨ys,u _ _ r,by lia,n-(i+1),by lia,rfl,a,(c.trans u).put k,ys++[y],AB,by simp[s],fun j z b=>?_⟩;by_cases C:j<ys.length
  ·rw[List.getElem?_append_left C]at b;exact t j z b
  ·rw[List.getElem?_append_right (by lia)]at b;have e:j-ys.length=0:=by
    cases q:j-ys.length with
    |zero=>rfl
    |succ I=>rw[q]at b;simp at b
   rw[e]at b;have:y=z:=by simpa using b
   subst this;have:j=i:=by lia
   subst this;exact l
 ·have e:i=n:=by lia
  subst e;exact .inl ⟨h H2 c,A D H2 ys k c r s t⟩
open Builtin Builtin.Str
theorem WE(n m:Nat):max 0 (min (m:Int) (n:Int))=((min m n:Nat):Int):=by
 rw[Int.max_eq_right (Int.le_min.mpr ⟨Int.natCast_nonneg _,Int.natCast_nonneg _⟩)];by_cases h:m<=n
 ·rw[Nat.min_eq_left h,Int.min_eq_left (Int.ofNat_le.mpr h)]
 ·rw[Nat.min_eq_right (Nat.le_of_not_le h),Int.min_eq_right (Int.ofNat_le.mpr (Nat.le_of_not_le h))]
theorem Te(n:Nat){i:Int}(h:i<0):max 0 (min (i+(n:Int)) (n:Int))=(((i+(n:Int)).toNat:Nat):Int):=by
 rw[Int.min_eq_left (by lia),Int.toNat_eq_max,Int.max_comm]
theorem Tf(l u:Option Int)(n:Nat):strSliceIndices l u 1 n=(List.range (HT.Gi n n u-HT.Gi n 0 l)).map (HT.Gi n 0 l+·):=by
 have clip:∀(v:Option Int)(d:Nat),(match v with|none=>(d:Int)|some i=>max 0 (min (if i<0 then i+(n:Int)else i) (n:Int)))=((HT.Gi n d v:Nat):Int):=by
  intro v d;cases v with
  |none=>rfl
  |some i=>
   show max 0 (min (if i<0 then i+(n:Int)else i) (n:Int))=(((if i<0 then(i+(n:Int)).toNat else min i.toNat n):Nat):Int);by_cases h:i<0
   ·simp only[if_pos h];exact Te n h
   ·simp only[if_neg h];obtain⟨m,rfl⟩:=Int.eq_ofNat_of_zero_le (Int.not_lt.mp h);exact WE n m
 have c:=clip l 0;have e:=clip u n;unfold strSliceIndices sliceRange;simp only[show(1:Int)>0 by decide,if_true,Int.one_mul,Int.ediv_one];have f:((0:Nat):Int)=0:=rfl;rw[f]at c;have gen:∀(A B:Int)(a b:Nat),A=(a:Int)->B=(b:Int)->List.map (fun k:Nat=>(A+(k:Int)).toNat) (List.range (if A<B then B-A+1-1 else 0).toNat)=List.map (fun x=>a+x) (List.range (b-a)):=by
  intro A B a b g j;subst g j;have o:(if(a:Int)<(b:Int)then(b:Int)-(a:Int)+1-1 else 0).toNat=b-a:=by
   split<;>lia
  rw[o];refine List.map_congr_left fun k _=>?_;lia
 exact gen _ _ _ _ c e
def PU(xs:List Nat)(l u:Option Int):List Nat:=(xs.drop (HT.Gi xs.length 0 l)).take (HT.Gi xs.length xs.length u-HT.Gi xs.length 0 l)
theorem PV{c:Type}(xs:List c)(a k:Nat)(h:a+k<=xs.length):((List.range k).map (a+·)).filterMap (xs[·]?)=(xs.drop a).take k:=by
 rw[List.filterMap_map]
 induction k with
 |zero=>simp
 |succ k d=>
  rw[List.range_succ,List.filterMap_append,d (by lia)];have b:a+k<xs.length:=by lia
  have e:(xs.drop a)[k]?=some (xs[a+k]):=by
   rw[List.getElem?_drop];exact rW b
  rw[List.take_add_one,e];simp[b]
theorem NP(x:Str)(l u:Option Int):(Txt.slice x l u).cps.toList=PU x.cps.toList l u:=by
 have hlen:x.cps.toList.length=x.length:=by rw[Array.length_toList];rfl
 have c:HT.Gi x.length x.length u<=x.length:=by
  cases u with
  |none=>exact Nat.le_refl _
  |some v=>
   show(if v<0 then(v+(x.length:Int)).toNat else min v.toNat x.length)<=x.length;split<;>lia
 unfold Txt.slice PU;rw[hlen,Tf];generalize k:HT.Gi x.length 0 l=a;generalize d:HT.Gi x.length x.length u=b at c;by_cases f:a<=b
 ·split
  ·rename_i h
   simp at h;have:b-a=x.length:=h;have g:a=0:=by lia
   have j:b=x.length:=by lia
   subst g;rw[j,<-hlen,List.drop_zero,Nat.sub_zero,List.take_length]
  ·show(List.filterMap (fun i=>x.cps[i]?) _).toArray.toList=_;rw[List.toList_toArray];have e:(fun i:Nat=>x.cps[i]?)=fun i:Nat=>x.cps.toList[i]?:=by
    funext i;exact(Array.getElem?_toList).symm
   rw[e];exact PV _ a (b-a) (by lia)
 ·have z:b-a=0:=by lia
  rw[z];simp only[List.range_zero,List.map_nil,List.take_zero];split
  ·rename_i h
   simp at h;have:x.cps.toList=[]:=List.eq_nil_of_length_eq_zero (by rw[hlen];exact h.symm);exact this
  ·rfl
section
variable{X:Cx}
inductive ah(x:V)(lo a:Option Int)(H:Hp)(Q:VK):Prop
 |mk(z:_)(b:x=.str z)(c:z.length<=sizeLine)(d:Q (.str (Txt.slice z lo a)) H)
def eS:V->Option Int->Option Int->Hp->VK->Prop:=fun x lo a H Q=>ah x lo a H Q
theorem Ln:eC X eS:=by
 intro pins s g H x v p r lo m w Q I n a o e h;obtain⟨z,rfl,b,q⟩:=h;obtain⟨t,rfl⟩:=n;refine⟨"str",_,F.slot_str_getitem.lookup,typeIs_str _ _ _,?_⟩;have fin:∀c k,EP X pins g Q (.str (Txt.slice z lo m) c) {s with toks:=k}:=fun c k=>⟨.str _,H,I.tok k,⟨c,rfl⟩,q⟩;cases o with
 |none=>
  cases e with
  |none=>exact wpAny_getItem_str_slice (l:=none) (u:=none) (st:=none) a rfl (post_val_or_str ⟨Nat.le_trans (Txt.slice_le z _ _) b,fin⟩)
  |int j d=>exact wpAny_getItem_str_slice (l:=none) (u:=some (j,d)) (st:=none) a rfl (post_val_or_str ⟨Nat.le_trans (Txt.slice_le z _ _) b,fin⟩)
 |int i f=>
  cases e with
  |none=>exact wpAny_getItem_str_slice (l:=some (i,f)) (u:=none) (st:=none) a rfl (post_val_or_str ⟨Nat.le_trans (Txt.slice_le z _ _) b,fin⟩)
  |int j d=>exact wpAny_getItem_str_slice (l:=some (i,f)) (u:=some (j,d)) (st:=none) a rfl (post_val_or_str ⟨Nat.le_trans (Txt.slice_le z _ _) b,fin⟩)
end
theorem Iy{P:Program}{K:rg}{tg:Expr}{Pv:Nat->Value->Prop}{St:Nat->Heap->Prop}{item:Nat->V->Prop}(hW:∀A:Around,A.handled=none->Walks P w A it [it] [it] n Pv St)(ai:∀i h,St i h->∃(o:Obj) (T:String) (vs:Array Value),h.get? it=some o/\o.cls=.type T/\o.data=.fields vs/\
   ["enumerate","zip","dict_itemiterator","dict_reverseitemiterator","odict_iterator","itertools.zip_longest","itertools.pairwise"].contains T=false)(ao:∀(A:Around) (i:Nat) (s:Shared) (Q:Value->Shared->Prop) (E:Value->Shared->Prop),St i s.heap->Q (.ref it) s->wpAny (model P w) A (pyIter (.ref it)) Q E s)(rel:∀i u,Pv i u->∃x,RelV x u/\item i x):Turn P w K tg ⟨fun i _=>i<n,fun i H x H'=>H'=H/\item i x,fun i _=>i=n⟩ [it] it St where
 mem:=by simp
 obj:=fun i h st b hb=>by
  have e:b=it:=by simpa using hb
  subst e;obtain⟨o,T,vs,h1,_,h3,_⟩:=ai i h st;exact⟨o,h1,fun v z=>by rw[h3]at z;cases z⟩
 keep:=fun i h h' st k=>(hW callerA rfl).frame i h h' st fun b hb o e=>k b hb o e
 item:=fun X hp hw _ hc i pins s σ H E I hf st go=>by
  subst hp hw;have f:=hf it (by simp);refine(hW X.A (I.ok.hd hc)).item i s _ E go st fun v h' tk hP My kept=>?_;obtain⟨x,rx,hx⟩:=rel i v hP;obtain⟨o,T,vs,h1,h2,h3,h4⟩:=ai _ _ My;refine⟨v,rfl,Kc (o:=o) h1 h2 h3 h4 ⟨x,H,I.turned (fun b ob hb e=>kept b ob (by simp[hb]) e) f.1 f.2.1 f.2.2.2.1 f.2.2.2.2.1 f.2.2.2.2.2,rx,⟨rfl,hx⟩,My,fun b hb=>?_⟩⟩;have e:b=it:=by simpa using hb
  subst e;exact f.1
 done:=fun X hp hw _ hc i pins s σ H E I hf st stop=>by
  subst hp hw;have f:=hf it (by simp);have stop:i=n:=stop;subst stop;refine(hW X.A (I.ok.hd hc)).done s _ E st fun h' tk kept=>?_;exact⟨rfl,I.turned (fun b ob hb e=>kept b ob (by simp[hb]) e) f.1 f.2.1 f.2.2.2.1 f.2.2.2.2.1 f.2.2.2.2.2⟩
 self:=ao
def eU(z:Str):It:=⟨fun i _=>i<z.cps.size,fun i H x a=>a=H/\∃c,z.cps[i]?=some c/\x=.str ⟨#[c]⟩,fun i _=>i=z.cps.size⟩
def eV(a:TE):TI:=fun b H R=>a b H fun x c=>∃z,x=.str z/\R (eU z) c
section
variable{X:Cx} {tg:Expr}
theorem Yi{l:Expr}{r:TE}(hl:PE X l r):PI X tg l (eV r):=by
 intro pins s B H R I h;refine BH (hl pins s B H _ I h) fun v a C=>C.elim fun x g f D F=>?_;obtain⟨z,rfl,q⟩:=F;obtain⟨t,rfl⟩:=D;have d:∀i u,SignAt z i u->∃x,RelV x u/\∃c,z.cps[i]?=some c/\x=.str ⟨#[c]⟩:=fun i u ⟨c,G,J,e⟩=>⟨.str ⟨#[c]⟩,⟨G,e⟩,c,J,rfl⟩;have w:∀o:Obj,∀b∈[a.heap.objs.size],Fg X pins g b:=fun o b K=>by
  have e:b=a.heap.objs.size:=by simpa using K
  subst e;exact f.Ot (Nat.le_refl _) f.fresh
 cases y:z.cps.all (·<128)with
 |false=>
  refine wpAny_pyIter_wide y ⟨a.heap.objs.size,[a.heap.objs.size],fun i h=>h.IsStrIter a.heap.objs.size "str_iterator" z t i,eU z,g,rfl,f.kept (t':=a.toks) fun b o e=>Heap.get?_push_of_some _ e,
   Iy (Pv:=SignAt z) (fun A j=>Walks.strWide j _ z t) (fun i h st=>?_) (fun A i s Q E st k=>wpAny_pyIter_striter_wide st k) d,⟨_,Heap.get?_push_size _ rfl,rfl,rfl⟩,w default,q⟩
  obtain⟨o,m,n,p⟩:=st;exact⟨o,_,_,m,n,p,by decide⟩
 |true=>
  refine wpAny_pyIter_ascii y ⟨a.heap.objs.size,[a.heap.objs.size],fun i h=>h.IsStrIter a.heap.objs.size "str_ascii_iterator" z t i,eU z,g,rfl,f.kept (t':=a.toks) fun b o e=>Heap.get?_push_of_some _ e,
   Iy (Pv:=SignAt z) (fun A j=>Walks.strAscii j _ z t) (fun i h st=>?_) (fun A i s Q E st k=>wpAny_pyIter_striter_ascii st k) d,⟨_,Heap.get?_push_size _ rfl,rfl,rfl⟩,w default,q⟩
  obtain⟨o,m,n,p⟩:=st;exact⟨o,_,_,m,n,p,by decide⟩
inductive NQ(K:rg)(xs:List V)(H:Hp)(Q:VK):Prop
 |mk(p:Addr)(bs:List Bool)(a:xs=[.ref p])(b:Aq K H p (bs.map V.bl))(c:Q (.bl (bs.all id)) H)
def Iz(K:rg):List V->Hp->VK->Prop:=fun a H Q=>NQ K a H Q
theorem Fp(y:X.calm=true):BE X (.builtin "all") (Iz X.K):=by
 intro pins s M H N O Q I r h;obtain⟨p,bs,rfl,B,q⟩:=h;obtain⟨u,rfl,l⟩:=vals1 r;cases l;obtain⟨d,m,w,P⟩:=I.list B;obtain⟨C,f,g⟩:=id w.isList;have n:p<s.heap.objs.size:=Heap.lt_size f;have t:X.A.in1.handled=none:=I.ok.hd y;have hlen:d.toArray.size=bs.length:=by rw[List.size_toArray,<-m.length,List.length_map]
 refine call_all_walk (wpAny_pyIter_list w.isList ⟨s.heap.objs.size,_,_,_,_,_,fun i=>bs.getD i true,rfl,Walks.list t s.heap.objs.size p (Nat.ne_of_lt n) d.toArray,⟨⟨_,Heap.get?_push_size _ rfl,rfl,rfl⟩,⟨C,Heap.get?_push_of_some _ f,g⟩⟩,?_,fun R D kept=>?_⟩)
 ·intro i v E F S j k;have j:d[i]?=some v:=by simpa using j
  have c:i<bs.length:=by
   have:=(rX j).1;rw[<-m.length,List.length_map]at this;exact this
  have e:(bs.map V.bl)[i]?=some (V.bl bs[i]):=by rw[List.getElem?_map,rW c];rfl
  obtain⟨u,x,l⟩:=m.get e;rw[j]at x;cases x;cases l;have G:bs.getD i true=bs[i]:=by rw[List.getD_eq_getElem?_getD,rW c];rfl
  have k:F (bs.getD i true) E:=k;rw[G]at k;exact wpAny_truthy_bool k
 ·refine⟨.bl (bs.all id),H,I.kept (t':=D) fun b o e=>kept b o (fun z=>?_) (Heap.get?_push_of_some _ e),?_,q⟩
  ·have J:b=s.heap.objs.size:=by simpa using z
   exact Nat.ne_of_lt (Heap.lt_size e) J
  ·show Value.bool _=Value.bool _;congr 1;rw[hlen,Bool.eq_iff_iff,List.all_eq_true,List.all_eq_true];constructor
   ·intro a b L;obtain⟨i,c,rfl⟩:=List.mem_iff_getElem.mp L;have:=a i (List.mem_range.mpr c);rw[List.getD_eq_getElem?_getD,rW c]at this;exact this
   ·intro a i c;have c:=List.mem_range.mp c;rw[List.getD_eq_getElem?_getD,rW c];exact a _ (List.getElem_mem c)
end
section
variable{X:Cx}
end
end L2
namespace HT
open PySem PyProof.Rows
section
variable{prog:Program} {w:World} {A:Around} {E:Value->Shared->Prop} {s:Shared}
end
end HT
namespace L2
open PySem PySem.Spec PyProof.Rows
section
variable{X:Cx}
theorem QQ(l:List V)(k:Nat):Ld l none (some (k:Int))=l.take k:=by
 unfold Ld;rw[HT.Lc];show(l.drop 0).take (min k l.length-0)=_;rw[List.drop_zero,Nat.sub_zero,List.take_eq_take_min];simp
end
inductive Mq(H:Hp):V->String->Prop where
 |Ai:Mq H .Ai "NoneType"
 |bl (b:Bool):Mq H (.bl b) "bool"
 |int (i:Int):Mq H (.int i) "int"
 |str (x:Str):Mq H (.str x) "str"
 |lst {a:Addr} {xs:List V} (e:Rd H a (.lst xs)):Mq H (.ref a) "list"
 |tup {a:Addr} {xs:List V} (e:H a=some (.tup xs)):Mq H (.ref a) "tuple"
 |dK {a:Addr} {kvs:List (Key×V)} (e:Rd H a (.dK kvs)):Mq H (.ref a) "dict"
variable{H:Hp}{a:Addr}
theorem Rd.up{b:Hp}{u:HO}(h:Rd H a u)(s:∀o,H a=some o->b a=some o):Rd b a u:=by
 rcases h with h|⟨o,h⟩
 ·exact .inl (s _ h)
 ·exact .inr ⟨o,s _ h⟩
def Tg(T c:String):Bool:=T==c||(T=="bool"&&c=="int")
def WG(c:String):Bool:=["int","bool","str","list","tuple","dict"].contains c
variable{T:String}{K:rg}
theorem QR{v:V}{c:String}(h:Mq H v T)(a:WG c=true):PySem.W.kitOne K (.type T) (.type c)=some (Tg T c):=by
 have a:c="int"∨c="bool"∨c="str"∨c="list"∨c="tuple"∨c="dict":=by
  unfold WG at a;simpa using a
 cases h<;>rcases a with rfl|rfl|rfl|rfl|rfl|rfl<;>kernel_rfl
variable{E Q:Value->Shared->Prop}{pins:List (Addr×Obj)}{u:Value}{s:Shared}{A:Around}{x:V}
section
variable{X:Cx}
inductive aq(xs:List V)(H:Hp)(Q:VK):Prop
 |mk(x c T:_)(a:xs=[x,.ty c])(b:WG c=true)(d:Mq H x T)(e:Q (.bl (Tg T c)) H)
def eW:List V->Hp->VK->Prop:=fun a H Q=>aq a H Q
theorem NR{j:St}{c:String}{b:Bool}(I:Inv X pins j H s)(d:RelV x u)(ty:Mq H x T)(e:PySem.W.kitOne X.K (.type T) (.type c)=some b)(h:∀tk,Q (.bool b) {s with toks:=tk}):
  wpAny (model X.prog X.w) A (call (.builtin "isinstance") [u,.type c]) Q E s:=by
 cases ty with
 |Ai=>exact DX I d .Ai e h
 |bl y=>exact DX I d (.bl y) e h
 |int i=>exact DX I d (.int i) e h
 |str y=>exact DX I d (.str y) e h
 |tup f=>exact DX I d (.tup f) e h
 |@lst a k f=>
  cases(show u=Value.ref a from d);obtain⟨_,_,n,_,g⟩:=(show Aj X.prog X.w H s.heap a (.lst k)from f.ok I.Ap);exact PySem.W.kia_one PySem.W.kitx_list I.Dq ⟨_,g,rfl⟩ e (fun z=>nomatch z) h
 |@dK a kvs f=>
  cases(show u=Value.ref a from d);obtain⟨_,_,m,_,p⟩:=(show Aj X.prog X.w H s.heap a (.dK kvs)from f.ok I.Ap);obtain⟨o,q,r,g,l,_⟩:=p;exact PySem.W.kia_one PySem.W.kitx_dict I.Dq ⟨o,g,l.1⟩ e (fun z=>nomatch z) h
theorem B':BE X (.builtin "isinstance") eW:=by
 intro pins s f H g i Q I r h;obtain⟨x,c,T,rfl,b,ty,q⟩:=h;obtain⟨u,j,rfl,d,a⟩:=vals2 r;cases a;exact NR I d ty (QR ty b) fun e=>⟨.bl _,H,I.tok e,rfl,q⟩
end
open Builtin Builtin.Str
abbrev sgn(x:Str):List Nat:=x.cps.toList
def Th:List Nat:=sgn "abcdefghijklmnopqrstuvwxyz"
def Sh(c:Nat):Bool:=decide (c∈Th)
theorem FQ(x:Str):(sgn x).length=x.length:=by
 show x.cps.toList.length=x.cps.size;exact Array.length_toList
theorem Bv(x y:Str):sgn (x++y)=sgn x++sgn y:=by
 show(x.cps++y.cps).toList=_;exact Array.toList_append
theorem Dh(x:Str)(l u:Option Int):sgn (Txt.slice x l u)=PU (sgn x) l u:=NP x l u
def I_(l:List Nat):Bool:=decide (1<=l.length)&&decide (l.length<=8)&&l.all Sh
def EE(x:Str):Bool:=I_ (sgn x)
theorem XU(n d k:Nat):HT.Gi n d (some (k:Int))=min k n:=by
 show(if(k:Int)<0 then((k:Int)+(n:Int)).toNat else min (k:Int).toNat n)=min k n;rw[if_neg (by lia),Int.toNat_natCast]
theorem Lo(l:List Nat)(k:Nat):PU l none (some (k:Int))=l.take k:=by
 unfold PU;have e:=XU l.length l.length k;rw[e];show(l.drop 0).take (min k l.length-0)=_;rw[List.drop_zero,Nat.sub_zero,List.take_eq_take_min];simp
theorem Ti(l:List Nat)(k:Nat):PU l (some (k:Int)) none=l.drop k:=by
 unfold PU;have e:=XU l.length 0 k;rw[e];show(l.drop (min k l.length)).take (l.length-min k l.length)=_;have:(l.drop (min k l.length)).length=l.length-min k l.length:=List.length_drop;rw[<-this,List.take_length];by_cases h:k<=l.length
 ·rw[Nat.min_eq_left h]
 ·rw[Nat.min_eq_right (by lia),List.drop_eq_nil_of_le (by lia),List.drop_eq_nil_of_le (by lia)]
variable{l:List Nat}{p:Nat->Bool}
theorem NS(h:l.all p=true)(k:Nat):(l.take k).all p=true:=by
 rw[List.all_eq_true]at h⊢;exact fun x a=>h x (List.mem_of_mem_take a)
theorem Tj(h:l.all p=true)(k:Nat):(l.drop k).all p=true:=by
 rw[List.all_eq_true]at h⊢;exact fun x a=>h x (List.mem_of_mem_drop a)
theorem PX{c:Nat}(h:c∈Th):Sh c=true:=decide_eq_true h
theorem RY(h:I_ l=true):1<=l.length/\l.length<=8/\l.all Sh=true:=by
 unfold I_ at h;simp only[Bool.and_eq_true,decide_eq_true_eq]at h;exact⟨h.1.1,h.1.2,h.2⟩
theorem NT(a:1<=l.length)(b:l.length<=8)(c:l.all Sh=true):I_ l=true:=by
 unfold I_;simp only[Bool.and_eq_true,decide_eq_true_eq];exact⟨⟨a,b⟩,c⟩
inductive Dc where
 |leaf (v:V)
 |row (a:Addr) (xs:List Dc)
 |tab (a:Addr) (ks:List Str) (xs:List Dc)
variable{ks:List Str}{xs:List Dc}
namespace Dc
noncomputable def val:Dc->V
 |leaf v=>v
 |row a _=>.ref a
 |tab a _ _=>.ref a
mutual
noncomputable def addrs:Dc->List Addr
 |leaf _=>[]
 |row a xs=>a::Al xs
 |tab a _ xs=>a::Al xs
noncomputable def Al:List Dc->List Addr
 |[]=>[]
 |x::r=>addrs x++Al r
end
mutual
noncomputable def size:Dc->Nat
 |leaf _=>1
 |row _ xs=>1+AI xs
 |tab _ _ xs=>1+AI xs
noncomputable def AI:List Dc->Nat
 |[]=>0
 |x::r=>size x+AI r
end
def Lf(v:V):Prop:=(∃i,v=.int i)∨∃x:Str,v=.str x/\x.length<=100
def kvs(ks:List Str)(xs:List Dc):List (Key×V):=(ks.zip (xs.map val)).map fun p=>(Sum.inr p.1,p.2)
mutual
def At(H:Hp):Dc->Prop
 |leaf v=>Lf v
 |row a xs=>Rd H a (.lst (xs.map val))/\Gb H xs
 |tab a ks xs=>Rd H a (.dK (kvs ks xs))/\ks.length=xs.length/\ks.Nodup/\Gb H xs
def Gb(H:Hp):List Dc->Prop
 |[]=>True
 |x::r=>At H x/\Gb H r
end
mutual
noncomputable def put(b:Addr)(i:Nat)(k:Str)(p:Dc):Dc->Dc
 |leaf v=>leaf v
 |row a xs=>if a=b then row a (xs.take i++p::xs.drop i)else row a (putL b i k p xs)
 |tab a ks xs=>if a=b then tab a (ks++[k]) (xs++[p])else tab a ks (putL b i k p xs)
noncomputable def putL(b:Addr)(i:Nat)(k:Str)(p:Dc):List Dc->List Dc
 |[]=>[]
 |x::r=>put b i k p x::putL b i k p r
end
theorem size_pos(d:Dc):1<=d.size:=by
 cases d<;>simp only[size]<;>lia
theorem CF:∀xs ys:List Dc,Al (xs++ys)=Al xs++Al ys
 |[],_=>rfl
 |x::r,ys=>by simp only[List.cons_append,Al,CF r ys,List.append_assoc]
theorem A_:∀xs ys:List Dc,AI (xs++ys)=AI xs+AI ys
 |[],ys=>by simp[AI]
 |x::r,ys=>by simp only[List.cons_append,AI,A_ r ys];lia
theorem Dx{H:Hp}:∀xs ys:List Dc,Gb H (xs++ys)↔Gb H xs/\Gb H ys
 |[],ys=>by simp[Gb]
 |x::r,ys=>by simp only[List.cons_append,Gb,Dx r ys,and_assoc]
theorem Ej{H:Hp}:∀{xs:List Dc},Gb H xs->∀x∈xs,At H x
 |[],_,x,a=>nomatch a
 |y::r,h,x,a=>by
  simp only[Gb]at h;rcases List.mem_cons.mp a with rfl|a
  ·exact h.1
  ·exact Ej h.2 x a
mutual
theorem JA{H e:Hp}:∀d:Dc,(∀a∈d.addrs,∀o,H a=some o->e a=some o)->d.At H->d.At e
 |leaf v=>fun _ h=>h
 |row a xs=>fun f h=>by
  simp only[At]at h⊢;exact⟨h.1.up (f a (by simp[addrs])),Di xs (fun c b=>f c (by simp only[addrs];exact List.mem_cons_of_mem _ b)) h.2⟩
 |tab a ks xs=>fun f h=>by
  simp only[At]at h⊢;exact⟨h.1.up (f a (by simp[addrs])),h.2.1,h.2.2.1,Di xs (fun c b=>f c (by simp only[addrs];exact List.mem_cons_of_mem _ b)) h.2.2.2⟩
theorem Di{H d:Hp}:∀xs:List Dc,(∀a∈Al xs,∀o,H a=some o->d a=some o)->Gb H xs->Gb d xs
 |[]=>fun _ h=>h
 |x::r=>fun f h=>by
  simp only[Gb]at h⊢;exact⟨JA x (fun c b=>f c (by simp only[Al];exact List.mem_append_left _ b)) h.1,Di r (fun c b=>f c (by simp only[Al];exact List.mem_append_right _ b)) h.2⟩
end
theorem QS{b:Hp}{d:Dc}(s:AG H b)(h:d.At H):d.At b:=JA d (fun a _ o e=>s a o e) h
theorem JB(h:ks.length=xs.length):(kvs ks xs).map (·.1)=ks.map Sum.inr:=by
 unfold kvs;rw[List.map_map];have:(fun p:Str×V=>(Sum.inr p.1:Key))=(Sum.inr:Str->Key)∘Prod.fst:=rfl;show List.map ((fun p:Key×V=>p.1)∘fun p:Str×V=>(Sum.inr p.1,p.2)) (ks.zip (xs.map val))=_;have e:((fun p:Key×V=>p.1)∘fun p:Str×V=>((Sum.inr p.1:Key),p.2))=(Sum.inr:Str->Key)∘Prod.fst:=rfl;rw[e,<-List.map_map,List.map_fst_zip (by rw[List.length_map];lia)]
mutual
theorem RZ{H:Hp}{b:Addr}:∀d:Dc,d.At H->b∈d.addrs->(∃vs,Rd H b (.lst vs)/\vs.length<d.size)∨∃ks:List Str,∃f,Rd H b (.dK f)/\f.map (·.1)=ks.map Sum.inr/\f.length<d.size
 |leaf v=>fun _ h=>by simp[addrs]at h
 |row a xs=>fun h c=>by
  simp only[At]at h;simp only[addrs,List.mem_cons]at c;simp only[size];rcases c with rfl|c
  ·refine .inl ⟨_,h.1,?_⟩;rw[List.length_map];have:=CL xs;lia
  ·rcases FR xs h.2 c with⟨vs,e,l⟩|⟨ks,f,e,z,l⟩
   ·exact .inl ⟨vs,e,by lia⟩
   ·exact .inr ⟨ks,f,e,z,by lia⟩
 |tab a ks xs=>fun h c=>by
  simp only[At]at h;simp only[addrs,List.mem_cons]at c;simp only[size];rcases c with rfl|c
  ·refine .inr ⟨ks,_,h.1,JB h.2.1,?_⟩;have e:(kvs ks xs).length=ks.length:=by
    have:=congrArg List.length (JB (ks:=ks) (xs:=xs) h.2.1);simpa using this
   rw[e,h.2.1];have:=CL xs;lia
  ·rcases FR xs h.2.2.2 c with⟨vs,e,l⟩|⟨ks,f,e,z,l⟩
   ·exact .inl ⟨vs,e,by lia⟩
   ·exact .inr ⟨ks,f,e,z,by lia⟩
theorem FR{H:Hp}{b:Addr}:∀xs:List Dc,Gb H xs->b∈Al xs->(∃vs,Rd H b (.lst vs)/\vs.length<AI xs)∨∃ks:List Str,∃a,Rd H b (.dK a)/\a.map (·.1)=ks.map Sum.inr/\a.length<AI xs
 |[]=>fun _ h=>by simp[Al]at h
 |x::r=>fun h c=>by
  simp only[Gb]at h;simp only[Al,List.mem_append]at c;simp only[AI];rcases c with c|c
  ·rcases RZ x h.1 c with⟨vs,e,l⟩|⟨ks,a,e,z,l⟩
   ·exact .inl ⟨vs,e,by lia⟩
   ·exact .inr ⟨ks,a,e,z,by lia⟩
  ·rcases FR r h.2 c with⟨vs,e,l⟩|⟨ks,a,e,z,l⟩
   ·exact .inl ⟨vs,e,by lia⟩
   ·exact .inr ⟨ks,a,e,z,by lia⟩
theorem CL:∀xs:List Dc,xs.length<=AI xs
 |[]=>Nat.le_refl _
 |x::r=>by
  have:=CL r;have:=size_pos x;simp only[AI,List.length_cons];lia
end
end Dc
variable{P:Program}{vs:List (Key×Value)}{w:World}{ys:List Str}
section
variable{X:Cx}
inductive Ra(K:rg)(x y:V)(H:Hp)(Q:VK):Prop
 |mk(a b:Addr)(xs:List V)(c:x=.ref a)(d:y=.ref b)(e:Aq K H a xs)(f:Aq K H b [])(g:Q (.bl xs.isEmpty) H)
def Tn(K:rg):V->V->Hp->VK->Prop:=fun x y H Q=>Ra K x y H Q
theorem To(c:X.A.units<cLine):ET X (compareOp .Eq) (Tn X.K):=by
 intro pins s w H x y v u Q I k l h;obtain⟨a,b,m,rfl,rfl,n,o,q⟩:=h;cases k;cases l;obtain⟨p,d,f,_⟩:=I.list n;obtain⟨g,r,i,_⟩:=I.list o;cases r;have l1:=d.length;cases m with
 |nil=>
  cases d;exact SeqAt.eq_listAt (e:=fun _=>true) f.isList i.isList rfl c (fun j t _=>absurd t (by simp)) ⟨.bl true,H,I,rfl,q⟩
 |cons z B=>
  refine SeqAt.eq_list_lengthsAt f.isList i.isList ?_ c ⟨.bl false,H,I,rfl,q⟩;rw[List.size_toArray,<-l1];simp
inductive Rb(K:rg)(x y:V)(H:Hp)(Q:VK):Prop
 |mk(a b:Addr)(xs:List V)(c:x=.ref a)(d:y=.ref b)(e:Aq K H a xs)(f:Aq K H b [])(g:Q (.bl (!xs.isEmpty)) H)
def Tp(K:rg):V->V->Hp->VK->Prop:=fun x y H Q=>Rb K x y H Q
theorem Tq(c:X.A.units<cLine):ET X (compareOp .NotEq) (Tp X.K):=by
 intro pins s w H x y v u Q I k l h;obtain⟨a,b,m,rfl,rfl,n,o,q⟩:=h;cases k;cases l;obtain⟨p,d,f,_⟩:=I.list n;obtain⟨g,r,i,_⟩:=I.list o;cases r;have l1:=d.length;cases m with
 |nil=>
  cases d;exact SeqAt.RcNeAt.lists (e:=fun _=>true) f.isList i.isList rfl c (fun j t _=>absurd t (by simp)) _ _ _ _ ⟨.bl false,H,I,rfl,q⟩
 |cons z B=>
  refine SeqAt.RcNeAt.lists_lengths f.isList i.isList ?_ c _ _ _ _ ⟨.bl true,H,I,rfl,q⟩;rw[List.size_toArray,<-l1];simp
theorem FT{l:St}{tp:Addr}{m:Option Addr}{its:List Value}{n:Nat}{r:Array (Option Value)}{b:Bool}(I:Inv X pins l H s)(d:RelV x u)(ty:Mq H x T)(c:s.heap.get? tp=some ⟨.type "tuple",m,.seq its.toArray n,r⟩)(e:PySem.W.kitAny X.K (.type T) its=some b)(h:∀tk,Q (.bool b) {s with toks:=tk}):
  wpAny (model X.prog X.w) A (call (.builtin "isinstance") [u,.ref tp]) Q E s:=by
 cases ty with
 |Ai=>cases(show u=Value.none from d);exact PySem.W.kia_tup PySem.W.kitx_none I.Dq True.intro c e (fun z=>nomatch z) h
 |bl y=>cases(show u=Value.bool y from d);exact PySem.W.kia_tup PySem.W.kitx_bool I.Dq True.intro c e (fun z=>nomatch z) h
 |int i=>obtain⟨t,q⟩:=(show∃t,u=Value.int i t from d);cases q;exact PySem.W.kia_tup PySem.W.kitx_int I.Dq True.intro c e (fun z=>nomatch z) h
 |str y=>obtain⟨t,q⟩:=(show∃t,u=Value.str y t from d);cases q;exact PySem.W.kia_tup PySem.W.kitx_str I.Dq True.intro c e (fun z=>nomatch z) h
 |@lst a j f=>
  cases(show u=Value.ref a from d);obtain⟨_,_,n,_,g⟩:=(show Aj X.prog X.w H s.heap a (.lst j)from f.ok I.Ap);exact PySem.W.kia_tup PySem.W.kitx_list I.Dq ⟨_,g,rfl⟩ c e (fun z=>nomatch z) h
 |@tup a j f=>
  cases(show u=Value.ref a from d);obtain⟨_,_,_,p⟩:=(show Aj X.prog X.w H s.heap a (.tup j)from I.Ap a _ f);obtain⟨o,g,k,_⟩:=p;exact PySem.W.kia_tup PySem.W.kitx_tuple I.Dq ⟨o,g,k⟩ c e (fun z=>nomatch z) h
 |@dK a kvs f=>
  cases(show u=Value.ref a from d);obtain⟨_,_,v,_,p⟩:=(show Aj X.prog X.w H s.heap a (.dK kvs)from f.ok I.Ap);obtain⟨o,B,C,g,k,_⟩:=p;exact PySem.W.kia_tup PySem.W.kitx_dict I.Dq ⟨o,g,k.1⟩ c e (fun z=>nomatch z) h
def XW(T:String):Bool:=T=="list"||T=="dict"
theorem Yj{v:V}(h:Mq H v T):PySem.W.kitAny K (.type T) [.type "list",.type "dict"]=some (XW T):=by
 cases h<;>kernel_rfl
inductive KO(xs:List V)(H:Hp)(Q:VK):Prop
 |mk(x:V)(p:Addr)(T:String)(a:xs=[x,.ref p])(b:H p=some (.tup [.ty "list",.ty "dict"]))(c:Mq H x T)(d:Q (.bl (XW T)) H)
def Lp:List V->Hp->VK->Prop:=fun a H Q=>KO a H Q
theorem JC:BE X (.builtin "isinstance") Lp:=by
 intro pins s v H w y Q I r h;obtain⟨x,p,T,rfl,e,ty,q⟩:=h;obtain⟨u,z,rfl,f,a⟩:=vals2 r;cases a;obtain⟨g,i,j,_⟩:=I.tuple (Bm.of e);obtain⟨⟨k,A,data,B⟩,l,c,n,d⟩:=id j;simp only at c d;subst c d;cases i with
 |cons m b=>
  cases b with
  |cons o b=>
   cases b;cases m;cases o;exact FT I f ty l (Yj ty) fun t=>⟨.bl _,H,I.tok t,rfl,q⟩
theorem Rc{ss:List Str}(b:vs.map (·.1)=ss.map Sum.inr){ws:List Value}(hl:ws.length=vs.length)(g:∀(j:Nat) (v:Value),ws[j]?=some v->∃k x,vs[j]?=some (k,x)/\(AZ P w).is k v=true):StrsAre ws ss:=by
 induction ss generalizing vs ws with
 |nil=>
  have:vs=[]:=by cases vs with|nil=>rfl|cons a r=>simp at b
  subst this;have:ws=[]:=List.eq_nil_of_length_eq_zero hl;subst this;exact .nil
 |cons x r h=>
  cases vs with
  |nil=>simp at b
  |cons a vs=>
   simp only[List.map_cons,List.cons.injEq]at b;cases ws with
   |nil=>simp at hl
   |cons u ws=>
    obtain⟨k,y,e,c⟩:=g 0 u rfl;have e:a=(k,y):=by simpa using e
    subst e;have d:k=Sum.inr x:=b.1;subst d;have c:Ic (Sum.inr x) u=true:=c;rcases BK c with⟨i,t,f,_⟩|⟨z,t,f,l⟩
    ·cases f
    ·cases f;subst l;exact .cons _ t (h b.2 (by simpa using hl) fun j v m=>g (j+1) v (by simpa using m))
theorem Ko{us:List Value}(h:StrsAre us ys):Vals (ys.map V.str) us:=by
 induction h with
 |nil=>exact .nil
 |cons n t _ a=>exact .cons ⟨t,rfl⟩ a
inductive Hu(xs:List V)(H:Hp)(Q:VK):Prop
 |mk(d:Addr)(b:List (Key×V))(ss:List Str)(e:xs=[.ref d])(f:Rd H d (.dK b))(g:b.map (·.1)=ss.map Sum.inr)(h:b.length<64)(i:∀(p:Addr) (a:List Str) (c:Hp),H p=none->AG H c->c p=some (.lst (a.map V.str))->a.Perm ss->sortedS a=true->Q (.ref p) c)
def JD:List V->Hp->VK->Prop:=fun a H Q=>Hu a H Q
theorem Lq(T:X.calm=true):BE X (.builtin "sorted") JD:=by
 intro pins s σ H xs us Q I r h;obtain⟨d,U,F,rfl,hd,G,p,q⟩:=h;obtain⟨u,rfl,Y⟩:=vals1 r;cases Y;obtain⟨z,Z,k,l,dd⟩:=DL I.Ap hd;have t:X.A.in1.handled=none:=I.ok.hd T;have n:k.length=U.length:=l.length.symm;have x:k.map (·.1)=F.map Sum.inr:=by rw[<-G];exact(KV.keys l).symm
 obtain⟨ep,y⟩:=dd.dictAt;have J:k.length<=sizeLine:=by rw[n];exact z
 refine Calls.call_function_entry kind_sorted plain_sorted entry_sorted (args_sorted1 _) ?_;unfold Builtin.«sorted»;refine wpAny_bind (m:=checkCount "sorted" 1 1 _) (wpAny_pure (wpAny_bind (PySem.W.kdu_collect (PySem.W.kdl_dict (knd:=AZ X.prog X.w) (kvs:=k) (ep:=ep) Z) t y J fun c K a keep items=>?_)));have B:a.toList.length=k.length:=by rw[Array.length_toList];exact items.1
 have C:StrsAre a.toList F:=Rc (P:=X.prog) (w:=X.w) x B fun j v e=>items.2 j v (by rw[<-Array.getElem?_toList];exact e);refine wpAny_bind (wpAny_newList ?_ (by rw[B];exact J));have f:(c.push {cls:=.type "list",data:=.seq a.toList.toArray}).get? c.objs.size=some (seqObj "list" a.toList.toArray 0):=Heap.get?_push_size _ rfl;refine wpAny_bind (wpAny_holding (wpAny_call_entry slot_list_sort ⟨_,f,rfl⟩ entry_list_sort (list_sort_treeK strKind_oneLt f C.keysOf (fun L M rest e=>keyKind_strs (by rw[<-e];exact C)) (by rw[B,n];exact p) fun g a1 a2=>⟨_,rfl,?_⟩) (args_list_sort _)));obtain⟨i,b1,N,b3⟩:=sorted_out_str C a1 a2;obtain⟨ee,he⟩:=sortedHeap_at (out:=(arrOf g).map (·.2)) f;refine wpAny_pure ⟨_,rfl,?_⟩;have D:(c.push {cls:=.type "list",data:=.seq a.toList.toArray}).objs.size=c.objs.size+1:=size_push' ..;have O:=I.kept (t':=K) keep;have k2:∀b o,c.get? b=some o->(sortedHeap (c.push {cls:=.type "list",data:=.seq a.toList.toArray}) c.objs.size a.toList ((arrOf g).map (·.2))).get? b=some o:=fun b o e=>by
  have R:b<c.objs.size:=Heap.lt_size e;rw[sortedHeap_old (Nat.ne_of_lt R) (by rw[D];exact Nat.lt_succ_of_lt R)];exact Heap.get?_push_of_some _ e
 have E:i.length<=sizeLine:=by
  rw[N.length_eq];have:=congrArg List.length G;rw[List.length_map,List.length_map]at this;rw[<-this];exact z
 have new:Aj X.prog X.w (upd H c.objs.size (.lst (i.map V.str))) (sortedHeap (c.push {cls:=.type "list",data:=.seq a.toList.toArray}) c.objs.size a.toList ((arrOf g).map (·.2))) c.objs.size (.lst (i.map V.str)):=
  ⟨by rw[List.length_map];exact E,((arrOf g).map (·.2)).toList,ee,Ko b1,by rw[Array.toArray_toList];exact he⟩
 have S:H c.objs.size=none:=O.fresh;exact⟨.ref c.objs.size,_,O.laid (t':=K) k2 (Nat.le_refl _) new,rfl,q _ i _ S (AG.new S) AB N b3⟩
end
structure Txt(mg:Str->Option Value):Prop where
 isinstance:mg "isinstance"=none
 int:mg "int"=none
 bool:mg "bool"=none
 str:mg "str"=none
 list:mg "list"=none
 dict:mg "dict"=none
 tuple:mg "tuple"=none
 len:mg "len"=none
 range:mg "range"=none
 max:mg "max"=none
 min:mg "min"=none
 sorted:mg "sorted"=none
 all:mg "all"=none
 any:mg "any"=none
 reversed:mg "reversed"=none
 ValueError:mg "ValueError"=none
 sum:mg "sum"=none
theorem AO:bootBuiltins "isinstance"=some (.builtin "isinstance"):=by decide+kernel
theorem Tr:bootBuiltins "int"=some (.type "int"):=by decide+kernel
theorem PY:bootBuiltins "bool"=some (.type "bool"):=by decide+kernel
theorem Ts:bootBuiltins "str"=some (.type "str"):=by decide+kernel
theorem Bw:bootBuiltins "list"=some (.type "list"):=by decide+kernel
theorem Cd:bootBuiltins "dict"=some (.type "dict"):=by decide+kernel
theorem Lr:bootBuiltins "tuple"=some (.type "tuple"):=by decide+kernel
theorem NU:bootBuiltins "sorted"=some (.builtin "sorted"):=by decide+kernel
theorem QT:bootBuiltins "all"=some (.builtin "all"):=by decide+kernel
theorem NV:bootBuiltins "sum"=some (.builtin "sum"):=by decide+kernel
theorem Cp{c:Bool}{A B:Prop}(a:c=false)(h:B):if c=true then A else B:=by
 rw[a];exact Ay h
theorem FC{c:Bool}{A B:Prop}(a:c=true)(h:A):if c=true then A else B:=by
 rw[a];exact Bk h
theorem Fq{b:Type}{xs:List b}{i:Int}(c:0<=i)(d:i<(xs.length:Int)):∃v,Oo xs i=some v/\v∈xs:=by
 obtain⟨n,rfl⟩:=Int.eq_ofNat_of_zero_le c;have a:n<xs.length:=by lia
 exact⟨xs[n],Ao (rW a),List.getElem_mem a⟩
inductive lD(P:Program)(w:World)(K:rg)(mg:Str->Option Value)(base:Heap)(x:Str)(ps:List Str)(n:Nat)(sp:Sp):Prop
 |mk(f:Addr)(a:FuncData)(k:PySem.W.keepIn K (.ref f)=true)(b:Binds K a ps [])(m:mg x=some (.ref f))(G:Ac P w K mg base Bn n f a ps sp)
structure Df(P:Program)(w:World)(K:rg)(mg:Str->Option Value)(base:Heap)(x:Str)(ps:List Str)(n:Nat)(sp:Sp):Prop where
 ex:lD P w K mg base x ps n sp
theorem Df.mk'{P:Program}{w:World}{K:rg}{mg:Str->Option Value}{base:Heap}{x q:Str}{st:Stmt}{ps:List Str}{n:Nat}{sp:Sp}{f:Addr}{a:FuncData}(F:CD K x q st f a)(b:Binds K a ps [])(m:mg x=some (.ref f))(G:Ac P w K mg base Bn n f a ps sp):Df P w K mg base x ps n sp:=⟨⟨f,a,F.kp,b,m,G⟩⟩
theorem FD(r:Int){n:Int}(h:0<n):0<=r % n/\r % n<n:=⟨Int.emod_nonneg _ (by lia),Int.emod_lt_of_pos _ h⟩
def KP(x:Str):Bool:=decide (x.length<=12)&&(sgn x).all Sh
def ar(v:V):Prop:=(∃i:Int,v=.int i/\i.natAbs<2 ^ 400)∨∃x:Str,v=.str x/\KP x=true
theorem Tt{x:Str}(h:KP x=true):x.length<=12:=by
 unfold KP at h;simp only[Bool.and_eq_true,decide_eq_true_eq]at h;exact h.1
namespace Dc
mutual
def ok:Dc->Prop
 |leaf v=>ar v
 |row _ xs=>Hv xs
 |tab _ ks xs=>(∀k∈ks,EE k=true)/\Hv xs
def Hv:List Dc->Prop
 |[]=>True
 |x::r=>ok x/\Hv r
end
mutual
def named(N:List Str):Dc->Prop
 |leaf _=>True
 |row _ xs=>PZ N xs
 |tab _ ks xs=>(∀k∈ks,k∈N)/\PZ N xs
def PZ(N:List Str):List Dc->Prop
 |[]=>True
 |x::r=>named N x/\PZ N r
end
noncomputable def Yk:Dc->String
 |leaf (.int _)=>"int"
 |leaf _=>"str"
 |row _ _=>"list"
 |tab _ _ _=>"dict"
theorem XX{d:Dc}(h:d.At H):Mq H d.val d.Yk:=by
 cases d with
 |leaf v=>
  rcases(show Lf v from h)with⟨i,rfl⟩|⟨x,rfl,_⟩
  ·exact .int i
  ·exact .str x
 |row a b=>simp only[At]at h;exact .lst h.1
 |tab a c b=>simp only[At]at h;exact .dK h.1
def au(v:V):Prop:=(∃k:Nat,v=.int (k:Int))∨∃x:Str,v=.str x/\EE x=true
theorem KQ(h:ks.length=xs.length){k:Str}(a:k∈ks):∃x,(ks.zip xs).lookup k=some x/\x∈xs:=by
 induction ks generalizing xs with
 |nil=>cases a
 |cons y r b=>
  cases xs with
  |nil=>simp at h
  |cons z c=>
   by_cases e:k=y
   ·subst e;exact⟨z,by simp,List.mem_cons_self⟩
   ·obtain⟨x,d,f⟩:=b (xs:=c) (by simpa using h) ((List.mem_cons.mp a).resolve_left e);refine⟨x,?_,List.mem_cons_of_mem _ f⟩;have:(k==y)=false:=by simpa using e
    simp[List.zip_cons_cons,List.lookup_cons,this,d]
end Dc
abbrev XY:Str:="abcdefghijklmnopqrstuvwxyz"
theorem Ls:XY.length=26:=by decide+kernel
theorem Lu:Th.length=26:=by decide+kernel
theorem Pa(i:Int)(b:0<=i)(d:i<26):∃c,Oo (sgn XY) i=some c/\Sh c=true:=by
 obtain⟨n,rfl⟩:=Int.eq_ofNat_of_zero_le b;have a:n<Th.length:=by rw[Lu];lia
 exact⟨Th[n],Ao (rW a),PX (List.getElem_mem a)⟩
theorem Fs(r:Int):0<=r % 26/\r % 26<26:=⟨Int.emod_nonneg _ (by decide),Int.emod_lt_of_pos _ (by decide)⟩
inductive WH(K:rg)(vs:List V)(H:Hp)(Q:VK)(b:XK):Prop
 |mk(a:Addr)(c:List Int)(k:Nat)(d:vs=[.ref a,.int (k:Int)])(e:Aq K H a (c.map V.int))(f:∀r:Int,0<=r->Q (.int r) H)
def Tu(K:rg):Sp:=fun b H Q a=>WH K b H Q a
inductive Yl(vs:List V)(H:Hp)(Q:VK)(a:XK):Prop
 |mk(c:Int)(k:Nat)(b:vs=[.int c,.int (k:Int)])(d:k<=1000)(e:∀r:Int,0<=r->r<2305843009213693951->Q (.int r) H)
def HK:Sp:=fun b H Q a=>Yl b H Q a
noncomputable def Tv:Nat->Int->Int
 |0,n=>n
 |k+1,n=>Tv k n/1000000
def NW(c:Int)(k:Nat):Int:=(((c+3)*1181783497276652981 % 2305843009213693951+((k:Int)+1)*614889782588491411) % 2305843009213693951)*(((c+3)*1181783497276652981 % 2305843009213693951+((k:Int)+1)*614889782588491411) % 2305843009213693951) % 999999999999999989
def Rf(c:Int)(k:Nat):Int:=if c % 4=0/\4*10 ^ 60<=c then Tv k (c/4) % 1000000 else(NW c k+1)*(NW c k/1000003+7) % 2305843009213693951/7919
theorem Tw(c:Int)(k:Nat):0<=Rf c k/\Rf c k<2305843009213693951:=by
 unfold Rf;split
 ·have a:=Int.emod_nonneg (Tv k (c/4)) (show(1000000:Int)≠0 by decide);have b:=Int.emod_lt_of_pos (Tv k (c/4)) (show(0:Int)<1000000 by decide);lia
 ·have a:=Int.emod_nonneg ((NW c k+1)*(NW c k/1000003+7)) (show(2305843009213693951:Int)≠0 by decide);have b:=Int.emod_lt_of_pos ((NW c k+1)*(NW c k/1000003+7)) (show(0:Int)<2305843009213693951 by decide);lia
inductive WI(vs:List V)(H:Hp)(Q:VK)(a:XK):Prop
 |mk(c:Int)(k:Nat)(b:vs=[.int c,.int (k:Int)])(d:k<=1000)(e:Q (.int (Rf c k)) H)
def Tx:Sp:=fun b H Q a=>WI b H Q a
theorem Tz{vs:List V}{Q:VK}{E:XK}(h:HK vs H Q E):Tx vs H Q E:=by
 obtain⟨c,k,e,a,q⟩:=h;exact⟨c,k,e,a,q _ (Tw c k).1 (Tw c k).2⟩
theorem NX(P:Nat->Str->Prop)(h:∀(j:Nat) y,ys[j]?=some y->P j y)(inj:∀(i j:Nat) y,i<j->j<ys.length->P i y->P j y->False):ys.Nodup:=by
 refine List.pairwise_iff_getElem.mpr fun i j d b a e=>?_;have f:=h i _ (rW d);have c:=h j _ (rW b);rw[<-e]at c;exact inj i j _ a b f c
theorem An{n:Nat}(h:n<=1000):n<=sizeLine:=Nat.le_of_lt (Am h)
theorem A'{y:V}:[x,y].length<=sizeLine:=An (show 2<=1000 by decide)
theorem BA:[x].length<=sizeLine:=An (show 1<=1000 by decide)
theorem FE{mg:Str->Option Value}{base:Heap}{f:Addr}{b:FuncData}{ps:List Str}{sp:Sp}(a:∀vs H Q E,¬sp vs H Q E):Ac P w K mg base Bn 0 f b ps sp:=
 ⟨fun vs H Q E h=>absurd h (a vs H Q E),fun A outer s H args c vs Q E _ _ _ _ h=>absurd h (a vs H Q E)⟩
theorem T_{t u:TS}{D:Ends}{b:St}(R:Hp->Prop)(k:∀a,R a->u D b a)(h:(∀a,R a->u D b a)->t {D with nx:=u D} b H):KH t u D b H:=h k
namespace Dc
mutual
def slim:Dc->Prop
 |leaf _=>True
 |row _ xs=>JE xs
 |tab _ _ xs=>xs.length<64/\JE xs
def JE:List Dc->Prop
 |[]=>True
 |x::r=>slim x/\JE r
end
theorem Gp:∀{xs:List Dc},JE xs->∀x∈xs,slim x
 |[],_,x,a=>nomatch a
 |y::r,h,x,a=>by
  simp only[JE]at h;rcases List.mem_cons.mp a with rfl|a
  ·exact h.1
  ·exact Gp h.2 x a
end Dc
variable{o:Obj}
section
variable{X:Cx} {pins:List (Addr×Obj)} {σ:St} {H:Hp} {s:Shared} {a:Addr} {kvs:List (Key×V)}
theorem Inv.freeze(I:Inv X pins σ H s)(e:H a=some (.dK kvs)):∃o,s.heap.get? a=some o/\Inv X pins σ (upd H a (.BP o (.dK kvs))) s:=by
 have ok:=(show Aj X.prog X.w H s.heap a (.dK kvs)from I.Ap a _ e);obtain⟨z,g,h,i,o,j,k,f,r⟩:=id ok;refine⟨o,f,?_⟩;have c:∀b u,H b=some u->u≠.dK kvs->b≠a:=fun b u q n w=>by
  subst w;rw[e]at q;exact n (rY q).symm
 have un:Un X.fs [] H (upd H a (.BP o (.dK kvs))) s.heap s.heap:=
  ⟨fun b d q _ _ _=>q,fun b d q _ _ _=>⟨d.slots,q⟩,fun b d q n _=>by rw[AH (fun w=>by subst w;rw[e]at n;cases n)];exact n,fun b d q _=>⟨d,q⟩,
   fun b l q=>by rw[AH (c b _ q (by intro z;cases z))];exact q,fun b d u q=>by rw[AH (c b _ q (by intro z;cases z))];exact q,fun b m q=>⟨#[],by rw[AH (c b _ q (by intro z;cases z)),q];simp⟩⟩
 have Ap:DV X.prog X.w (upd H a (.BP o (.dK kvs))) s.heap:=I.Ap.write (by rw[e];trivial) (.inl rfl) (fun b u _ q=>q) ⟨o,f⟩ ⟨f,ok⟩;exact I.un (h':=s.heap) (t':=s.toks) un Ap
theorem Inv.T'(I:Inv X pins σ H s)(e:H a=some (.BP o (.dK kvs)))(nf:∀o u,X.H₀ a≠some (.BP o u)):Inv X pins σ (upd H a (.dK kvs)) s:=by
 have ok:=(show Aj X.prog X.w H s.heap a (.BP o (.dK kvs))from I.Ap a _ e);have d:∀b u,H b=some u->u≠.BP o (.dK kvs)->b≠a:=fun b u q n w=>by
  subst w;rw[e]at q;exact n (rY q).symm
 have f:∀b,H b=none->b≠a:=fun b n w=>by subst w;rw[e]at n;cases n
 have B:=I.base;refine⟨I.ok,I.os,I.bare,⟨B.keep,B.slot,fun b g q n i=>by rw[AH (f b (B.free b g q n i))];exact B.free b g q n i,B.there,fun b h q=>by rw[AH (d b _ (B.FI b h q) (by intro z;cases z))];exact B.FI b h q,
  fun b g u q=>by rw[AH (fun w=>nf g u (by rw[<-w];exact q))];exact B.DW b g u q,fun b m q=>?_⟩,I.loc,I.cell,by rw[AH (f _ I.free)];exact I.free,fun x c q=>by rw[AH (f _ (I.C_ x c q))];exact I.C_ x c q,
  fun p t=>let⟨y,j,A⟩:=I.pin p t;⟨y,by rw[AH (f _ j)];exact j,A⟩,fun b u q=>?_,I.len⟩
 ·obtain⟨more,k⟩:=B.FJ b m q;exact⟨more,by rw[AH (d b _ k (by intro z;cases z))];exact k⟩
 ·by_cases l:b=a
  ·subst l;rw[AB]at q;cases q;exact ok.2
  ·rw[AH l]at q;exact(I.Ap b u q).KC (fun c v _ r=>r) (fun c r=>by rw[AH (d c _ r (by intro z;cases z))];exact r) fun c h r=>by rw[AH (d c _ r (by intro z;cases z))];exact r
theorem Inv.nf(I:Inv X pins σ H s)(e:H a=some (.dK kvs)):∀o u,X.H₀ a≠some (.BP o u):=fun o u q=>by
 have:=I.base.DW a o u q;rw[e]at this;cases this
end
def Lw(a:Addr)(o:Obj)(kvs:List (Key×V))(k:Hp->Prop):Hp->Prop:=fun H=>H a=some (.BP o (.dK kvs))/\k (upd H a (.dK kvs))
inductive Ym(t:TE)(b:St)(H:Hp)(Q:VK):Prop
 |mk(a kvs:_)(c:H a=some (.dK kvs))(d:∀o,t b (upd H a (.BP o (.dK kvs))) fun v=>Lw a o kvs (Q v))
def av(t:TE):TE:=fun a H Q=>Ym t a H Q
inductive Yn(t:TS)(D:Ends)(b:St)(H:Hp):Prop
 |mk(a kvs:_)(c:H a=some (.dK kvs))(d:∀o,t ⟨fun b=>Lw a o kvs (D.nx b),fun v=>Lw a o kvs (D.rt v),fun b=>Lw a o kvs (D.bk b),fun b=>Lw a o kvs (D.ct b)⟩ b (upd H a (.BP o (.dK kvs))))
def aw(t:TS):TS:=fun D a H=>Yn t D a H
section
variable{X:Cx}
theorem Yo{e:Expr}{t:TE}(h:PE X e t):PE X e (av t):=by
 rintro pins s c H Q I ⟨a,kvs,b,d⟩;obtain⟨o,l,f⟩:=I.freeze b;exact BH (h pins s c _ _ f (d o)) fun u m ⟨v,n,g,i,j,k⟩=>⟨v,_,g.T' j (I.nf b),i,k⟩
theorem Yp{st:Stmt}{t:TS}(h:PS X st t):PS X st (aw t):=by
 rintro pins s k H D I ⟨a,kvs,g,l⟩;obtain⟨o,p,m⟩:=I.freeze g;refine BH (h pins s k _ _ m (l o)) fun f q i=>?_;cases f with
 |next=>obtain⟨b,j,c,d,e⟩:=i;exact⟨b,_,c.T' d (I.nf g),e⟩
 |brk=>obtain⟨b,j,c,d,e⟩:=i;exact⟨b,_,c.T' d (I.nf g),e⟩
 |cont=>obtain⟨b,j,c,d,e⟩:=i;exact⟨b,_,c.T' d (I.nf g),e⟩
 |ret u=>obtain⟨v,b,j,c,n,d,e⟩:=i;exact⟨v,b,_,c.T' d (I.nf g),n,e⟩
theorem JF{e:Expr}{t u:TE}(h:PE X e t)(h':PE X e u):PE X e (fun a H Q=>t a H Q∨u a H Q):=by
 rintro pins s a H Q I (q|q)
 ·exact h pins s a H Q I q
 ·exact h' pins s a H Q I q
theorem UA{e:Stmt}{t u:TS}(h:PS X e t)(h':PS X e u):PS X e (fun D a H=>t D a H∨u D a H):=by
 rintro pins s a H D I (q|q)
 ·exact h pins s a H D I q
 ·exact h' pins s a H D I q
end
def XZ(a:Addr)(o:Obj)(kvs:List (Key×V)):It:=
 ⟨fun i H=>H a=some (.BP o (.dK kvs))/\i<kvs.length,fun i H x b=>b=H/\∃k v,kvs[i]?=some (k,v)/\x=kV k,fun i H=>H a=some (.BP o (.dK kvs))/\i=kvs.length⟩
def a_(c:TE):TI:=fun d H R=>c d H fun x b=>∃a o kvs,x=.ref a/\b a=some (.BP o (.dK kvs))/\R (XZ a o kvs) b
theorem WJ{k:Key}(h:(AZ P w).is k u=true):RelV (kV k) u:=by
 rcases BK (k:=k) (v:=u) h with⟨i,t,rfl,rfl⟩|⟨x,t,rfl,rfl⟩
 ·exact⟨t,rfl⟩
 ·exact⟨t,rfl⟩
theorem Rg{tg:Expr}{it:Addr}{kvs:List (Key×V)}{ep:Nat}(Zl:a≠it)(rel:KV kvs vs)(hD:∀h:Heap,h.get? a=some o->h.DictAt (AZ P w) a vs ep):
  Turn P w K tg (XZ a o kvs) [it] it (fun i h=>h.IsKeyIter it a i vs.length ep)where
 mem:=by simp
 obj:=fun i h st b hb=>by
  have e:b=it:=by simpa using hb
  subst e;obtain⟨ob,h1,_,h3⟩:=st;exact⟨ob,h1,fun v z=>by rw[h3]at z;cases z⟩
 keep:=fun i h h' st k=>st.at fun ob e=>k it (by simp) ob e
 item:=fun X hp hw _ hc i pins s σ H E I hf st go=>by
  subst hp hw;have f:=hf it (by simp);obtain⟨ga,gi⟩:=go;have eX:=hD s.heap (show Aj X.prog X.w H s.heap a (.BP o (.dK kvs))from I.Ap a _ ga).1;refine(Walks.dictKeys (knd:=AZ X.prog X.w) (I.ok.hd hc) it a Zl vs ep).item i s _ E (by rw[<-rel.length];exact gi) ⟨st,eX⟩ fun v h' tk hP My kept=>?_;obtain⟨k,x,lE,hk⟩:=hP;obtain⟨ob,h1,h2,h3⟩:=My.1;have lF:∃y,kvs[i]?=some (k,y):=by
   have e:=congrArg (fun l=>l[i]?) (KV.keys rel);simp only[List.getElem?_map,lE,rW gi]at e;have e:kvs[i].1=k:=by simpa using e
   exact⟨kvs[i].2,by rw[rW gi,<-e]⟩
  obtain⟨y,hy⟩:=lF;refine⟨v,rfl,Kc (o:=ob) h1 h2 h3 (by decide) ⟨kV k,H,I.turned (fun b lG hb e=>kept b lG (by simp[hb]) e) f.1 f.2.1 f.2.2.2.1 f.2.2.2.2.1 f.2.2.2.2.2,WJ hk,⟨rfl,k,y,hy,rfl⟩,My.1,fun b hb=>?_⟩⟩;have e:b=it:=by simpa using hb
  subst e;exact f.1
 done:=fun X hp hw _ hc i pins s σ H E I hf st stop=>by
  subst hp hw;have f:=hf it (by simp);obtain⟨ga,gi⟩:=stop;have gi:i=vs.length:=by rw[gi];exact rel.length
  subst gi;have eX:=hD s.heap (show Aj X.prog X.w H s.heap a (.BP o (.dK kvs))from I.Ap a _ ga).1;refine(Walks.dictKeys (knd:=AZ X.prog X.w) (I.ok.hd hc) it a Zl vs ep).done s _ E ⟨st,eX⟩ fun h' tk kept=>?_;exact⟨rfl,I.turned (fun b ob hb e=>kept b ob (by simp[hb]) e) f.1 f.2.1 f.2.2.2.1 f.2.2.2.2.1 f.2.2.2.2.2⟩
 self:=fun A i s Q E st hQ=>wpAny_pyIter_keyiter st hQ
section
variable{X:Cx} {tg:Expr}
theorem Cv{l:Expr}{k:TE}(hl:PE X l k):PI X tg l (a_ k):=by
 intro pins s p H R I h;refine BH (hl pins s p H _ I h) fun v c r=>r.elim fun x m g t u=>?_;obtain⟨a,o,kvs,rfl,y,q⟩:=u;cases t;have ok:=(show Aj X.prog X.w m c.heap a (.BP o (.dK kvs))from g.Ap a _ y);obtain⟨n,z,A,F,i,B⟩:=ok;obtain⟨G,d⟩:=B.dictAt;obtain⟨J,C,f,D⟩:=id d;rw[n]at f;cases f;have j:a<c.heap.objs.size:=Heap.lt_size n;refine wpAny_pyIter_dict A d ⟨c.heap.objs.size,[c.heap.objs.size],_,XZ a o kvs,m,rfl,g.kept (t':=c.toks) fun b K e=>Heap.get?_push_of_some _ e,
  Rg (Nat.ne_of_lt j) i (fun h e=>⟨o,C,e,D⟩),⟨_,Heap.get?_push_size _ rfl,rfl,rfl⟩,fun b E=>?_,q⟩
 have e:b=c.heap.objs.size:=by simpa using E
 subst e;exact g.Ot (Nat.le_refl _) g.fresh
end
theorem JG{kvs:List (Key×V)}{g:TG}{l:TS}{D:Ends}{b:St}(Pv:Nat->St->Hp->Prop)(r:Pv 0 b H)(hl:∀i b H,i<=kvs.length->Pv i b H->H a=some (.BP o (.dK kvs)))(s:∀i k v b H,kvs[i]?=some (k,v)->Pv i b H->g (kV k) b H fun c H2=>l {D with nx:=Pv (i+1),ct:=Pv (i+1),bk:=D.nx} c H2)(t:∀b H,Pv kvs.length b H->D.nx b H):
  ∃W:Nat->Nat->St->Hp->Prop,(∃m,W 0 m b H)/\∀i m b H,W i m b H-> ((XZ a o kvs).stop i H/\D.nx b H)∨((XZ a o kvs).go i H/\∃N:St->Hp->Prop,(∀d f,N d f->∃n,n<m/\W (i+1) n d f)/\∀x f,(XZ a o kvs).Oq i H x f->g x b f fun c H2=>l {D with nx:=N,ct:=N,bk:=D.nx} c H2):=by
 refine⟨fun i m b H=>m=kvs.length-i/\i<=kvs.length/\Pv i b H,⟨kvs.length,by simp,Nat.zero_le _,r⟩,?_⟩;rintro i m b H ⟨rfl,u,p⟩;have q:=hl i b H u p;by_cases h:i<kvs.length
 ·refine .inr ⟨⟨q,h⟩,Pv (i+1),fun d f w=>⟨kvs.length-(i+1),by lia,rfl,h,w⟩,fun x f y=>?_⟩;obtain⟨e,k,v,j,rfl⟩:=y;subst e;exact s i k v b _ j p
 ·have e:i=kvs.length:=by lia
  subst e;exact .inl ⟨⟨q,rfl⟩,t b H p⟩
def EV(H a:Hp):Prop:=∀b u,Rd H b u->Rd a b u
theorem AG.r{H a:Hp}(s:AG H a):EV H a:=fun b u r=>r.up fun o=>s b o
theorem EV.trans{a H2:Hp}(s:EV H a)(t:EV a H2):EV H H2:=fun b u r=>t b u (s b u r)
theorem EV.BP{H:Hp}{a:Addr}{o:Obj}{kvs:List (Key×V)}(e:H a=some (.dK kvs)):EV H (upd H a (.BP o (.dK kvs))):=fun b u r=>by
 by_cases c:b=a
 ·subst c;rcases r with r|⟨d,r⟩
  ·rw[e]at r;cases r;exact .inr ⟨o,AB⟩
  ·rw[e]at r;cases r
 ·exact r.up fun d q=>by rw[AH c];exact q
end L2
namespace PySem
open PyProof.Rows PySem.F PySem.Spec
theorem JH:typeLookup (.type "list") "keys"=pure none:=by rw[typeLookup_type,builtinLookup_eq_fast];kernel_rfl
theorem JI{prog:Program}{w:World}{A:Around}{E:Value->Shared->Prop}{s:Shared}{a:Addr}{o:Obj}{xs:Array Value}{k:Nat}{Q:Option Value->Shared->Prop}(j:s.heap.get? a=some o)(l:o.cls=.type "list")(b:o.data=.seq xs k)(m:o.dict=none)(p:A.handled=none)(h:∀h' tk e,Heap.NewExcOf s.heap h' e "AttributeError"->Q none {s with heap:=h',toks:=tk}):
  wpAny (model prog w) A (getAttr? (.ref a) "keys") Q E s:=by
 obtain⟨c,BI,q,r⟩:=o;simp only at l b m;subst l b m;obtain⟨t,g,d,tk,os⟩:=s;have n:∀f,(⟨t,g,d,f,os⟩:Shared).TypeIs (.ref a) "list":=fun _=>⟨_,j,rfl⟩;have u:=sub_AttributeError;have v:=F.slot_list_getattribute.lookup;have x:=F.slot_list_getattribute.bind (.ref a);have y:=am_list_getattr_none;unfold getAttr? getAttrBy? getAttrBy
 repeat (any_goals (first|assumption|exact n _|((with_reducible show wpAny _ _ (call (Value.builtin "list.__getattribute__") _ _) _ _ _);refine call_meets F.slot_list_getattribute (n _) am_entry_list_getattribute (F.args_list_getattribute_2 _ _) (meets_getattribute_miss_list a xs k r "keys" _ JH (by decide+kernel) (by decide+kernel)) ⟨j,p,fun h' f e i=>?_⟩)|wp_step))
 obtain⟨z,B,C⟩:=i.there;show wpAny _ _ (getattributeRaised _ _ _ _ _ _ _) _ _ _;unfold getattributeRaised
 repeat (any_goals (first|assumption|wp_step))
 exact h _ _ _ i.of
theorem CH:entryFor table "dict.update.loop"=some Builtin.«dict.update.loop»:=entryFor_of_tree (by kernel_rfl)
theorem BF:plainId "dict.update.loop"=true:=by decide+kernel
section
variable{prog:Program} {w:World} {K:Type} [DecidableEq K] {knd:KeyKind prog w K} {A:Around} {R:Result->Shared->Prop}
theorem Rh{I l d:Addr}{items:Array Value}{more:List (K×Value)}(hh:A.handled=none)(F:l≠I)(h:d≠I)(G:d≠l)(hlen:items.size=more.length)(hsz:more.length<=100000):
  ∀(k i:Nat)(s:Shared),more.length-i=k->i<=more.length->s.heap.IsListIter I l i->s.heap.IsList l items->s.heap.DictOf knd d (merged [] (more.take i))-> (∀(j:Nat) x c,more[j]?=some (x,c)->∃t a,items[j]?=some (.ref t)/\t≠d/\t≠I/\IsTup s.heap t #[a,c]/\knd.is x a=true)-> (∀h' tk,h'.DictOf knd d (merged [] more)->(∀b o,b≠d->b≠I->s.heap.get? b=some o->h'.get? b=some o)->R (.ok (.ret .none)) {s with heap:=h',toks:=tk})->
   codeAny (model prog w) A (.builtin "dict.update.loop" ⟨[.ref d,.ref I,rawInt (i:Int),.none],[]⟩) R s:=by
 have W:=Walks.list (prog:=prog) (w:=w) (A:=A.in1) hh I l F items;intro k
 induction k with
 |zero=>
  intro i s hk hi m H D J L;have M:i=more.length:=by lia
  subst M;refine codeAny_builtin CH ?_;rw[Around.under_plainId BF _];show wpAny _ A.in1 (pyNext (.ref I)>>=_) _ _ s;refine wpAny_bind (W.done s _ _ (by rw[hlen];exact⟨m,H⟩) fun h' tk kept=>?_);rw[List.take_length]at D;obtain⟨o,N,O,P,r⟩:=D;show wpAny _ A.in1 (Builtin.Dict.addKeywords d []>>=_) _ _ _;exact wpAny_bind (wpAny_pure (wpAny_pure (L h' tk ⟨o,N,O,kept _ _ (by simp[h]) P,r⟩ fun b o _ hb e=>kept b o (by simp[hb]) e)))
 |succ k ih=>
  intro i s hk hi m H D J L;have n:i<more.length:=by lia
  obtain⟨⟨x,c⟩,hm⟩:∃p,more[i]?=some p:=⟨_,rW n⟩;obtain⟨t,a,ht,td,tI,tup,f⟩:=J i x c hm;refine codeAny_builtin CH ?_;rw[Around.under_plainId BF _];show wpAny _ A.in1 (pyNext (.ref I)>>=_) _ _ s;refine wpAny_bind (W.item i s _ _ (by rw[hlen];exact n) ⟨m,H⟩ fun v h' tk hv y kept=>?_);rw[ht]at hv;cases hv;obtain⟨ot,Q,q,nt,z⟩:=tup;have g:h'.get? t=some ot:=kept _ _ (by simp[tI]) Q;have hT:({s with heap:=h',toks:=tk}:Shared).TypeIs (.ref t) "tuple":=⟨_,g,q⟩;obtain⟨ct,dt,dat,slt⟩:=ot;simp only at q z;subst q z;obtain⟨o,N,O,P,r⟩:=id D;have S:h'.DictOf knd d (merged [] (more.take i)):=⟨o,N,O,kept _ _ (by simp[h]) P,r⟩;have T:(merged [] (more.take i)).length<=sizeLine:=by
   have:=merged_length_le ([]:List (K×Value)) (more.take i);rw[List.length_take,List.length_nil]at this;have e:sizeLine=16777216:=sizeLine_eq;lia
  show wpAny _ A.in1 (holding [Value.ref t] _>>=_) _ _ _;refine wpAny_bind (wpAny_holding (wpAny_bind (wpAny_tryCatch ?_)));unfold Builtin.Dict.pairItems;refine wpAny_bind (wpAny_typeOf hT ?_);rw[if_pos (by decide)];unfold seqItems?;refine wpAny_bind ?_;refine wpAny_bind (wpAny_load g ?_);refine wpAny_pure (wpAny_pure ?_);show wpAny _ A.in1 (holding [a,c] (dictSet d a c)) _ _ _;refine wpAny_holding ?_;unfold dictSet
  try with_reducible refine wpAny_holding ?_
  refine wpAny_bind (knd.pyHash f ?_);refine wpAny_dictSetHashed_pairs (hsz:=T) f S fun h2 B u=>?_;have e1:stored (merged [] (more.take i)) x c=merged [] (more.take (i+1)):=(merged_take_succ [] more i (x,c) hm).symm;rw[e1]at B;have kp:∀b o,b≠d->b≠I->s.heap.get? b=some o->h2.get? b=some o:=fun b o E U e=>by
   rw[u.2 b E];exact kept b o (by simp[U]) e
  have ic:((i:Int)+1)=((i+1:Nat):Int):=by simp
  refine wpAny_pure ⟨plainId_quiet BF _,?_⟩;rw[ic];refine ih (i+1) _ (by lia) n (y.1.at fun o e=>by rw[u.2 I (Ne.symm h)];exact e) (y.2.at fun o e=>by rw[u.2 l (Ne.symm G)];exact e) B (fun j k2 v2 hj=>?_) (fun U V X Y=>L U V X fun b o E h4 e=>Y b o E h4 (kp b o E h4 e));obtain⟨t2,C,a1,a2,a3,⟨Z,b1,b2⟩,a5⟩:=J j k2 v2 hj;exact⟨t2,C,a1,a2,a3,⟨Z,kp _ _ a2 a3 b1,b2⟩,a5⟩
end
end PySem
namespace L2
open PySem PySem.Spec PyProof.Rows
section
variable{X:Cx}
inductive WK(K:rg)(xs:List V)(H:Hp)(Q:VK):Prop
 |mk(l:Addr)(ts:List Addr)(kvs:List (Key×V))(a:xs=[.ref l])(b:Aq K H l (ts.map V.ref))(c:ts.length=kvs.length)(d:(∀(j:Nat) k v,kvs[j]?=some (k,v)->∃t,ts[j]?=some t/\H t=some (.tup [kV k,v])))(e:kvs.length<=1000)(f:∀p,H p=none->Q (.ref p) (upd H p (.dK (CC [] kvs))))
def Yq(K:rg):List V->Hp->VK->Prop:=fun a H Q=>WK K a H Q
theorem Hy(hc:X.calm=true):BE X (.type "dict") (Yq X.K):=by
 intro pins s σ H xs us Q I r h;obtain⟨l,f,kvs,rfl,hl,hlen,hp,hz,q⟩:=h;obtain⟨u,rfl,ru⟩:=vals1 r;cases ru;obtain⟨n,rv,pl,_⟩:=I.list hl;obtain⟨W,nl,L,x,Y,C⟩:=id pl;have M:X.A.in1.handled=none:=I.ok.hd hc;refine callType_codes (Q₁:=fun N B=>N=.ref s.heap.objs.size/\B={s with heap:=s.heap.push {cls:=.type "dict",data:=.dict #[]}}) F.kt_called_dict (F.kt_typeCall_dict_1 _) F.entry_dict_init (kt_code_dict_new _ ⟨rfl,rfl⟩) ?_;rintro N B ⟨rfl,rfl⟩;have g:(s.heap.push {cls:=.type "dict",data:=.dict #[]}).DictOf (AZ X.prog X.w) s.heap.objs.size []:=Heap.DictOf.new s.heap;refine⟨g.typeIs,F.args_dict_init_2 _ _,?_⟩;unfold Builtin.«dict.__init__»;refine wpAny_bind ?_;unfold Builtin.Dict.selfAndRest;refine wpAny_bind (wpAny_notOrdered_dict g.typeIs ?_);show wpAny _ _ (pure (s.heap.objs.size,[Value.ref l])) _ _ _;refine wpAny_pure ?_;show wpAny _ _ (Builtin.Dict.updateFrom "dict.__init__" s.heap.objs.size (.ref l) [] .none) _ _ _;unfold Builtin.Dict.updateFrom;have c:(s.heap.push {cls:=.type "dict",data:=.dict #[]}).get? l=some W:=Heap.get?_push_of_some _ L;have Z:({s with heap:=s.heap.push {cls:=.type "dict",data:=.dict #[]}}:Shared).TypeIs (.ref l) "list":=⟨_,c,x⟩;refine wpAny_bind (wpAny_typeOf Z ?_);rw[if_pos (by decide)];refine wpAny_bind (JI c x C Y M fun D lH e1 ne1=>?_);rw[if_pos (show(Option.isNone (none:Option Value))=true from rfl)];have i:∀b o,(s.heap.push {cls:=.type "dict",data:=.dict #[]}).get? b=some o->D.get? b=some o:=ne1.keeps;have O:∀b o,s.heap.get? b=some o->D.get? b=some o:=fun b o e=>i b o (Heap.get?_push_of_some _ e);have lI:D.IsList l n.toArray:=⟨W,i _ _ c,x,nl,C⟩;refine wpAny_bind (wpAny_rule ?_);refine wpAny_bind (wpAny_pyIter_list lI ?_);refine wpAny_pure ⟨plainId_quiet BF _,?_⟩;obtain⟨od,es,ep,P,rd⟩:=id g;have y:s.heap.objs.size<D.objs.size:=Heap.lt_size (i _ _ P);have R:l<s.heap.objs.size:=Heap.lt_size L;have lK:∀kvs:List (Key×V),(∀p∈kvs,∃(t:Addr),H t=some (.tup [kV p.1,p.2]))->True:=fun _ _=>trivial;have E:∀(t:Addr) k v,H t=some (.tup [kV k,v])->∃a d,IsTup s.heap t #[a,d]/\(AZ X.prog X.w).is k a=true/\RelV v d:=fun t k v e=>by
  obtain⟨z,r2,tp,_⟩:=I.tuple (Bm.of e);cases r2 with
  |cons ra rr=>
   cases rr with
   |cons rb rr=>
    cases rr;exact⟨_,_,tp,E' ra,rb⟩
 obtain⟨more,G⟩:∃more:List (Key×Value),KV kvs more/\∀(j:Nat) m d,more[j]?=some (m,d)->∃t a,f[j]?=some t/\IsTup s.heap t #[a,d]/\(AZ X.prog X.w).is m a=true:=by
  have gen:∀(kvs:List (Key×V))(f:List Addr),(∀(j:Nat) k v,kvs[j]?=some (k,v)->∃t,f[j]?=some t/\H t=some (.tup [kV k,v]))->
    ∃more:List (Key×Value),KV kvs more/\∀(j:Nat) m d,more[j]?=some (m,d)->∃t a,f[j]?=some t/\IsTup s.heap t #[a,d]/\(AZ X.prog X.w).is m a=true:=by
   intro kvs
   induction kvs with
   |nil=>exact fun f _=>⟨[],.nil,fun j m d e=>by simp at e⟩
   |cons p r ih=>
    intro f h;obtain⟨k,v⟩:=p;obtain⟨t,e1,e2⟩:=h 0 k v rfl;obtain⟨a,d,a1,a2,a3⟩:=E t k v e2;obtain⟨more,b1,b2⟩:=ih f.tail (fun j k v e=>by
     obtain⟨t,c1,c2⟩:=h (j+1) k v (by simpa using e);exact⟨t,by rw[List.getElem?_tail];exact c1,c2⟩)
    refine⟨(k,d)::more,.cons ⟨rfl,a3⟩ b1,fun j m S e=>?_⟩;cases j with
    |zero=>
     have e:(k,d)=(m,S):=by simpa using e
     cases e;exact⟨t,a,e1,a1,a2⟩
    |succ j=>
     obtain⟨t,a,c1,c2,c3⟩:=b2 j m S (by simpa using e);exact⟨t,a,by rw[List.getElem?_tail]at c1;exact c1,c2,c3⟩
  exact gen kvs f hp
 obtain⟨J,hm⟩:=G;have T:n.length=f.length:=by rw[<-rv.length,List.length_map]
 have U:∀(j:Nat) t,f[j]?=some t->n.toArray[j]?=some (.ref t):=fun j t e=>by
  obtain⟨u,D,h2⟩:=rv.get (show(f.map V.ref)[j]?=some (.ref t)by rw[List.getElem?_map,e];rfl);cases h2;simpa using D
 show codeAny _ _ (.builtin "dict.update.loop" ⟨[.ref s.heap.objs.size,.ref D.objs.size,rawInt ((0:Nat):Int),.none],[]⟩) _ _;refine Rh (knd:=AZ X.prog X.w) (l:=l) (items:=n.toArray) (more:=more) M (Nat.ne_of_lt (Nat.lt_trans R y)) (Nat.ne_of_lt y) (Nat.ne_of_gt R) (by rw[List.size_toArray,T,hlen];exact J.length) (by rw[<-J.length];lia) more.length 0 _ (by simp) (Nat.zero_le _)
  ⟨_,Heap.get?_push_size _ rfl,rfl,rfl⟩ ⟨W,Heap.get?_push_of_some _ (i _ _ c),x,nl,C⟩ ⟨od,es,ep,Heap.get?_push_of_some _ (i _ _ P),rd⟩ (fun j m d e=>?_) (fun h2 eY hd2 eZ=>⟨rfl,?_⟩)
 ·obtain⟨t,a,c1,⟨ot,c2,lL⟩,c3⟩:=hm j m d e;have:t<s.heap.objs.size:=Heap.lt_size c2;exact⟨t,a,U j t c1,Nat.ne_of_lt this,Nat.ne_of_lt (Nat.lt_trans this y),⟨ot,Heap.get?_push_of_some _ (O _ _ c2),lL⟩,c3⟩
 ·have Yr:(CC [] kvs).length<=sizeLine:=by
   have:=Cg kvs [];exact An (by simp at this;lia)
  refine⟨.ref s.heap.objs.size,_,I.laid (t':=eY) (fun b o e=>?_) (Nat.le_refl _) (Gm Yr (beq_eq_false_iff_ne.mpr (Ne.symm (Nat.ne_of_lt I.big))) (KV.merge J .nil) hd2),rfl,q _ I.fresh⟩;have:=Heap.lt_size e;exact eZ b o (Nat.ne_of_lt this) (Nat.ne_of_lt (Nat.lt_trans this y)) (Heap.get?_push_of_some _ (O _ _ e))
end
section
variable{X:Cx}
theorem NY{a:Expr}{f:TA}{p pos:Pos}(l:Gl X "range")(m:X.mg "range"=none)(n:PA X [a] f)(u:starEach [a] X.env=[(false,eval a X.env)]:=by rfl):
  PE X (.Call (.Name "range" p) [a] [] pos) (fun d H Q=>f d H fun g c=>∃j:Int,g=[.int j]/\∀r,c r=none->Q (.ref r) (upd c r (.Va 0 j))):=by
 intro pins s d H Q I h;refine Call_ (EN I l m boot_range (PyProof.Rows.callWith_type1 (BH (n pos pins s d H _ I h) fun z i v=>v.elim fun g c k w x=>?_) u rfl));obtain⟨j,e,q⟩:=x;subst e;cases w with
 |cons r y=>
  cases y;obtain⟨t,rfl⟩:=r;exact call_range_1 ⟨.ref i.heap.objs.size,upd c i.heap.objs.size (.Va 0 j),k.laid (fun b o e=>Heap.get?_push_of_some _ e) (Nat.le_refl _) ⟨_,_,_,Heap.get?_push_size _ rfl⟩,rfl,q _ k.fresh⟩
inductive Gq(xs:List V)(H:Hp)(Q:VK):Prop
 |mk(r:Addr)(n:Nat)(a:xs=[.ref r])(b:H r=some (.Va 0 (n:Int)))(c:n<=1000)(d:∀l,H l=none->Q (.ref l) (upd H l (.lst ((List.range n).map fun(i:Nat)=>V.int (i:Int)))))
def Hz:List V->Hp->VK->Prop:=fun a H Q=>Gq a H Q
theorem FF(o:X.calm=true):BE X (.type "list") Hz:=by
 intro pins s K H L M Q I r h;obtain⟨g,n,rfl,p,x,q⟩:=h;obtain⟨u,rfl,y⟩:=vals1 r;cases y;obtain⟨t,u,v,e⟩:=(show Aj X.prog X.w H s.heap g (.Va 0 (n:Int))from I.Ap g _ p);have f:X.A.handled=none:=I.ok.hd o;refine call_list_range (n:=n) f e (small_one (by lia) (by lia) (by lia) (by lia)) (by rw[rangeSize_one];split<;>lia) (by lia) fun B C b D E F j=>?_;have G:((List.range n).map fun(i:Nat)=>V.int (i:Int)).length<=sizeLine:=by rw[List.length_map,List.length_range];exact An x
 refine⟨.ref s.heap.objs.size,_,I.laid (t':=C) E (Nat.le_refl _) (show Aj X.prog X.w _ B _ (.lst _)from⟨G,b.toList,D,?_,by rw[Array.toArray_toList];exact F⟩),rfl,q _ I.fresh⟩;have gen:∀(n:Nat)(l:List Value),l.length=n->(∀(i:Nat) v,l[i]?=some v->∃t,v=Value.int (0+(i:Int)*1) t)->Vals ((List.range n).map fun(i:Nat)=>V.int (i:Int)) l:=by
  intro n
  induction n with
  |zero=>intro l c _;rw[List.eq_nil_of_length_eq_zero c];exact .nil
  |succ n J=>
   intro l c k;have a:l≠[]:=fun z=>by rw[z]at c;cases c
   have m:l=l.dropLast++[l.getLast a]:=(List.dropLast_concat_getLast a).symm;rw[List.range_succ,List.map_append,m];refine(J l.dropLast (by rw[List.length_dropLast,c];rfl) fun i v d=>?_).append (.cons ?_ .nil)
   ·refine k i v ?_;rw[m,List.getElem?_append_left ((rX d).1)];exact d
   ·have:l[n]?=some (l.getLast a):=by
     rw[List.getLast_eq_getElem];have:l.length-1=n:=by lia
     rw[rW (by lia)];congr 1;simp[this]
    obtain⟨t,e⟩:=k n _ this;exact⟨t,by rw[e];congr 1;lia⟩
 exact gen n b.toList (by rw[Array.length_toList];exact j.1) fun i v d=>j.2 i v (by rw[<-Array.getElem?_toList];exact d)
inductive Ft(xs:List V)(H:Hp)(Q:VK):Prop
 |mk(a kvs:_)(b:xs=[.ref a])(c:Rd H a (.dK kvs))(d:∀p,H p=none->Q (.ref p) (upd H p (.dK kvs)))
def Gr:List V->Hp->VK->Prop:=fun a H Q=>Ft a H Q
theorem JJ:BE X (.type "dict") Gr:=by
 intro pins s f H g i Q I r h;obtain⟨a,kvs,rfl,b,q⟩:=h;obtain⟨u,rfl,c⟩:=vals1 r;cases c;exact Tb I b fun p j d e=>⟨.ref p,_,e,rfl,q p d⟩
inductive Lx(xs:List V)(H:Hp)(Q:VK):Prop
 |mk(a kvs:_)(b:xs=[V.ref a])(c:Rd H a (.dK kvs))(d:Q (.int kvs.length) H)
def Na:List V->Hp->VK->Prop:=fun a H Q=>Lx a H Q
theorem Kp:BE X (.builtin "len") Na:=by
 intro pins s e H f g Q I r h;obtain⟨a,kvs,rfl,b,q⟩:=h;obtain⟨u,rfl,c⟩:=vals1 r;cases c;exact aa I b fun t i d=>⟨.int kvs.length,H,d,⟨t,rfl⟩,q⟩
end
theorem Pb:∀a b:List Nat,ltCps a b=false->ltCps b a=false->a=b
 |[],[]=>fun _ _=>rfl
 |[],y::t=>fun h _=>by simp[ltCps]at h
 |x::r,[]=>fun _ h=>by simp[ltCps]at h
 |x::r,y::t=>fun c d=>by
  simp only[ltCps,Bool.or_eq_false_iff,decide_eq_false_iff_not,Bool.and_eq_false_iff]at c d;have e:x=y:=by lia
  subst e;simp at c d;rw[Pb r t c d]
theorem Xa:∀a b c:List Nat,ltCps a b=true->ltCps b c=true->ltCps a c=true
 |[],[],c=>fun h _=>by simp[ltCps]at h
 |[],y::t,[]=>fun _ h=>by simp[ltCps]at h
 |[],y::t,z::u=>fun _ _=>by simp[ltCps]
 |x::r,[],c=>fun h _=>by simp[ltCps]at h
 |x::r,y::t,[]=>fun _ h=>by simp[ltCps]at h
 |x::r,y::t,z::u=>fun d e=>by
  simp only[ltCps,Bool.or_eq_true,decide_eq_true_eq,Bool.and_eq_true,beq_iff_eq]at d e⊢;rcases d with d|⟨d,f⟩<;>rcases e with e|⟨e,g⟩
  ·left;lia
  ·left;lia
  ·left;lia
  ·right;exact⟨by lia,Xa r t u f g⟩
theorem bA(a b c:List Nat)(g:ltCps b a=false)(d:ltCps c b=false):ltCps c a=false:=by
 cases e:ltCps c a with
 |false=>rfl
 |true=>
  cases f:ltCps a b with
  |true=>rw[Xa c a b e f]at d;cases d
  |false=>rw[Pb a b f g]at e;rw[e]at d;cases d
theorem Kq:∀(p:Str)(l:List Str),risingS p l=true->(∀x∈l,ltCps x.cps.toList p.cps.toList=false)/\l.Pairwise fun a b=>ltCps b.cps.toList a.cps.toList=false
 |_,[],_=>⟨fun x c=>(nomatch c),.nil⟩
 |p,y::r,h=>by
  simp only[risingS,Bool.and_eq_true,Bool.not_eq_true']at h;obtain⟨d,e⟩:=Kq y r h.2;refine⟨fun x c=>?_,.cons d e⟩;rcases List.mem_cons.mp c with rfl|c
  ·exact h.1
  ·exact bA _ _ _ h.1 (d x c)
theorem JK{l:List Str}(h:sortedS l=true):l.Pairwise fun a b=>ltCps b.cps.toList a.cps.toList=false:=by
 cases l with
 |nil=>exact .nil
 |cons x r=>obtain⟨c,d⟩:=Kq x r h;exact .cons c d
variable{y:Str}
theorem WL{x:Str}(h:x.cps.toList=y.cps.toList):x=y:=by
 cases x;cases y;simp only at h;congr 1;exact Array.toList_inj.mp h
theorem JL:∀{a b:List Str},(a.Pairwise fun a b=>ltCps b.cps.toList a.cps.toList=false)->(b.Pairwise fun a b=>ltCps b.cps.toList a.cps.toList=false)->a.Perm b->a=b
 |[],b=>fun _ _ p=>(List.nil_perm.mp p).symm
 |x::r,[]=>fun _ _ p=>by have:=p.length_eq;simp at this
 |x::r,y::t=>fun f g p=>by
  obtain⟨a1,a2⟩:=List.pairwise_cons.mp f;obtain⟨h,i⟩:=List.pairwise_cons.mp g;have e:x=y:=by
   have c:x∈y::t:=p.mem_iff.mp List.mem_cons_self;have d:y∈x::r:=p.mem_iff.mpr List.mem_cons_self;rcases List.mem_cons.mp c with c|c
   ·exact c
   ·rcases List.mem_cons.mp d with d|d
    ·exact d.symm
    ·exact WL (Pb _ _ (h x c) (a1 y d))
  subst e;rw[JL a2 i (List.Perm.cons_inv p)]
theorem HM{a b:List Str}(c:sortedS a=true)(d:sortedS b=true)(p:a.Perm b):a=b:=JL (JK c) (JK d) p
namespace Dc
mutual
noncomputable def deep:Dc->Nat
 |leaf _=>1
 |row _ xs=>1+AS xs
 |tab _ _ xs=>1+AS xs
noncomputable def AS:List Dc->Nat
 |[]=>0
 |x::r=>max (deep x) (AS r)
end
mutual
noncomputable def parts:Dc->List Dc
 |leaf v=>[leaf v]
 |row a xs=>row a xs::Pc xs
 |tab a ks xs=>tab a ks xs::Pc xs
noncomputable def Pc:List Dc->List Dc
 |[]=>[]
 |x::r=>parts x++Pc r
end
mutual
def DR:Dc->Dc->Prop
 |leaf v,leaf w=>v=w
 |row _ xs,row _ ys=>CV xs ys
 |tab _ ks xs,tab _ ls ys=>ks=ls/\CV xs ys
 |_,_=>False
def CV:List Dc->List Dc->Prop
 |[],[]=>True
 |x::r,y::t=>DR x y/\CV r t
 |_,_=>False
end
theorem Kr:∀{xs ys:List Dc},CV xs ys->∀(i:Nat) x,xs[i]?=some x->∃y,ys[i]?=some y/\DR x y
 |[],_,_,i,x,e=>by simp at e
 |x::r,[],h,_,_,_=>by simp[CV]at h
 |x::r,y::t,h,0,z,e=>by simp only[CV]at h;simp at e;subst e;exact⟨y,rfl,h.1⟩
 |x::r,y::t,h,i+1,z,e=>by simp only[CV]at h;simp at e;obtain⟨w,a,b⟩:=Kr h.2 i z e;exact⟨w,by simpa using a,b⟩
noncomputable def kids:Dc->List Dc
 |leaf _=>[]
 |row _ xs=>xs
 |tab _ _ xs=>xs
theorem Pd{xs ys:List Dc}(p:xs.Perm ys):AI xs=AI ys:=by
 induction p with
 |nil=>rfl
 |cons x _ a=>simp only[AI,a]
 |swap x y l=>simp only[AI];lia
 |trans _ _ b c=>exact b.trans c
def WM:Dc->List V->Prop
 |leaf _,l=>l=[]
 |row _ xs,l=>l=(List.range xs.length).map fun(i:Nat)=>V.int (i:Int)
 |tab _ ks _,l=>∃ss:List Str,l=ss.map V.str/\ss.Perm ks/\sortedS ss=true
end Dc
structure Nb(H H':Hp)(d:Dc):Prop where
 same:AG H H'
 at_:d.At H'
 nd:d.addrs.Nodup
 own:∀a∈d.addrs,∀o u,H' a≠some (.BP o u)
 new:∀a∈d.addrs,H a=none
variable{H:Hp}
theorem IL{c:TT}{h:TS}{D:Ends}{a:St}(W:Nat->St->Hp->Prop)(i:Nat)(k:W i a H)(l:∀m a H,W m a H->c a H fun b e=>if b=true then h {D with nx:=fun d g=>∃f,f<m/\W f d g,ct:=fun d g=>∃f,f<m/\W f d g,bk:=D.nx} a e else D.nx a e)(mono:∀a H Q j,(∀b e,Q b e->j b e)->c a H Q->c a H j):Su c h D a H:=by
 refine⟨W,⟨i,k⟩,fun m a H p=>?_⟩;refine mono a H _ _ (fun b e q=>?_) (l m a H p);cases b with
 |true=>exact⟨_,fun d g z=>z,q⟩
 |false=>exact q
inductive UB(vs:List V)(H:Hp)(Q:VK)(b:XK):Prop
 |mk(d:Dc)(c:vs=[d.val])(e:d.At H)(f:d.slim)(g:d.size<=900)(h:∀(p:Addr) (l:List V) (a:Hp),AG H a->H p=none->a p=some (.lst l)->d.WM l->Q (.ref p) a)
def Ly:Sp:=fun b H Q a=>UB b H Q a
def back(a:Addr)(H c:Hp):Hp:=fun b=>if b=a then H a else c b
variable{a b:Addr}{c:Hp}
theorem CI(h:b≠a):back a H c b=c b:=if_neg h
theorem Ek{b:Hp}:back a H b a=H a:=if_pos rfl
theorem Nc{u:HO}(e:H a=some u):back a H c=upd c a u:=by
 funext b;unfold back upd;split
 ·exact e
 ·rfl
theorem Dj(e:H a=c a):back a H c=c:=by
 funext b;unfold back;split
 ·rename_i h;rw[h,e]
 ·rfl
structure Nd(a:Addr)(o:Obj)(kvs:List (Key×V))(H Hf:Hp):Prop where
 at_:Hf a=some (.BP o (.dK kvs))
 rd:EV H Hf
 ne:∀b,b≠a->Hf b=H b
 en:Rd H a (.dK kvs)
theorem Nd.free{o:Obj}{kvs:List (Key×V)}(F:Nd a o kvs H c)(h:c b=none):H b=none/\b≠a:=by
 have d:b≠a:=fun z=>by rw[z,F.at_]at h;cases h
 rw[F.ne b d]at h;exact⟨h,d⟩
theorem Nd.back{o:Obj}{kvs:List (Key×V)}{d f:Hp}(F:Nd a o kvs H d)(s:AG d f):AG H (back a H f):=fun b u e=>by
 by_cases c:b=a
 ·subst c;rw[Ek];exact e
 ·rw[CI c];exact s b u (by rw[F.ne b c];exact e)
inductive WN(t:TE)(d:St)(H:Hp)(Q:VK):Prop
 |mk(a kvs:_)(e:Rd H a (.dK kvs))(f:∀o b,Nd a o kvs H b->t d b fun v c=>c a=some (.BP o (.dK kvs))/\Q v (back a H c))
def Ys(t:TE):TE:=fun a H Q=>WN t a H Q
inductive WO(t:TS)(D:Ends)(c:St)(H:Hp):Prop
 |mk(a kvs:_)(e:Rd H a (.dK kvs))(f:∀o d,Nd a o kvs H d->t ⟨fun c b=>b a=some (.BP o (.dK kvs))/\D.nx c (back a H b),fun v b=>b a=some (.BP o (.dK kvs))/\D.rt v (back a H b),fun c b=>b a=some (.BP o (.dK kvs))/\D.bk c (back a H b),fun c b=>b a=some (.BP o (.dK kvs))/\D.ct c (back a H b)⟩ c d)
def Yt(t:TS):TS:=fun D a H=>WO t D a H
theorem Nd.of{o:Obj}{kvs:List (Key×V)}(e:H a=some (.dK kvs)):Nd a o kvs H (upd H a (.BP o (.dK kvs))):=⟨AB,EV.BP e,fun b c=>AH c,.inl e⟩
theorem Nd.same{o:Obj}{kvs:List (Key×V)}(e:H a=some (.BP o (.dK kvs))):Nd a o kvs H H:=⟨e,fun _ _ r=>r,fun _ _=>rfl,.inr ⟨o,e⟩⟩
section
variable{X:Cx}
theorem Fu{e:Expr}{t:TE}(h:PE X e t):PE X e (Ys t):=by
 rintro pins s c H Q I ⟨a,kvs,r,d⟩;rcases r with r|⟨o,r⟩
 ·refine Yo h pins s c H Q I ⟨a,kvs,r,fun o=>?_⟩;have:=d o _ (Nd.of r);have e:(fun v b=>b a=some (.BP o (.dK kvs))/\Q v (back a H b))=fun v=>Lw a o kvs (Q v):=by
   funext v b;unfold Lw;rw[Nc r]
  rw[e]at this;exact this
 ·refine BH (h pins s c H _ I (d o H (Nd.same r))) fun u l ⟨v,g,i,j,k,f⟩=>⟨v,g,i,j,?_⟩;rw[Dj (r.trans k.symm)]at f;exact f
theorem IM{st:Stmt}{t:TS}(h:PS X st t):PS X st (Yt t):=by
 rintro pins s m H D I ⟨a,kvs,r,n⟩;rcases r with r|⟨o,r⟩
 ·refine Yp h pins s m H D I ⟨a,kvs,r,fun o=>?_⟩;have:=n o _ (Nd.of r);have e:∀k:Hp->Prop,(fun j=>j a=some (.BP o (.dK kvs))/\k (back a H j))=Lw a o kvs k:=fun k=>by
   funext j;unfold Lw;rw[Nc r]
  simp only[<-e];exact this
 ·refine BH (h pins s m H _ I (n o H (Nd.same r))) fun f q i=>?_;cases f with
  |next=>obtain⟨b,l,d,g,c⟩:=i;rw[Dj (r.trans g.symm)]at c;exact⟨b,_,d,c⟩
  |brk=>obtain⟨b,l,d,g,c⟩:=i;rw[Dj (r.trans g.symm)]at c;exact⟨b,_,d,c⟩
  |cont=>obtain⟨b,l,d,g,c⟩:=i;rw[Dj (r.trans g.symm)]at c;exact⟨b,_,d,c⟩
  |ret u=>obtain⟨v,b,l,d,p,g,c⟩:=i;rw[Dj (r.trans g.symm)]at c;exact⟨v,b,_,d,p,c⟩
end
theorem Lz{J:It}{o:TE}{fs:List Nat}{q:St}{Q:VK}(n:Nat)(item:Nat->V)(P:Addr->Nat->Hp->Prop)(t:∀D,H D=none->P D 0 (upd H D (.lst [])))(h:∀D i H2,i<n->P D i H2->J.go i H2)(u:∀D i H2 v r,i<n->P D i H2->J.Oq i H2 v r->v=item i/\r=H2)(j:∀D H2,P D n H2->J.stop n H2)(w:∀D i H2,H D=none->i<n->P D i H2->o (some (item i)::Bu q fs) H2 fun y d=>∃ys,d D=some (.lst ys)/\ys.length<sizeLine/\P D (i+1) (upd d D (.lst (ys++[y]))))(x:∀D H2,H D=none->P D n H2->Q (.ref D) H2):Cc J Gn o fs q H Q:=by
 intro D k;refine⟨fun i m H2=>m=n-i/\i<=n/\P D i H2,⟨n,rfl,Nat.zero_le _,t D k⟩,?_⟩;rintro i m H2 ⟨rfl,z,p⟩;by_cases f:i<n
 ·refine .inr ⟨h D i H2 f p,fun v s y=>?_⟩;obtain⟨rfl,rfl⟩:=u D i H2 v s f p y;unfold Gn;dsimp only;rw[if_pos rfl];have g:=w D i s k f p;have e:(fun(y:V)(d:Hp)=>∃ys,d D=some (.lst ys)/\ys.length<sizeLine/\∃l,l<n-i/\l=n-(i+1)/\i+1<=n/\P D (i+1) (upd d D (.lst (ys++[y]))))=fun y d=>∃ys,d D=some (.lst ys)/\ys.length<sizeLine/\P D (i+1) (upd d D (.lst (ys++[y]))):=by
   funext y d;refine propext ⟨fun⟨ys,a,b,l,_,_,_,c⟩=>⟨ys,a,b,c⟩,fun⟨ys,a,b,c⟩=>⟨ys,a,b,n-(i+1),by lia,rfl,f,c⟩⟩
  rw[<-e]at g;exact g
 ·have e:i=n:=by lia
  subst e;exact .inl ⟨j D H2 p,x D H2 k p⟩
structure L_(H H':Hp)(es:List Dc):Prop where
 same:AG H H'
 at_:Dc.Gb H' es
 nd:(Dc.Al es).Nodup
 own:∀a∈Dc.Al es,∀o u,H' a≠some (.BP o u)
 new:∀a∈Dc.Al es,H a=none
theorem L_.nil{H b:Hp}(s:AG H b):L_ H b []:=⟨s,trivial,.nil,fun a h=>(nomatch h),fun a h=>(nomatch h)⟩
theorem Dy:∀(more kvs:List (Key×V)),((kvs++more).map (·.1)).Nodup->CC kvs more=kvs++more
 |[],kvs,_=>by simp[CC]
 |p::r,kvs,h=>by
  have a:Av kvs p.1=none:=by
   cases e:Av kvs p.1 with
   |none=>rfl
   |some v=>
    have:=QO e;rw[List.map_append,List.map_cons]at h;obtain⟨_,_,b⟩:=List.nodup_append.mp h;exact absurd rfl (b p.1 this p.1 List.mem_cons_self)
  show CC (putK kvs p.1 p.2) r=_;rw[NH p.2 a,Dy r (kvs++[(p.1,p.2)]) (by simpa using h)];simp
namespace Dc
theorem UC{a:Str}{x:Dc}:∀(ks:List Str)(xs:List Dc)(i:Nat),ks.Nodup->ks[i]?=some a->xs[i]?=some x->(ks.zip xs).lookup a=some x
 |[],_,_=>fun _ h _=>by simp at h
 |y::r,[],_=>fun _ _ h=>by simp at h
 |y::r,z::t,0=>fun _ c d=>by simp at c d;subst c d;simp
 |y::r,z::t,i+1=>fun nd c d=>by
  obtain⟨e,f⟩:=List.nodup_cons.mp nd;have b:r[i]?=some a:=by simpa using c
  have ne:a≠y:=fun z=>e (z▸rZ b);have:(a==y)=false:=by simpa using ne
  simp only[List.zip_cons_cons,List.lookup_cons,this];exact UC r t i f b (by simpa using d)
end Dc
def EW(H b:Hp)(c:V):Dc->Prop
 | .leaf v=>c=v/\Dc.Lf v
 | .row _ xs=>∃a,c=.ref a/\b a=some (.lst (xs.map Dc.val))/\H a=none
 | .tab _ ks xs=>∃a,c=.ref a/\b a=some (.dK (Dc.kvs ks xs))/\H a=none
def rootOf(p:V×Dc):Option Addr:=match p.1 with
 | .ref a=>some a
 |_=>none
abbrev roots(ps:List (V×Dc)):List Addr:=ps.filterMap rootOf
variable{ps:List (V×Dc)}
theorem BN{c:Addr}:c∈roots ps↔∃p∈ps,p.1=.ref c:=by
 rw[List.mem_filterMap];constructor
 ·rintro⟨p,b,e⟩;refine⟨p,b,?_⟩;unfold rootOf at e;split at e
  ·rename_i a h;cases e;exact h
  ·cases e
 ·rintro⟨p,b,e⟩;exact⟨p,b,by unfold rootOf;rw[e]⟩
theorem BB(ps a:List (V×Dc)):roots (ps++a)=roots ps++roots a:=List.filterMap_append ..
def BJ:List (V×Dc)->List Dc->Prop
 |[],[]=>True
 |p::ps,e::a=>e.val=p.1/\Dc.DR p.2 e/\BJ ps a
 |_,_=>False
theorem BJ.split:∀{ps a:List (V×Dc)}{b:List Dc},BJ (ps++a) b->∃c ec,b=c++ec/\BJ ps c/\BJ a ec
 |[],a,b,h=>⟨[],b,rfl,trivial,h⟩
 |p::ps,a,[],h=>by simp[BJ]at h
 |p::ps,a,e::b,h=>by
  simp only[List.cons_append,BJ]at h;obtain⟨c,ec,rfl,d,f⟩:=BJ.split h.2.2;exact⟨e::c,ec,rfl,by simp only[BJ];exact⟨h.1,h.2.1,d⟩,f⟩
theorem BJ.app:∀{ps a:List (V×Dc)}{b ec:List Dc},BJ ps b->BJ a ec->BJ (ps++a) (b++ec)
 |[],a,[],ec=>fun _ h=>h
 |[],_,_::_,_=>fun h _=>by simp[BJ]at h
 |_::_,_,[],_=>fun h _=>by simp[BJ]at h
 |p::ps,a,e::b,ec=>fun h h'=>by
  simp only[BJ,List.cons_append]at h⊢;exact⟨h.1,h.2.1,BJ.app h.2.2 h'⟩
theorem BJ.vals:∀{ps:List (V×Dc)}{a:List Dc},BJ ps a->a.map Dc.val=ps.map (·.1)
 |[],[],_=>rfl
 |[],_::_,h=>by simp[BJ]at h
 |_::_,[],h=>by simp[BJ]at h
 |p::ps,e::a,h=>by
  simp only[BJ]at h;simp only[List.map_cons,h.1,BJ.vals h.2.2]
theorem BJ.UD:∀{ps:List (V×Dc)}{a:List Dc},BJ ps a->Dc.CV (ps.map (·.2)) a
 |[],[],_=>by simp[Dc.CV]
 |[],_::_,h=>by simp[BJ]at h
 |_::_,[],h=>by simp[BJ]at h
 |p::ps,e::a,h=>by
  simp only[BJ]at h;simp only[List.map_cons,Dc.CV];exact⟨h.2.1,BJ.UD h.2.2⟩
structure Dk(H Hi:Hp)(L:Addr)(tv:V)(d:Dc)(ps:List (V×Dc)):Prop where
 same:AG H Hi
 nL:H L=none
 eL:Hi L=some (.lst (ps.map (·.1)))
 out:∀p∈ps,EW H Hi p.1 p.2
 src:∀p∈ps,p.2.At H/\p.2.slim
 nd:(roots ps).Nodup
 Ri:L∉roots ps
 Yu:∀(es:List Dc)(H':Hp),BJ ps es->L_ H H' es->(∀c∈Dc.Al es,Hi c=none∨c∈roots ps)->(∀b o,b≠L->b∉roots ps->Hi b=some o->H' b=some o)->∃e:Dc,e.val=tv/\Dc.DR d e/\Nb H H' e
theorem EW.root{f:Hp}{p:V×Dc}{c:Addr}(o:EW H f p.1 p.2)(e:p.1=.ref c):f c≠none/\H c=none/\∀j u,f c≠some (.BP j u):=by
 obtain⟨v,d⟩:=p;simp only at e;subst e;cases d with
 |leaf v=>
  obtain⟨rfl,h⟩:=(show V.ref c=v/\Dc.Lf v from o);rcases h with⟨i,h⟩|⟨x,h,_⟩<;>cases h
 |row b k=>
  obtain⟨a,e,g,l⟩:=(show∃a,V.ref c=.ref a/\f a=some (.lst (k.map Dc.val))/\H a=none from o);cases e;exact⟨by rw[g];simp,l,fun j u z=>by rw[g]at z;cases z⟩
 |tab b m k=>
  obtain⟨a,e,g,l⟩:=(show∃a,V.ref c=.ref a/\f a=some (.dK (Dc.kvs m k))/\H a=none from o);cases e;exact⟨by rw[g];simp,l,fun j u z=>by rw[g]at z;cases z⟩
variable{H2:Hp}
theorem EW.up{h:Hp}{c:V}{d:Dc}(o:EW H h c d)(k:∀a,c=.ref a->∀u,h a=some u->H2 a=some u):EW H H2 c d:=by
 cases d with
 |leaf v=>exact o
 |row b i=>obtain⟨a,e,f,g⟩:=o;exact⟨a,e,k a e _ f,g⟩
 |tab b j i=>obtain⟨a,e,f,g⟩:=o;exact⟨a,e,k a e _ f,g⟩
variable{L:Addr}
theorem Dk.step{t:Hp}{S:V}{d node:Dc}(C:Dk H t L S d (ps++[(.ref a,node)]))(j:List (V×Dc))(keep:∀b o,b≠a->b≠L->t b=some o->H2 b=some o)(eL:H2 L=some (.lst ((ps++j).map (·.1))))(out:∀p∈j,EW H H2 p.1 p.2)(src:∀p∈j,p.2.At H/\p.2.slim)(rn:(roots j).Nodup)(v:∀c∈roots j,t c=none)(n:H2 a≠none)(own:∀G u,H2 a≠some (.BP G u))(build:∀(ec:List Dc) (k:Hp),BJ j ec->Dc.Gb k ec->k a=H2 a->∃e:Dc,e.val=.ref a/\Dc.DR node e/\e.At k/\e.addrs.Perm (a::Dc.Al ec)):Dk H H2 L S d (ps++j):=by
 have E:roots (ps++[(V.ref a,node)])=roots ps++[a]:=by rw[BB];rfl
 have nd:=C.nd;rw[E]at nd;obtain⟨I,_,J⟩:=List.nodup_append.mp nd;have Ri:=C.Ri;rw[E]at Ri;have aL:a≠L:=fun z=>Ri (by rw[<-z];simp);have A:a∉roots ps:=fun z=>J a z a (by simp) rfl;have K:=(C.out (.ref a,node) (by simp)).root rfl;have T:∀c∈roots ps,c≠a/\c≠L/\t c≠none:=fun c f=>by
  obtain⟨p,g,e⟩:=BN.mp f;refine⟨fun z=>A (by rw[<-z];exact f),fun z=>Ri (by rw[<-z];simp[f]),?_⟩;exact((C.out p (by simp[g])).root e).1
 refine⟨fun b o e=>?_,C.nL,eL,fun p g=>?_,fun p g=>?_,?_,?_,fun es k dn B z U=>?_⟩
 ·exact keep b o (AV e K.2.1) (AV e C.nL) (C.same b o e)
 ·rcases List.mem_append.mp g with g|g
  ·refine(C.out p (by simp[g])).up fun c e u h=>?_;have:=T c (BN.mpr ⟨p,g,e⟩);exact keep c u this.1 this.2.1 h
  ·exact out p g
 ·rcases List.mem_append.mp g with g|g
  ·exact C.src p (by simp[g])
  ·exact src p g
 ·rw[BB];refine List.nodup_append.mpr ⟨I,rn,fun x F y r e=>?_⟩;subst e;exact(T x F).2.2 (v x r)
 ·rw[BB];intro h;rcases List.mem_append.mp h with h|h
  ·exact Ri (by simp[h])
  ·have:=v L h;rw[C.eL]at this;cases this
 ·obtain⟨l,ec,rfl,d1,d2⟩:=dn.split;have W:a∉roots (ps++j):=by
   rw[BB];intro h;rcases List.mem_append.mp h with h|h
   ·exact A h
   ·exact K.1 (v a h)
  have D:k a=H2 a:=by
   cases e:H2 a with
   |none=>exact absurd e n
   |some o=>exact U a o aL W e
  obtain⟨DK,at2⟩:=(Dc.Dx _ _).mp B.at_;obtain⟨e,ev,el,ea,X⟩:=build ec k d2 at2 D;have i:a∉Dc.Al (l++ec):=fun h=>by
   rcases z a h with h|h
   ·exact n h
   ·exact W h
  have m:Dc.Al (l++[e])=Dc.Al l++e.addrs:=by rw[Dc.CF];simp[Dc.Al]
  have s:∀c,c∈Dc.Al (l++[e])->c=a∨c∈Dc.Al (l++ec):=fun c f=>by
   rw[m]at f;rw[Dc.CF];rcases List.mem_append.mp f with f|f
   ·exact .inr (List.mem_append_left _ f)
   ·rcases List.mem_cons.mp (X.mem_iff.mp f)with f|f
    ·exact .inl f
    ·exact .inr (List.mem_append_right _ f)
  have M:L_ H k (l++[e]):=by
   refine⟨B.same,(Dc.Dx _ _).mpr ⟨DK,by simp only[Dc.Gb];exact⟨ea,trivial⟩⟩,?_,fun c f=>?_,fun c f=>?_⟩
   ·have Y:=B.nd;rw[Dc.CF]at Y i;have:(Dc.Al l++(a::Dc.Al ec)).Nodup:=by
     obtain⟨x1,x2,x3⟩:=List.nodup_append.mp Y;refine List.nodup_append.mpr ⟨x1,List.nodup_cons.mpr ⟨fun h=>i (List.mem_append_right _ h),x2⟩,fun x F y r N=>?_⟩;subst N;rcases List.mem_cons.mp r with r|r
     ·exact i (List.mem_append_left _ (by rw[<-r];exact F))
     ·exact x3 x F x r rfl
    rw[m];exact((List.Perm.append_left _ X).nodup_iff).mpr this
   ·rcases s c f with rfl|f
    ·intro G u h;rw[D]at h;exact own G u h
    ·exact B.own c f
   ·rcases s c f with rfl|f
    ·exact K.2.1
    ·exact B.new c f
  refine C.Yu (l++[e]) k (d1.app (by simp only[BJ];exact⟨ev,el,trivial⟩)) M (fun c f=>?_) (fun b o Z O h=>?_)
  ·rw[E];rcases s c f with rfl|f
   ·exact .inr (by simp)
   ·rcases z c f with h|h
    ·left
     cases q:t c with
     |none=>rfl
     |some o=>
      have P:c≠a:=fun w=>n (by rw[<-w];exact h);have Q:c≠L:=fun w=>by rw[w,eL]at h;cases h
      rw[keep c o P Q q]at h;cases h
    ·rw[BB]at h;rcases List.mem_append.mp h with h|h
     ·exact .inr (by simp[h])
     ·exact .inl (v c h)
  ·rw[E]at O;have R:b≠a:=fun w=>O (by simp[w]);refine U b o Z ?_ (keep b o R Z h);rw[BB];intro w;rcases List.mem_append.mp w with w|w
   ·exact O (by simp[w])
   ·rw[v b w]at h;cases h
theorem Dk.start{i:Hp}{d:Dc}{b:V}(s:AG H i)(l:H L=none)(m:i L=some (.lst [b]))(o:EW H i b d)(h:d.At H)(n:d.slim)(ne:b≠.ref L):Dk H i L b d [(b,d)]:=by
 refine⟨s,l,m,fun p c=>by rw[List.mem_singleton.mp c];exact o,fun p c=>by rw[List.mem_singleton.mp c];exact⟨h,n⟩,?_,?_,fun q u f g z v=>?_⟩
 ·cases b<;>first|exact List.nodup_nil|exact List.nodup_cons.mpr ⟨(fun h=>nomatch h),List.nodup_nil⟩
 ·intro t;obtain⟨p,c,e⟩:=BN.mp t;rw[List.mem_singleton.mp c]at e;exact ne e
 ·cases q with
  |nil=>simp[BJ]at f
  |cons e r=>
   cases r with
   |cons _ _=>simp[BJ]at f
   |nil=>
    simp only[BJ]at f;have j:Dc.Al [e]=e.addrs:=by simp[Dc.Al]
    have fa:=g.at_;simp only[Dc.Gb]at fa;have fn:=g.nd;rw[j]at fn;exact⟨e,f.1,f.2.1,g.same,fa.1,fn,fun a k=>g.own a (by rw[j];exact k),fun a k=>g.new a (by rw[j];exact k)⟩
theorem Dk.done{a:Hp}{d:Dc}{f:V}(C:Dk H a L f d []):∃e:Dc,e.val=f/\Dc.DR d e/\Nb H a e:=
 C.Yu [] a trivial (.nil C.same) (fun c g=>(nomatch g)) fun b o _ _ h=>h
theorem Dk.leaf{H j H2:Hp}{L:Addr}{d:Dc}{n v:V}{ps:List (V×Dc)}(C:Dk H j L n d (ps++[(v,.leaf v)]))(keep:∀b o,b≠L->j b=some o->H2 b=some o)(r:H2 L=some (.lst (ps.map (·.1)))):Dk H H2 L n d ps:=by
 have s:Dc.Lf v:=(show v=v/\Dc.Lf v from C.out (v,.leaf v) (by simp)).2;have k:roots (ps++[(v,Dc.leaf v)])=roots ps:=by
  rw[BB];rcases s with⟨i,rfl⟩|⟨x,rfl,_⟩<;>simp[roots,rootOf]
 have nd:=C.nd;have Ri:=C.Ri;rw[k]at nd Ri;refine⟨fun b o e=>keep b o (AV e C.nL) (C.same b o e),C.nL,r,fun p f=>?_,fun p f=>C.src p (by simp[f]),nd,Ri,fun l B D a z E=>?_⟩
 ·refine(C.out p (by simp[f])).up fun c e u h=>keep c u (fun w=>Ri ?_) h;rw[<-w];exact BN.mpr ⟨p,f,e⟩
 ·have g:Dc.Al (l++[.leaf v])=Dc.Al l:=by rw[Dc.CF];simp[Dc.Al,Dc.addrs]
  refine C.Yu (l++[.leaf v]) B (D.app (by simp[BJ,Dc.val,Dc.DR])) ⟨a.same,(Dc.Dx _ _).mpr ⟨a.at_,by simp only[Dc.Gb,Dc.At];exact⟨s,trivial⟩⟩,by rw[g];exact a.nd,by rw[g];exact a.own,by rw[g];exact a.new⟩ (fun c t=>?_) (fun b o y A h=>?_)
  ·rw[g]at t;rw[k];rcases z c t with h|h
   ·left
    cases q:j c with
    |none=>rfl
    |some o=>
     have m:c≠L:=fun w=>by rw[w,r]at h;cases h
     rw[keep c o m q]at h;cases h
   ·exact .inr h
  ·rw[k]at A;exact E b o y A (keep b o y h)
def Gs(H:Hp)(Q:VK):Dc->Prop
 | .leaf v=>Q v H
 | .row _ xs=>∀p,H p=none->Q (.ref p) (upd H p (.lst (xs.map Dc.val)))
 | .tab _ ks xs=>∀p,H p=none->Q (.ref p) (upd H p (.dK (Dc.kvs ks xs)))
inductive UE(vs:List V)(H:Hp)(Q:VK)(a:XK):Prop
 |mk(d:Dc)(b:vs=[d.val])(c:d.At H)(e:Gs H Q d)
def QU:Sp:=fun b H Q a=>UE b H Q a
inductive Rj(vs:List V)(H:Hp)(Q:VK)(b:XK):Prop
 |mk(d:Dc)(c:vs=[d.val])(e:d.At H)(f:d.slim)(g:d.size<=900)(h:∀(d':Dc) (a:Hp),Nb H a d'->Dc.DR d d'->Q d'.val a)
def JM:Sp:=fun b H Q a=>Rj b H Q a
theorem Gs.of{j:Hp}{Q:VK}{d:Dc}(s:AG j H)(h:d.At H)(k:∀f g,AG H g->EW j g f d->(∀a,f=.ref a->H a=none)->Q f g):Gs H Q d:=by
 cases d with
 |leaf v=>
  refine k v H (AG.refl H) ⟨rfl,h⟩ fun a e=>?_;rcases(show Dc.Lf v from h)with⟨i,rfl⟩|⟨x,rfl,_⟩<;>cases e
 |row b l=>exact fun p c=>k _ _ (AG.new c) ⟨p,rfl,AB,s.free c⟩ fun a e=>by cases e;exact c
 |tab b m l=>exact fun p c=>k _ _ (AG.new c) ⟨p,rfl,AB,s.free c⟩ fun a e=>by cases e;exact c
def DS(ks:List Str)(vs:List V):List (Key×V):=(ks.zip vs).map fun p=>(Sum.inr p.1,p.2)
theorem Nf(ks:List Str)(xs:List Dc):Dc.kvs ks xs=DS ks (xs.map Dc.val):=rfl
variable{ks:List Str}{vs:List V}
theorem UG(h:ks.length=vs.length):(DS ks vs).length=ks.length:=by
 unfold DS;rw[List.length_map,List.length_zip];lia
theorem JN:∀{ks:List Str}{vs:List V}{j:Nat}{k:Str},ks.length=vs.length->ks.Nodup->ks[j]?=some k->Av (DS ks vs) (Sum.inr k)=vs[j]?
 |[],_,_,_=>fun _ _ h=>by simp at h
 |y::r,[],_,_=>fun h _ _=>by simp at h
 |y::r,v::vs,0,k=>fun _ _ h=>by
  simp at h;subst h;exact BZ rfl
 |y::r,v::vs,j+1,k=>fun hl nd h=>by
  obtain⟨b,c⟩:=List.nodup_cons.mp nd;have a:r[j]?=some k:=by simpa using h
  have ne:¬(Sum.inr y:Key)=Sum.inr k:=fun z=>b (by rw[Sum.inr.inj z];exact rZ a);show Av ((Sum.inr y,v)::DS r vs) (Sum.inr k)=_;rw[BS ne,JN (by simpa using hl) c a];simp
theorem UH{j:Nat}{k:Str}(hl:ks.length=vs.length)(nd:ks.Nodup)(h:ks[j]?=some k)(c:V):putK (DS ks vs) (Sum.inr k) c=DS ks (vs.set j c):=by
 have e:j<vs.length:=by rw[<-hl];exact(rX h).1
 have f:Av (DS ks vs) (Sum.inr k)=some vs[j]:=by rw[JN hl nd h,rW e]
 unfold putK;rw[if_pos (by rw[Cn,f];rfl)];have gen:∀(ks:List Str)(vs:List V)(j:Nat),ks.length=vs.length->ks.Nodup->ks[j]?=some k->(DS ks vs).map (fun a=>if a.1=Sum.inr k then(a.1,c)else a)=DS ks (vs.set j c):=by
  intro ks
  induction ks with
  |nil=>intro vs j _ _ h;simp at h
  |cons y r g=>
   intro vs j hl nd h;cases vs with
   |nil=>simp at hl
   |cons v vs=>
    obtain⟨b,i⟩:=List.nodup_cons.mp nd;cases j with
    |zero=>
     simp at h;subst h;have l:(DS r vs).map (fun a=>if a.1=Sum.inr y then(a.1,c)else a)=DS r vs:=by
      have:∀p∈DS r vs,(fun a:Key×V=>if a.1=Sum.inr y then(a.1,c)else a) p=id p:=fun p m=>by
       obtain⟨q,n,rfl⟩:=List.mem_map.mp m;have o:q.1∈r:=(List.of_mem_zip n).1;exact if_neg fun z=>b (by rw[<-Sum.inr.inj z];exact o)
      rw[List.map_congr_left this,List.map_id]
     show(if(Sum.inr y:Key)=Sum.inr y then(Sum.inr y,c)else(Sum.inr y,v))::(DS r vs).map _=(Sum.inr y,c)::DS r vs;rw[if_pos rfl,l]
    |succ j=>
     have d:r[j]?=some k:=by simpa using h
     have ne:¬(Sum.inr y:Key)=Sum.inr k:=fun z=>b (by rw[Sum.inr.inj z];exact rZ d);show(if(Sum.inr y:Key)=Sum.inr k then(Sum.inr y,c)else(Sum.inr y,v))::(DS r vs).map _=(Sum.inr y,v)::DS r (vs.set j c);rw[if_neg ne,g vs j (by simpa using hl) i d]
 exact gen ks vs j hl nd h
variable{ss:List Str}
theorem reorder{ec:List Dc}(p:ss.Perm ks)(nd:ss.Nodup)(l:ec.length=ss.length):∃a:List Dc,a.Perm ec/\a.length=ks.length/\∀(j t:Nat) k,ks[j]?=some k->ss[t]?=some k->a[j]?=ec[t]?:=by
 have c:∀k∈ks,∃x,(ss.zip ec).lookup k=some x:=fun k q=>let⟨x,h,_⟩:=Dc.KQ l.symm (p.mem_iff.mpr q);⟨x,h⟩;have gen:∀ks:List Str,(∀k∈ks,∃x,(ss.zip ec).lookup k=some x)->∃a:List Dc,a.map some=ks.map fun k=>(ss.zip ec).lookup k:=by
  intro ks
  induction ks with
  |nil=>exact fun _=>⟨[],rfl⟩
  |cons k r s=>
   intro h;obtain⟨x,u⟩:=h k List.mem_cons_self;obtain⟨a,d⟩:=s fun v e=>h v (List.mem_cons_of_mem _ e);exact⟨x::a,by simp[d,u]⟩
 obtain⟨a,f⟩:=gen ks c;have b:ec.map some=ss.map fun k=>(ss.zip ec).lookup k:=by
  refine List.ext_getElem? fun i=>?_;rw[List.getElem?_map,List.getElem?_map];cases g:ss[i]? with
  |none=>
   have:ec[i]?=none:=List.getElem?_eq_none_iff.mpr (by rw[l];exact List.getElem?_eq_none_iff.mp g);rw[this];rfl
  |some k=>
   have m:i<ec.length:=by rw[l];exact(rX g).1
   rw[rW m];show some (some ec[i])=some ((ss.zip ec).lookup k);rw[Dc.UC ss ec i nd g (rW m)]
 refine⟨a,?_,?_,fun j t k w d=>?_⟩
 ·have y:(a.map some).Perm (ec.map some):=by rw[f,b];exact(p.map _).symm
  have A:=y.filterMap id;simpa using A
 ·have:=congrArg List.length f;simpa using this
 ·have n:=congrArg (fun z=>z[j]?) f;simp only[List.getElem?_map,w]at n;have o:=congrArg (fun z=>z[t]?) b;simp only[List.getElem?_map,d]at o;have B:a[j]?.map some=ec[t]?.map some:=n.trans o.symm;cases C:a[j]?<;>cases D:ec[t]?<;>simp_all
theorem Ng{xs ys:List Dc}(p:xs.Perm ys):(Dc.Al xs).Perm (Dc.Al ys):=by
 induction p with
 |nil=>exact .refl _
 |cons x _ a=>simp only[Dc.Al];exact a.append_left _
 |swap x y l=>
  simp only[Dc.Al,<-List.append_assoc];exact(List.perm_append_comm).append_right _
 |trans _ _ b c=>exact b.trans c
theorem UI{xs ys:List Dc}(p:xs.Perm ys)(h:Dc.Gb H ys):Dc.Gb H xs:=by
 have gen:∀l:List Dc,(∀x∈l,x.At H)->Dc.Gb H l:=by
  intro l
  induction l with
  |nil=>intro _;trivial
  |cons x r a=>intro h;simp only[Dc.Gb];exact⟨h x List.mem_cons_self,a fun y b=>h y (List.mem_cons_of_mem _ b)⟩
 exact gen xs fun x c=>Dc.Ej h x (p.mem_iff.mp c)
theorem Nh:∀{xs ys:List Dc},xs.length=ys.length->(∀(i:Nat) x y,xs[i]?=some x->ys[i]?=some y->Dc.DR x y)->Dc.CV xs ys
 |[],[]=>fun _ _=>by simp[Dc.CV]
 |[],_::_=>fun h _=>by simp at h
 |_::_,[]=>fun h _=>by simp at h
 |x::r,y::t=>fun h k=>by
  simp only[Dc.CV];exact⟨k 0 x y rfl rfl,Nh (by simpa using h) fun i a b c d=>k (i+1) a b (by simpa using c) (by simpa using d)⟩
theorem Rk{b:Hp}{d:Dc}{a:V}(c:d.At H)(o:EW H b a d)(e:a=.ref L):b L≠none:=(EW.root (p:=(a,d)) o e).1
variable{i:Nat}
theorem Fv{b:List V}{xs:List Dc}{c:V}{x:Dc}(l:b.length=i)(a:xs[i]?=some x):(b++[c]).zip xs=b.zip xs++[(c,x)]:=by
 induction b generalizing xs i with
 |nil=>
  cases xs with
  |nil=>simp at a
  |cons y t=>
   simp at l;subst l;simp at a;subst a;simp
 |cons z r d=>
  cases xs with
  |nil=>simp at a
  |cons y t=>
   cases i with
   |zero=>simp at l
   |succ i=>
    simp only[List.cons_append,List.zip_cons_cons];rw[d (by simpa using l) (by simpa using a)]
namespace Dc
theorem bB:∀{xs ys:List Dc},CV xs ys->∀{k:Str}{x y:Dc},(ks.zip xs).lookup k=some x->(ks.zip ys).lookup k=some y->∃i:Nat,xs[i]?=some x/\ys[i]?=some y:=by
 induction ks with
 |nil=>intro xs ys _ k x y h;simp at h
 |cons z r d=>
  intro xs ys c k x y a b;cases xs with
  |nil=>simp at a
  |cons j xs=>
   cases ys with
   |nil=>simp at b
   |cons l ys=>
    simp only[CV]at c;simp only[List.zip_cons_cons,List.lookup_cons]at a b;by_cases e:k=z
    ·subst e;simp at a b;exact⟨0,by simp[a],by simp[b]⟩
    ·have:(k==z)=false:=by simpa using e
     rw[this]at a b;obtain⟨i,f,g⟩:=d c.2 a b;exact⟨i+1,by simpa using f,by simpa using g⟩
end Dc
namespace Dc
end Dc
namespace Dc
end Dc
section
variable{X:Cx} {CX:Sd} {k:Nat} {f:Addr} {fd:FuncData} {ps:List Str} {ds:List Value} {Ik:List V} {sp:Sp} {E:XK} {x:Str} {p pos:Pos} {e:Expr} {es:List Expr} {t:TA} {tf:TE}
theorem JO(i:PE X (.Name x p) tf)(F:Ac X.prog X.w X.K X.mg X.base CX k f fd ps sp)(j:BQ k X.A)(l:PySem.W.keepIn X.K (.ref f)=true)(m:Binds X.K fd ps ds)(n:Vals Ik ds)(o:Passes CX X E)(y:PA X (e::es) t)(z:starEach (e::es) X.env=(false,eval e X.env)::starEach es X.env:=by rfl)(b:(backTo pos (starEach es X.env)).any (·.1)=false:=by rfl):
  PE X (.Call (.Name x p) (e::es) [] pos) (fun a H Q=>tf a H fun v c=>v=.ref f/\Ke sp Ik E t a c Q):=by
 intro pins s a H Q I h;refine wpAny_Call_Name_kw (BH (i pins s a H _ I h) fun u B ⟨v,C,d,D,G,q⟩=>?_);subst G;cases(show u=Value.ref f from D);refine PySem.W.callWith_K (h₀:=X.base) d.ok.mod.YC l (BH (y pos pins B a C _ d q) fun L M J=>J.elim fun N c g r q=>⟨g.Dq,?_⟩) z b;exact La F j m n o g r q
end
variable{its:List Value}
section
variable{X:Cx} {pins:List (Addr×Obj)} {σ:St} {H:Hp} {s:Shared}
theorem UJ{j:Nat}{u:Value}(g:its[j]?=some u)(h:j<its.toArray.size):its.toArray[j]=u:=by
 have:=(rX g).2;simpa using this
theorem WQ{xs:List V}(r:Vals xs its){j:Nat}(h:j<its.toArray.size):∃x,xs[j]?=some x/\RelV x its.toArray[j]:=by
 have e:its.toArray.size=xs.length:=by rw[List.size_toArray];exact r.length.symm
 have a:j<xs.length:=by rw[<-e];exact h
 obtain⟨u,g,b⟩:=r.get (rW a);exact⟨_,rW a,by rw[UJ g h];exact b⟩
end
noncomputable def eo:Key->PyData
 | .inl i=>.int i
 | .inr x=>.str x
mutual
inductive L'(H:Hp):V->PyData->Prop
 |Ai:L' H .Ai .none
 |bl (b:Bool):L' H (.bl b) (.bool b)
 |int (i:Int):L' H (.int i) (.int i)
 |str (x:Str):L' H (.str x) (.str x)
 |lst {a:Addr} {xs:List V} {c:List PyData} (h:Rd H a (.lst xs)) (r:El H xs c):L' H (.ref a) (.list c)
 |tup {a:Addr} {xs:List V} {c:List PyData} (h:H a=some (.tup xs)) (r:El H xs c):L' H (.ref a) (.tuple c)
 |BI {a:Addr} {kvs:List (Key×V)} {c:List PyData} (h:Rd H a (.dK kvs)) (r:El H (kvs.map (·.2)) c):L' H (.ref a) (.dict ((kvs.map fun p=>eo p.1).zip c))
 |qc {v:V} {d:PyData} (r:∀e,AG H e->∀(P:Program)(w:World)(h:Heap),DV P w e h->∀u,RelV v u->∃as,Reads h u d as/\∀b∈as,∃o,e b=some o):L' H v d
inductive El(H:Hp):List V->List PyData->Prop
 |nil:El H [] []
 |cons {x:V} {d:PyData} {xs:List V} {a:List PyData} (h:L' H x d) (t:El H xs a):El H (x::xs) (d::a)
end
theorem WR{a:Type}{kvs:List (a×V)}{vs:List (a×Value)}(r:KV kvs vs):Vals (kvs.map (·.2)) (vs.map (·.2)):=by
 unfold KV at r
 induction r with
 |nil=>exact .nil
 |cons h _ b=>exact .cons h.2 b
theorem EF{x:V}{r:List V}:Oo (x::r) 0=some x:=Ao (j:=0) rfl
theorem DK{x y:V}{r:List V}:Oo (x::y::r) 1=some y:=Ao (j:=1) rfl
theorem at2{x y z:V}{r:List V}:Oo (x::y::z::r) 2=some z:=Ao (j:=2) rfl
theorem DD{c:Bool}{A B:Prop}(a:c=true->A)(b:c=false->B):if c=true then A else B:=by
 cases c with
 |true=>exact Bk (a rfl)
 |false=>exact Ay (b rfl)
theorem UK{t u:TS}{D:Ends}{c:St}(R:St->Hp->Prop)(k:∀a b,R a b->u D a b)(h:(∀a b,R a b->u D a b)->t {D with nx:=u D} c H):KH t u D c H:=h k
def steps(xs:List V):Prop:=∀z∈xs,Dc.au z
theorem JP(w:Str):∀ws:List Str,Sg (.str w) (ws.map V.str)=decide (w∈ws)
 |[]=>by simp[Sg]
 |x::ws=>by
  have a:=JP w ws;simp only[Sg,List.map_cons,List.any_cons]at a⊢;rw[a];by_cases e:w=x
  ·subst e;simp[Sf]
  ·have b:¬x=w:=fun z=>e z.symm;simp[Sf,e,b]
variable{Q:Value->Shared->Prop}{n:Nat}{xs ys:Array Value}{z l1 l2:Addr}
section
variable{prog:Program} {w:World} {A:Around} {E:Value->Shared->Prop} {s:Shared}
abbrev Rl(h:Heap)(z TI TO T:Addr)(f:Bool):Prop:=
 h.get? z=some {cls:=.type "zip",dict:=none,data:=.fields #[rawInt T,.bool f,.bool false,.ref TI,.ref TO],slots:= #[]}
theorem Ni{TI TO T:Addr}{f:Bool}{g:Obj}{Q:Bool->Shared->Prop}(d:Rl s.heap z TI TO T f)(h:s.heap.get? T=some g)(e:∀h',Rl h' z TI TO T true->Heap.SameBut z s.heap h'->Q false {s with heap:=h'}):wpAny (model prog w) A (Builtin.SmallTypes.ownedTupleIsFree (.ref z)) Q E s:=by
 unfold Builtin.SmallTypes.ownedTupleIsFree;refine wpAny_bind (wpAny_field d rfl (x:=rawInt T) rfl ?_);show wpAny _ _ (loadIfAlive ((T:Int).toNat)>>=_) _ _ _;rw[Int.toNat_natCast];refine wpAny_bind (PySem.W.kdx_alive h ?_);show wpAny _ _ (field (.ref z) 1>>=_) _ _ _;refine wpAny_bind (wpAny_field d rfl (x:=.bool f) rfl ?_);cases f with
 |true=>
  show wpAny _ _ (pure false) _ _ _;exact wpAny_pure (e s.heap d (Heap.SameBut.refl _ _))
 |false=>
  show wpAny _ _ (setField (.ref z) 1 (.bool true)>>=_) _ _ _;exact wpAny_bind (wpAny_setField_rec d (by simp) fun c a b=>wpAny_pure (e c a b))
theorem KR{TI TO h i T:Addr}{f:Bool}{F:Obj}{p:Nat}{x y:Value}(D:ZipApart z TI TO h i l1 l2)(q:Rl s.heap z TI TO T f)(G:s.heap.get? T=some F)(r:IsPair s.heap TI (.ref h) (.ref i))(H:s.heap.IsListIter h l1 n)(I:s.heap.IsListIter i l2 p)(t:s.heap.IsList l1 xs)(u:s.heap.IsList l2 ys)(J:xs[n]?=some x)(K:ys[p]?=some y)(L:∀h',Rl h' z TI TO T true->h'.IsListIter h l1 (n+1)->h'.IsListIter i l2 (p+1)->IsPair h' s.heap.objs.size x y->h'.objs.size=s.heap.objs.size+1-> (∀c o,c≠z->c≠h->c≠i->s.heap.get? c=some o->h'.get? c=some o)->Q (.ref s.heap.objs.size) {s with heap:=h'}):
  wpAny (model prog w) A (Builtin.«zip.__next__» ⟨[.ref z],[]⟩) (fun fin M=>∃v,fin=.done (.ret v)/\Q v M) E s:=by
 show wpAny _ _ (field (.ref z) 2>>=_) _ _ _;refine wpAny_bind (wpAny_field q rfl (x:=.bool false) rfl ?_);show wpAny _ _ (field (.ref z) 3>>=_) _ _ _;refine wpAny_bind (wpAny_field q rfl (x:=.ref TI) rfl ?_);refine wpAny_bind (wpAny_seqItems r rfl ?_);show wpAny _ _ (Builtin.SmallTypes.ownedTupleIsFree (.ref z)>>=_) _ _ _;refine wpAny_bind (Ni q G fun B j a=>?_);simp only[Bool.false_eq_true,if_false];refine wpAny_bind ?_;rw[<-Array.forIn_toList];show wpAny _ _ (forIn [Value.ref h,Value.ref i] _ _) _ _ _;rw[List.forIn_cons];refine wpAny_bind (wpAny_bind (wpAny_holding ?_));show wpAny _ _ (Builtin.SmallTypes.nextOf (.ref h)>>=_) _ _ _;refine wpAny_bind (wpAny_nextOf_list_item (H.extBut a.extBut D.i1z) (t.extBut a.extBut D.l1z) J fun C k b=>wpAny_pure ?_);refine wpAny_pure ?_;dsimp only;rw[List.forIn_cons];refine wpAny_bind (wpAny_bind (wpAny_holding ?_));show wpAny _ _ (Builtin.SmallTypes.nextOf (.ref i)>>=_) _ _ _;refine wpAny_bind (wpAny_nextOf_list_item ((I.extBut a.extBut D.i2z).extBut b.extBut D.i12.symm) ((u.extBut a.extBut D.l2z).extBut b.extBut D.l2i1) K fun g l d=>wpAny_pure ?_);refine wpAny_pure ?_;dsimp only;rw[List.forIn_nil];refine wpAny_pure ?_;show wpAny _ _ (newTuple [x,y]>>=_) _ _ _;refine wpAny_bind (wpAny_newTuple ?_);have m:g.objs.size=s.heap.objs.size:=by rw[d.1,b.1,a.1]
 refine wpAny_pure ⟨_,rfl,?_⟩;show Q (.ref g.objs.size) _;rw[m];have up:∀c o,c≠z->c≠h->c≠i->s.heap.get? c=some o->(g.push {cls:=.type "tuple",data:=.seq #[x,y]}).get? c=some o:=fun c o c1 c2 c3 e=>
  Heap.get?_push_of_some _ (d.extBut _ _ c3 (b.extBut _ _ c2 (a.extBut _ _ c1 e)))
 refine L _ (Heap.get?_push_of_some _ (d.extBut _ _ D.i2z.symm (b.extBut _ _ D.i1z.symm j))) ((k.extBut d.extBut D.i12).at fun o e=>Heap.get?_push_of_some _ e) (l.at fun o e=>Heap.get?_push_of_some _ e) ?_ (by rw[Heap.size_push,m]) up;have this:(g.push {cls:=.type "tuple",data:=.seq #[x,y]}).get? g.objs.size=some {cls:=.type "tuple",data:=.seq #[x,y]}:=Heap.get?_push_size _ rfl;rw[m]at this;exact this
theorem MA{TI TO d i T:Addr}{f:Bool}{q:Obj}{Q:Fin->Shared->Prop}(r:A.handled=none)(D:ZipApart z TI TO d i l1 l2)(j:Rl s.heap z TI TO T f)(t:s.heap.get? T=some q)(k:IsPair s.heap TI (.ref d) (.ref i))(u:s.heap.IsListIter d l1 n)(l:s.heap.IsList l1 xs)(g:xs[n]?=none)(v:∀h' e,(∀c o,c≠z->c≠d->s.heap.get? c=some o->h'.get? c=some o)->(∃o,h'.get? e=some o/\o.cls=.type "StopIteration")->E (.ref e) {s with heap:=h'}):
  wpAny (model prog w) A (Builtin.«zip.__next__» ⟨[.ref z],[]⟩) Q E s:=by
 show wpAny _ _ (field (.ref z) 2>>=_) _ _ _;refine wpAny_bind (wpAny_field j rfl (x:=.bool false) rfl ?_);show wpAny _ _ (field (.ref z) 3>>=_) _ _ _;refine wpAny_bind (wpAny_field j rfl (x:=.ref TI) rfl ?_);refine wpAny_bind (wpAny_seqItems k rfl ?_);show wpAny _ _ (Builtin.SmallTypes.ownedTupleIsFree (.ref z)>>=_) _ _ _;refine wpAny_bind (Ni j t fun p m a=>?_);simp only[Bool.false_eq_true,if_false];refine wpAny_bind ?_;rw[<-Array.forIn_toList];show wpAny _ _ (forIn [Value.ref d,Value.ref i] _ _) _ _ _;rw[List.forIn_cons];refine wpAny_bind (wpAny_bind (wpAny_holding ?_));show wpAny _ _ (Builtin.SmallTypes.nextOf (.ref d)>>=_) _ _ _;refine wpAny_bind (wpAny_nextOf_list_end r (u.extBut a.extBut D.i1z) (l.extBut a.extBut D.l1z) g fun h e b y=>v h e (fun c o c1 c2 x=>b _ _ c2 (a.extBut _ _ c1 x)) y)
structure Yv(h:Heap)(z TI TO i1 i2 l1 l2 S:Addr)(i:Nat)(xs ys:Array Value):Prop where
 st:(i=0/\IsZip h z TI TO .none/\∃a b,IsPair h TO a b)∨∃T f oT,Rl h z TI TO T f/\h.get? T=some oT/\T≠z/\T≠i1/\T≠i2/\T≠S
 ti:IsPair h TI (.ref i1) (.ref i2)
 h1:h.IsListIter i1 l1 i
 h2:h.IsListIter i2 l2 i
 L1:h.IsList l1 xs
 L2:h.IsList l2 ys
theorem Yv.keep{h h':Heap}{TI TO d g S:Addr}(x:Yv h z TI TO d g l1 l2 S i xs ys)(c:∀b o,b≠S->h.get? b=some o->h'.get? b=some o)(n:z≠S/\TI≠S/\TO≠S/\d≠S/\g≠S/\l1≠S/\l2≠S):Yv h' z TI TO d g l1 l2 S i xs ys:=by
 obtain⟨st,k,l,m,p,L2⟩:=x;refine⟨?_,c _ _ n.2.1 k,l.at fun o e=>c _ o n.2.2.2.1 e,m.at fun o e=>c _ o n.2.2.2.2.1 e,p.at fun o e=>c _ o n.2.2.2.2.2.1 e,L2.at fun o e=>c _ o n.2.2.2.2.2.2 e⟩;rcases st with⟨e,j,a,b,q⟩|⟨T,f,r,j,t,t1,t2,t3,t4⟩
 ·exact .inl ⟨e,c _ _ n.1 j,a,b,c _ _ n.2.2.1 q⟩
 ·exact .inr ⟨T,f,r,c _ _ n.1 j,c _ _ t4 t,t1,t2,t3,t4⟩
theorem UL{TI TO g h S:Addr}{x y:Value}{Q:Option Value->Shared->Prop}(D:ZipApart z TI TO g h l1 l2)(st:Yv s.heap z TI TO g h l1 l2 S i xs ys)(v:S<s.heap.objs.size)(q:xs[i]?=some x)(r:ys[i]?=some y)(t:∀h',Yv h' z TI TO g h l1 l2 S (i+1) xs ys->IsPair h' s.heap.objs.size x y->h'.objs.size=s.heap.objs.size+1->(∀c o,c≠z->c≠TO->c≠g->c≠h->s.heap.get? c=some o->h'.get? c=some o)->Q (some (.ref s.heap.objs.size)) {s with heap:=h'}):
  wpAny (model prog w) A (pyNext (.ref z)) Q E s:=by
 obtain⟨st,l,n,p,m,L2⟩:=st;have lt:∀{c o},s.heap.get? c=some o->s.heap.objs.size≠c:=fun e=>Nat.ne_of_gt (Heap.lt_size e);have B:s.heap.objs.size≠g:=by obtain⟨_,e,_⟩:=n;exact lt e
 have C:s.heap.objs.size≠h:=by obtain⟨_,e,_⟩:=p;exact lt e
 rcases st with⟨rfl,j,a,b,G⟩|⟨T,f,H,j,u,t1,t2,t3,t4⟩
 ·refine wpAny_pyNext_zip_item D j l G n p m L2 q r fun h' a1 a2 a3 a4 a5 a6 d=>?_;exact t h' ⟨.inr ⟨s.heap.objs.size,false,_,a1,a5,lt j,B,C,Nat.ne_of_gt v⟩,d _ _ D.TIz D.TITO D.TIi1 D.TIi2 l,a3,a4,m.at fun o e=>d _ o D.l1z D.l1TO D.l1i1 D.l1i2 e,L2.at fun o e=>d _ o D.l2z D.l2TO D.l2i1 D.l2i2 e⟩ a5 a6 d
 ·have k:s.TypeIs (.ref z) "zip":=⟨_,j,rfl⟩;unfold pyNext;exact wpAny_bind (wpAny_attempt (wpAny_callSpecial?_slot (name:=Str.ofString "__next__") k F.slot_zip_next (wpAny_call_entry F.slot_zip_next k F.entry_zip_next (KR D j u l n p m L2 q r fun h' a1 a3 a4 a5 a6 d=>wpAny_pure (t h' ⟨.inr ⟨T,true,H,a1,d _ _ t1 t2 t3 u,t1,t2,t3,t4⟩,d _ _ D.TIz D.TIi1 D.TIi2 l,a3,a4,m.at fun o e=>d _ o D.l1z D.l1i1 D.l1i2 e,L2.at fun o e=>d _ o D.l2z D.l2i1 D.l2i2 e⟩ a5 a6 fun c o c1 _ c3 c4 e=>d c o c1 c3 c4 e)) (F.args_zip_next_1 _))))
theorem UM{TI TO h j S:Addr}{Q:Option Value->Shared->Prop}(k:A.handled=none)(D:ZipApart z TI TO h j l1 l2)(st:Yv s.heap z TI TO h j l1 l2 S i xs ys)(l:xs[i]?=none)(m:∀h',(∀c o,c≠z->c≠TO->c≠h->c≠j->s.heap.get? c=some o->h'.get? c=some o)->Q none {s with heap:=h'}):wpAny (model prog w) A (pyNext (.ref z)) Q E s:=by
 obtain⟨st,n,p,r,q,L2⟩:=st;rcases st with⟨rfl,g,a,b,t⟩|⟨T,f,C,g,u,t1,t2,t3,t4⟩
 ·exact wpAny_pyNext_zip_end k D g n t p r q L2 (.inl l) m
 ·have d:s.TypeIs (.ref z) "zip":=⟨_,g,rfl⟩;unfold pyNext;refine wpAny_bind (wpAny_attempt (wpAny_callSpecial?_slot (name:=Str.ofString "__next__") d F.slot_zip_next (wpAny_call_entry F.slot_zip_next d F.entry_zip_next (MA k D g u n p q l fun h' e v x=>?_) (F.args_zip_next_1 _))));obtain⟨o,y,B⟩:=x;refine wpAny_bind (wpAny_isInstance (T:="StopIteration") (b:=true) ⟨o,y,B⟩ isSubtype_stop ?_);exact wpAny_pure (m _ fun c o c1 _ c3 _ e=>v c o c1 c3 e)
end
section
variable{prog:Program} {w:World} {A:Around} {s:Shared} {R:Result->Shared->Prop} {xs ys:Array Value}
end
section
variable{prog:Program} {w:World} {A:Around} {E:Value->Shared->Prop} {s:Shared} {xs ys:Array Value}
end
section
variable{X:Cx} {pins:List (Addr×Obj)} {σ:St} {H:Hp} {s:Shared}
end
theorem Cq(b:Int)(u:Tok)(l:Addr)(c:Value)(e:Array DictEntry)(n:Nat)(f:Option Addr)(i:Array (Option Value)):
  Meets (Builtin.«int.__eq__» ⟨[.int b u,.ref l],[]⟩) (fun _ R s=>s.heap.get? l=some {cls:=c,dict:=f,data:=.dict e n,slots:=i}/\R (.ok (.ret .notImplemented)) s):=
 .of_wp fun prog w A R s h=>by obtain⟨j,g,d,k,os⟩:=s;obtain⟨a,h⟩:=h;wp_walk using wpAny_loadPart' a,wpAny_load a;exact⟨_,rfl,h⟩
theorem Cr(b:Str)(u:Tok)(l:Addr)(c:Value)(e:Array DictEntry)(n:Nat)(f:Option Addr)(i:Array (Option Value)):
  Meets (Builtin.«str.__eq__» ⟨[.str b u,.ref l],[]⟩) (fun _ R s=>s.heap.get? l=some {cls:=c,dict:=f,data:=.dict e n,slots:=i}/\R (.ok (.ret .notImplemented)) s):=
 .of_wp fun prog w A R s h=>by obtain⟨j,g,d,k,os⟩:=s;obtain⟨a,h⟩:=h;wp_walk using wpAny_loadPart' a,wpAny_load a;exact⟨_,rfl,h⟩
variable{f j:Array (Option Value)}{e:Array DictEntry}{items:Array Value}{d g:Option Addr}{l:Addr}{T:String}
section
variable{prog:Program} {w:World} {A:Around} {E:Value->Shared->Prop} {s:Shared}
theorem BW{d:Addr}{v:Value}(c:s.TypeIs (.ref d) "dict")(e:s.TypeIs v T)(a:isSubtype (.type T) (.type "dict")=pure false)(h:Q .notImplemented s):
  wpAny (model prog w) A (call (.builtin "dict.__eq__") [.ref d,v]) Q E s:=by
 refine wpAny_call_entry PySem.F.slot_dict_eq c PySem.F.entry_dict_eq ?_ (PySem.F.args_dict_eq_2 _ _);show wpAny _ _ (Builtin.Dict.dictSlotArgs "__eq__" ⟨[.ref d,v],[]⟩>>=_) _ _ s;refine wpAny_bind ?_;unfold Builtin.Dict.dictSlotArgs;refine wpAny_bind (wpAny_notOrdered_dict c ?_);show wpAny _ _ (pure (Value.ref d,v)) _ _ s;refine wpAny_pure ?_;refine wpAny_bind (wpAny_isInstance (T:=T) (b:=false) e a ?_);simp only[Bool.not_false,if_true];exact wpAny_bind (wpAny_rule (wpAny_pure ⟨_,rfl,h⟩))
theorem CW(l b:Addr)(items:Array Value)(e:Array DictEntry)(n f:Nat)(i a:Option Addr)(j c:Array (Option Value)):
  Meets (Builtin.«list.__eq__» ⟨[.ref l,.ref b],[]⟩) (fun _ R s=>s.heap.get? l=some {cls:=.type "list",dict:=i,data:=.seq items n,slots:=j}/\s.heap.get? b=some {cls:=.type "dict",dict:=a,data:=.dict e f,slots:=c}/\R (.ok (.ret .notImplemented)) s):=
 .of_wp fun prog w A R s h=>by obtain⟨o,g,d,p,os⟩:=s;obtain⟨k,m,h⟩:=h;have q:=F.sub_dict_list;wp_walk using wpAny_loadPart' k,wpAny_loadPart' m;exact⟨_,rfl,h⟩
structure HN(h:Heap)(b:Addr)(dd:Option Addr)(es:Array DictEntry)(n:Nat)(sl:Array (Option Value)):Prop where
 ho:h.get? b=some {cls:=.type "dict",dict:=dd,data:=.dict es n,slots:=sl}
theorem Nj(i:Int)(u:Tok)(c:HN s.heap b d e n f)(g:A.units<cLine):SeqAt.RcAt A s (.int i u) (.ref b) false:=fun prog w E Q h=>
 SeqAt.rc_eq_decline_or (k:=false) (typeIs_int s i u) ⟨_,c.ho,rfl⟩ (by decide) F.sub_dict_int F.slot_int_eq F.slot_dict_eq_refl (fun _ a=>call_meets F.slot_int_eq (typeIs_int s i u) F.entry_int_eq (F.args_int_eq_2 _ _) (Cq i u b (.type "dict") e n d f) ⟨c.ho,a⟩) (fun _ a=>BW ⟨_,c.ho,rfl⟩ (typeIs_int s i u) F.sub_int_dict a) (fun _ a=>wpAny_of_eq (rfl:isSame (.int i u) (.ref b)=pure false) a) (.inr g) h
theorem Nk(i:Int)(u:Tok)(c:HN s.heap b d e n f)(g:A.units<cLine):SeqAt.RcAt A s (.ref b) (.int i u) false:=fun prog w E Q h=>
 SeqAt.rc_eq_decline_or (k:=false) ⟨_,c.ho,rfl⟩ (typeIs_int s i u) (by decide) F.sub_int_dict F.slot_dict_eq F.slot_int_eq_refl (fun _ a=>BW ⟨_,c.ho,rfl⟩ (typeIs_int s i u) F.sub_int_dict a) (fun _ a=>call_meets F.slot_int_eq_refl (typeIs_int s i u) F.entry_int_eq (F.args_int_eq_2 _ _) (Cq i u b (.type "dict") e n d f) ⟨c.ho,a⟩) (fun _ a=>wpAny_of_eq (rfl:isSame (.ref b) (.int i u)=pure false) a) (.inr g) h
theorem Nl(x:Str)(u:Tok)(c:HN s.heap b d e n f)(g:A.units<cLine):SeqAt.RcAt A s (.str x u) (.ref b) false:=fun prog w E Q h=>
 SeqAt.rc_eq_decline_or (k:=false) (typeIs_str s x u) ⟨_,c.ho,rfl⟩ (by decide) F.sub_dict_str F.slot_str_eq F.slot_dict_eq_refl (fun _ a=>call_meets F.slot_str_eq (typeIs_str s x u) F.entry_str_eq (F.args_str_eq_2 _ _) (Cr x u b (.type "dict") e n d f) ⟨c.ho,a⟩) (fun _ a=>BW ⟨_,c.ho,rfl⟩ (typeIs_str s x u) F.sub_str_dict a) (fun _ a=>wpAny_of_eq (rfl:isSame (.str x u) (.ref b)=pure false) a) (.inr g) h
theorem Nm(x:Str)(u:Tok)(c:HN s.heap b d e n f)(g:A.units<cLine):SeqAt.RcAt A s (.ref b) (.str x u) false:=fun prog w E Q h=>
 SeqAt.rc_eq_decline_or (k:=false) ⟨_,c.ho,rfl⟩ (typeIs_str s x u) (by decide) F.sub_str_dict F.slot_dict_eq F.slot_str_eq_refl (fun _ a=>BW ⟨_,c.ho,rfl⟩ (typeIs_str s x u) F.sub_str_dict a) (fun _ a=>call_meets F.slot_str_eq_refl (typeIs_str s x u) F.entry_str_eq (F.args_str_eq_2 _ _) (Cr x u b (.type "dict") e n d f) ⟨c.ho,a⟩) (fun _ a=>wpAny_of_eq (rfl:isSame (.ref b) (.str x u)=pure false) a) (.inr g) h
theorem Xb{a:Option Addr}{c:Array DictEntry}{d:Array (Option Value)}{h:Heap}(hl:h.IsList l items)(f:HN h b a c n d):l≠b:=fun e=>by
 subst e;obtain⟨o,ho,g,_⟩:=hl;rw[f.ho]at ho;cases ho;exact absurd g (by simp)
theorem MB{i:Array DictEntry}(hl:s.heap.IsList l items)(a:HN s.heap b g i n j)(p:A.units<cLine):SeqAt.RcAt A s (.ref l) (.ref b) false:=fun prog w E Q h=>by
 have d:=Xb hl a;obtain⟨⟨q,e,data,f⟩,ho,m,r,o⟩:=id hl;simp only at m o;subst m o;exact(SeqAt.rc_eq_decline_or (k:=false) ⟨_,ho,rfl⟩ ⟨_,a.ho,rfl⟩ (by decide) F.sub_dict_list F.slot_list_eq F.slot_dict_eq_refl (fun _ c=>call_meets F.slot_list_eq ⟨_,ho,rfl⟩ F.entry_list_eq (F.args_list_eq_2 _ _) (CW l b items i r n e g f j) ⟨ho,a.ho,c⟩) (fun _ c=>BW ⟨_,a.ho,rfl⟩ ⟨_,ho,rfl⟩ F.sub_list_dict c) (fun _ c=>SeqAt.wpAny_isSame_ref_other' d ho a.ho (by simp) c) (.inr p) h)
theorem MC{i:Array DictEntry}(hl:s.heap.IsList l items)(a:HN s.heap b g i n j)(p:A.units<cLine):SeqAt.RcAt A s (.ref b) (.ref l) false:=fun prog w E Q h=>by
 have d:=Xb hl a;obtain⟨⟨q,e,data,f⟩,ho,m,r,o⟩:=id hl;simp only at m o;subst m o;exact(SeqAt.rc_eq_decline_or (k:=false) ⟨_,a.ho,rfl⟩ ⟨_,ho,rfl⟩ (by decide) F.sub_list_dict F.slot_dict_eq F.slot_list_eq_refl (fun _ c=>BW ⟨_,a.ho,rfl⟩ ⟨_,ho,rfl⟩ F.sub_list_dict c) (fun _ c=>call_meets F.slot_list_eq_refl ⟨_,ho,rfl⟩ F.entry_list_eq (F.args_list_eq_2 _ _) (CW l b items i r n e g f j) ⟨ho,a.ho,c⟩) (fun _ c=>SeqAt.wpAny_isSame_ref_other' d.symm a.ho ho (by simp) c) (.inr p) h)
end
open PySem.AutoSeq1 (wpAny_loadPart')
open PySem.MeetsSeq3
section
variable{prog:Program} {w:World} {A:Around} {s:Shared}
def lM(prog:Program)(w:World)(A:Around)(s:Shared)(u v:Value):Prop:=∀(E:Value->Shared->Prop)(Q:Bool->Shared->Prop),Q true s->wpAny (model prog w) A (eqBool u v) Q E s
def lN(prog:Program)(w:World)(A:Around)(s:Shared)(u v:Value):Prop:=∀(E:Value->Shared->Prop)(Q:Value->Shared->Prop),Q (.bool true) s->wpAny (model prog w) A (richCompare .Eq u v) Q E s
theorem call_one{E:Value->Shared->Prop}{name:Str}{id:String}{B:Builtin}{self:Value}{rest:List Value}(slot:Slot T name id)(c:s.TypeIs self T)(entry:entryFor table id=some B)(args:argsOk id ⟨self::rest,[]⟩)(g:wpAny (model prog w) A.in1 (B ⟨self::rest,[]⟩) (fun fin a=>match fin with| .done f=>wants Q E (.ok f) a| .again b=>b.quiet=true/\codeAny (model prog w) A b (wants Q E) a) (fun e a=>wants Q E (.error e) a) s):
  wpAny (model prog w) A (call (.builtin id) (self::rest)) Q E s:=wpAny_call (codeAny_call_builtin slot.plain entry (slot.check _ _ _ _ _ _ _ _ c args g))
theorem Rm{a:Array Value}(hl:s.heap.IsTuple l items)(G:s.heap.IsTuple b a)(hsz:items.size=a.size)(H:A.units<cLine)(I:∀j (v:j<items.size) (z:j<a.size),lM prog w A.in1 s items[j] a[j]):lN prog w A s (.ref l) (.ref b):=fun E Q h=>by
 obtain⟨⟨J,R,data,S⟩,r,B,n,C⟩:=id hl;obtain⟨⟨D,K,data2,L⟩,f,k,T,m⟩:=id G;simp only at B C k m;subst B C k m;refine wpAny_richCompare_same_room (op:=.Eq) ⟨_,r,rfl⟩ ⟨_,f,rfl⟩ F.slot_tuple_eq (wpAny_call_entry F.slot_tuple_eq ⟨_,r,rfl⟩ F.entry_tuple_eq ?_ (F.args_tuple_eq_2 _ _)) H;obtain⟨M,g,d,N,os⟩:=s;have U:=AutoSeq1.sub_tuple_tuple;wp_walk using wpAny_loadPart' r,wpAny_loadPart' f,wpAny_forIn_list _ (fun rest b t=>b.1=none/\t=⟨M,g,d,N,os⟩/\∃i,rest=(items.toList.zip a.toList).drop i) _
 case turn=>
  rintro⟨y,x⟩ rest b t ⟨c,rfl,i,o⟩;have p:i<(items.toList.zip a.toList).length:=by
   rcases Nat.lt_or_ge i (items.toList.zip a.toList).length with u|u
   ·exact u
   ·rw[List.drop_of_length_le u]at o;cases o
  have v:i<items.size:=by simp at p;lia
  have z:i<a.size:=by lia
  rw[List.drop_eq_getElem_cons p]at o;injection o with q e;have O:y=items[i]:=by have:=congrArg Prod.fst q;simpa using this
  have P:x=a[i]:=by have:=congrArg Prod.snd q;simpa using this
  subst O P;refine wpAny_bind (I i v z _ _ ?_);wp_walk;exact⟨rfl,rfl,i+1,e⟩
 case fin=>
  rintro⟨V,W⟩ t ⟨c,rfl,i,o⟩;simp only at c;subst c;wp_walk;exact⟨_,rfl,(fun x=>nomatch x),by simpa[Builtin.Tuple.tupleCompareSizes,hsz]using h⟩
 case h=>
  exact⟨rfl,rfl,0,rfl⟩
end
class Bb(K:outParam rg):Prop where
 x:True
structure EH(H H':Hp):Prop where
 rd:EV H H'
 tp:∀a vs,H a=some (.tup vs)->H' a=some (.tup vs)
theorem EH.of{b:Hp}(s:AG H b):EH H b:=⟨s.r,fun a c e=>s _ _ e⟩
theorem EH.BP{a:Addr}{o:Obj}{kvs:List (Key×V)}{H c:Hp}(F:Nd a o kvs H c):EH H c:=⟨F.rd,fun b f e=>by
 have d:b≠a:=fun z=>by
  subst z;rcases F.en with r|⟨o,r⟩<;>rw[r]at e<;>cases e
 rw[F.ne b d];exact e⟩
theorem EH.trans{H d H2:Hp}(a:EH H d)(b:EH d H2):EH H H2:=⟨a.rd.trans b.rd,fun c f e=>b.tp c f (a.tp c f e)⟩
variable{K:rg}
theorem Bm.EI{b:Hp}{xs:List V}(h:Bm K H a xs)(s:EH H b):Bm K b a xs:=h.imp (fun r=>s.rd _ _ r) id
theorem Bm.up{b:Hp}{xs:List V}(h:Bm K H a xs)(s:AG H b):Bm K b a xs:=h.EI (.of s)
inductive Xc(K:rg)(H:Hp):V->String->Prop where
 |n {v:V} {T:String} (h:Mq H v T):Xc K H v T
 |t {a:Addr} {xs:List V} (h:Bm K H a xs):Xc K H (.ref a) "tuple"
variable{v:V}
theorem Xc.XX(h:Xc K H v T):∃(a:Hp)(b:V),Mq a b T:=by
 cases h with
 |n h=>exact⟨H,v,h⟩
 |t h=>exact⟨upd H 0 (.tup []),.ref 0,.tup AB⟩
section
variable{X:Cx}
inductive DE(K:rg)(xs:List V)(H:Hp)(Q:VK):Prop
 |mk(x c T:_)(a:xs=[x,.ty c])(b:WG c=true)(d:Xc K H x T)(e:Q (.bl (Tg T c)) H)
theorem BO:BE X (.builtin "isinstance") (DE X.K):=by
 intro pins s v H i w Q I r h;obtain⟨x,c,T,rfl,j,ty,q⟩:=h;obtain⟨u,y,rfl,g,b⟩:=vals2 r;cases b;obtain⟨A,B,d⟩:=ty.XX;have e:=QR (K:=X.K) d j;cases ty with
 |n ty=>exact NR I g ty e fun f=>⟨.bl _,H,I.tok f,rfl,q⟩
 |@t a i k=>
  cases(show u=Value.ref a from g);obtain⟨_,_,p,_⟩:=I.tuple k;obtain⟨o,l,m,_⟩:=p;exact PySem.W.kia_one PySem.W.kitx_tuple I.Dq ⟨o,l,m⟩ e (fun z=>nomatch z) fun f=>⟨.bl _,H,I.tok f,rfl,q⟩
def UN(T:String):Bool:=T=="list"||T=="tuple"
theorem Yw(h:Mq H v T):PySem.W.kitAny K (.type T) [.type "list",.type "tuple"]=some (UN T):=by
 cases h<;>kernel_rfl
inductive UO(K:rg)(xs:List V)(H:Hp)(Q:VK):Prop
 |mk(x:V)(p:Addr)(T:String)(a:xs=[x,.ref p])(b:H p=some (.tup [.ty "list",.ty "tuple"]))(c:Xc K H x T)(d:Q (.bl (UN T)) H)
theorem Pe:BE X (.builtin "isinstance") (UO X.K):=by
 intro pins s G H l J Q I r h;obtain⟨x,p,T,rfl,m,ty,q⟩:=h;obtain⟨u,L,rfl,g,b⟩:=vals2 r;cases b;obtain⟨v,w,y,_⟩:=I.tuple (Bm.of m);obtain⟨⟨A,M,data,N⟩,i,j,n,k⟩:=id y;simp only at j k;subst j k;obtain⟨O,P,c⟩:=ty.XX;have e:=Yw (K:=X.K) c;cases w with
 |cons B d=>
  cases d with
  |cons C d=>
   cases d;cases B;cases C;cases ty with
   |n ty=>exact FT I g ty i e fun f=>⟨.bl _,H,I.tok f,rfl,q⟩
   |@t a l D=>
    cases(show u=Value.ref a from g);obtain⟨_,_,p,_⟩:=I.tuple D;obtain⟨o,E,F,_⟩:=p;exact PySem.W.kia_tup PySem.W.kitx_tuple I.Dq ⟨o,E,F⟩ i e (fun z=>nomatch z) fun f=>⟨.bl _,H,I.tok f,rfl,q⟩
end
inductive Pt where
 |int (i:Int)
 |str (x:Str)
 |bl (b:Bool)
 |Ai
 |lst (xs:List Pt)
 |tup (xs:List Pt)
 |BI (ks:List Str) (xs:List Pt)
namespace Pt
mutual
noncomputable def size:Pt->Nat
 |int _|str _|bl _|Ai=>1
 |lst xs|tup xs=>1+AI xs
 |BI _ xs=>1+AI xs
noncomputable def AI:List Pt->Nat
 |[]=>0
 |x::r=>size x+AI r
end
mutual
noncomputable def deep:Pt->Nat
 |int _|str _|bl _|Ai=>1
 |lst xs|tup xs=>1+AS xs
 |BI _ xs=>1+AS xs
noncomputable def AS:List Pt->Nat
 |[]=>0
 |x::r=>max (deep x) (AS r)
end
mutual
def doc:Pt->Prop
 |int _=>True
 |str x=>x.length<=100
 |bl _=>False
 |Ai=>False
 |tup _=>False
 |lst xs=>Bl xs
 |BI ks xs=>ks.length=xs.length/\ks.Nodup/\(∀k∈ks,EE k=true)/\ks.length<64/\Bl xs
def Bl:List Pt->Prop
 |[]=>True
 |x::r=>doc x/\Bl r
end
mutual
def txt:Pt->Prop
 |str x=>KP x=true
 |int _|bl _|Ai=>True
 |lst xs|tup xs=>Rn xs
 |BI _ xs=>Rn xs
def Rn:List Pt->Prop
 |[]=>True
 |x::r=>txt x/\Rn r
end
theorem JQ:∀{xs:List Pt},Rn xs->∀x∈xs,txt x
 |y::r,h,x,a=>by
  simp only[Rn]at h;rcases List.mem_cons.mp a with rfl|a
  ·exact h.1
  ·exact JQ h.2 x a
def look(ks:List Str)(xs:List Pt)(k:Str):Option Pt:=(ks.zip xs).lookup k
mutual
noncomputable def CJ:Pt->Pt->Bool
 |int i,int j=>i==j
 |str x,str y=>x==y
 |bl a,bl b=>a==b
 |Ai,Ai=>true
 |lst xs,lst ys=>EX xs ys
 |tup xs,tup ys=>EX xs ys
 |BI ks xs,BI ls ys=>ks.length==ls.length&&Ro ks xs ls ys
 |_,_=>false
noncomputable def EX:List Pt->List Pt->Bool
 |[],[]=>true
 |x::xs,y::ys=>CJ x y&&EX xs ys
 |_,_=>false
noncomputable def Ro:List Str->List Pt->List Str->List Pt->Bool
 |k::ks,x::xs,ls,ys=>(match look ls ys k with|some y=>CJ x y|none=>false)&&Ro ks xs ls ys
 |_,_,_,_=>true
end
theorem size_pos(t:Pt):1<=t.size:=by cases t<;>simp only[size]<;>lia
theorem CG(t:Pt):1<=t.deep:=by cases t<;>simp only[deep]<;>lia
theorem BX:∀{xs:List Pt}{x:Pt},x∈xs->x.size<=AI xs
 |y::r,x,h=>by
  simp only[AI];rcases List.mem_cons.mp h with rfl|h
  ·lia
  ·have:=BX h;lia
theorem Ad:∀{xs:List Pt}{x:Pt},x∈xs->x.deep<=AS xs
 |y::r,x,h=>by
  simp only[AS];rcases List.mem_cons.mp h with rfl|h
  ·lia
  ·have:=Ad h;lia
theorem CL:∀xs:List Pt,xs.length<=AI xs
 |[]=>Nat.le_refl _
 |x::r=>by have:=CL r;have:=size_pos x;simp only[List.length_cons,AI];lia
theorem Aw:∀{xs:List Pt},Bl xs->∀x∈xs,doc x
 |y::r,h,x,a=>by
  simp only[Bl]at h;rcases List.mem_cons.mp a with rfl|a
  ·exact h.1
  ·exact Aw h.2 x a
theorem Dz:∀{xs:List Pt},(∀x∈xs,doc x)->Bl xs
 |[],_=>trivial
 |x::r,h=>⟨h x List.mem_cons_self,Dz fun y a=>h y (List.mem_cons_of_mem _ a)⟩
theorem A_(xs ys:List Pt):AI (xs++ys)=AI xs+AI ys:=by
 induction xs with
 |nil=>simp[AI]
 |cons x r a=>simp only[List.cons_append,AI,a];lia
theorem UP{xs:List Pt}{k:Str}{x:Pt}(h:look ks xs k=some x):k∈ks/\x∈xs:=by
 unfold look at h
 induction ks generalizing xs with
 |nil=>simp at h
 |cons y r a=>
  cases xs with
  |nil=>simp at h
  |cons z b=>
   simp only[List.zip_cons_cons,List.lookup_cons]at h;by_cases e:k=y
   ·subst e;simp at h;subst h;exact⟨List.mem_cons_self,List.mem_cons_self⟩
   ·have:(k==y)=false:=by simpa using e
    rw[this]at h;have:=a h;exact⟨List.mem_cons_of_mem _ this.1,List.mem_cons_of_mem _ this.2⟩
theorem Rp{xs:List Pt}(l:ks.length=xs.length){k:Str}(a:k∈ks):∃x,look ks xs k=some x:=by
 unfold look
 induction ks generalizing xs with
 |nil=>cases a
 |cons y r b=>
  cases xs with
  |nil=>simp at l
  |cons z c=>
   simp only[List.zip_cons_cons,List.lookup_cons];by_cases e:k=y
   ·subst e;exact⟨z,by simp⟩
   ·have:(k==y)=false:=by simpa using e
    rw[this];exact b (by simpa using l) ((List.mem_cons.mp a).resolve_left e)
end Pt
mutual
inductive Val{K:rg}[Bb K](H:Hp):V->Pt->Prop
 |int (i:Int):Val H (.int i) (.int i)
 |str (x:Str):Val H (.str x) (.str x)
 |bl (b:Bool):Val H (.bl b) (.bl b)
 |Ai:Val H .Ai .Ai
 |lst {a:Addr} {vs:List V} {ts:List Pt} (h:Rd H a (.lst vs)) (r:AQ H vs ts):Val H (.ref a) (.lst ts)
 |tup {a:Addr} {vs:List V} {ts:List Pt} (h:Bm K H a vs) (r:AQ H vs ts):Val H (.ref a) (.tup ts)
 |BI {a:Addr} {kvs:List (Key×V)} {ks:List Str} {ts:List Pt} (h:Rd H a (.dK kvs)) (c:kvs.map (·.1)=ks.map Sum.inr) (r:AQ H (kvs.map (·.2)) ts):Val H (.ref a) (.BI ks ts)
inductive AQ{K:rg}[Bb K](H:Hp):List V->List Pt->Prop
 |nil:AQ H [] []
 |cons {v:V} {t:Pt} {vs:List V} {ts:List Pt} (h:Val H v t) (r:AQ H vs ts):AQ H (v::vs) (t::ts)
end
variable{ts:List Pt}{t:Pt}
section
variable{K:rg} [Bb K]
mutual
theorem Val.Xd{H a:Hp}(s:EH H a):∀(t:Pt){v:V},Val H v t->Val a v t
 | .int _=>fun h=>by cases h;exact .int _
 | .str _=>fun h=>by cases h;exact .str _
 | .bl _=>fun h=>by cases h;exact .bl _
 | .Ai=>fun h=>by cases h;exact .Ai
 | .lst ts=>fun h=>by cases h with|lst h r=>exact .lst (s.rd _ _ h) (AQ.Xd s ts r)
 | .tup ts=>fun h=>by cases h with|tup h r=>exact .tup (h.EI s) (AQ.Xd s ts r)
 | .BI _ ts=>fun h=>by cases h with|BI h b r=>exact .BI (s.rd _ _ h) b (AQ.Xd s ts r)
theorem AQ.Xd{H a:Hp}(s:EH H a):∀(ts:List Pt){vs:List V},AQ H vs ts->AQ a vs ts
 |[]=>fun h=>by cases h;exact .nil
 |t::ts=>fun h=>by cases h with|cons h r=>exact .cons (Val.Xd s t h) (AQ.Xd s ts r)
end
theorem Val.EI{a:Hp}(s:EH H a)(h:Val H v t):Val a v t:=Val.Xd s t h
theorem AQ.EI{a:Hp}(s:EH H a)(h:AQ H vs ts):AQ a vs ts:=AQ.Xd s ts h
theorem Val.up{a:Hp}(h:Val H v t)(s:AG H a):Val a v t:=h.EI (.of s)
theorem AQ.up{a:Hp}{v:List V}{t:List Pt}(h:AQ H v t)(s:AG H a):AQ a v t:=h.EI (.of s)
theorem AQ.length{H:Hp}:∀{vs:List V}{ts:List Pt},AQ H vs ts->vs.length=ts.length
 |_,_,.nil=>rfl
 |_,_,.cons _ r=>by rw[List.length_cons,List.length_cons,r.length]
theorem AQ.get{H:Hp}:∀{vs:List V}{ts:List Pt},AQ H vs ts->∀{i:Nat}{v:V},vs[i]?=some v->∃t,ts[i]?=some t/\Val H v t
 |_,_,.nil,i,v,h=>by simp at h
 |_,_,.cons h r,0,v,e=>by
  simp at e;subst e;exact⟨_,by simp,h⟩
 |_,_,.cons h r,i+1,v,e=>by
  obtain⟨t,a,b⟩:=r.get (i:=i) (v:=v) (by simpa using e);exact⟨t,by simpa using a,b⟩
theorem AQ.get'{H:Hp}:∀{vs:List V}{ts:List Pt},AQ H vs ts->∀{i:Nat}{t:Pt},ts[i]?=some t->∃v,vs[i]?=some v/\Val H v t
 |_,_,.nil,i,v,h=>by simp at h
 |_,_,.cons h r,0,v,e=>by
  simp at e;subst e;exact⟨_,by simp,h⟩
 |_,_,.cons h r,i+1,v,e=>by
  obtain⟨t,a,b⟩:=r.get' (i:=i) (t:=v) (by simpa using e);exact⟨t,by simpa using a,b⟩
theorem AQ.append{H:Hp}:∀{vs:List V}{ts:List Pt},AQ H vs ts->∀{ws:List V}{us:List Pt},AQ H ws us->AQ H (vs++ws) (ts++us)
 |_,_,.nil,_,_,s=>s
 |_,_,.cons h r,_,_,s=>.cons h (r.append s)
theorem AQ.of{H:Hp}:∀{vs:List V}{ts:List Pt},vs.length=ts.length->(∀(i:Nat) v t,vs[i]?=some v->ts[i]?=some t->Val H v t)->AQ H vs ts
 |[],[]=>fun _ _=>.nil
 |[],_::_=>fun l _=>by simp at l
 |_::_,[]=>fun l _=>by simp at l
 |v::vs,t::ts=>fun l h=>.cons (h 0 v t (by simp) (by simp)) (AQ.of (by simpa using l) fun i w u a b=>h (i+1) w u (by simpa using a) (by simpa using b))
theorem Val.Fw{H:Hp}:∀{kvs:List (Key×V)}{ks:List Str}{ts:List Pt},kvs.map (·.1)=ks.map Sum.inr->AQ H (kvs.map (·.2)) ts->∀k:Str,(∃v t,Av kvs (Sum.inr k)=some v/\Pt.look ks ts k=some t/\Val H v t)∨(Av kvs (Sum.inr k)=none/\Pt.look ks ts k=none)
 |[],[],_,_,r,k=>by cases r;exact .inr ⟨rfl,rfl⟩
 |[],_::_,_,h,_,_=>by simp at h
 |_::_,[],_,h,_,_=>by simp at h
 |(y,v)::kvs,x::ks,ts,h,r,k=>by
  simp only[List.map_cons,List.cons.injEq]at h;obtain⟨e,h⟩:=h;subst e;cases r with
  |@cons _ t _ ts a r=>
   by_cases e:k=x
   ·subst e;exact .inl ⟨v,t,BZ rfl,by simp[Pt.look],a⟩
   ·have b:(k==x)=false:=by simpa using e
    have c:Av ((Sum.inr x,v)::kvs) (Sum.inr k)=Av kvs (Sum.inr k):=BS (by intro z;exact e (Sum.inr.inj z).symm);have d:Pt.look (x::ks) (t::ts) k=Pt.look ks ts k:=by simp[Pt.look,List.zip_cons_cons,List.lookup_cons,b]
    rw[c,d];exact Val.Fw h r k
end
variable{w:Str}
section
variable{K:rg} [Bb K]
theorem Val.er{x:Str}(h:Val H v (.str x)):v=.str x:=by cases h;rfl
theorem Val.jB{x:Bool}(h:Val H v (.bl x)):v=.bl x:=by cases h;rfl
theorem Val.tupI(h:Val H v (.tup ts)):∃a vs,v=.ref a/\Bm K H a vs/\AQ H vs ts:=by cases h with|tup h r=>exact⟨_,_,rfl,h,r⟩
theorem Val.WS(h:Val H v (.lst ts)):∃a vs,v=.ref a/\Rd H a (.lst vs)/\AQ H vs ts:=by cases h with|lst h r=>exact⟨_,_,rfl,h,r⟩
theorem Val.WT(h:Val H v (.BI ks ts)):∃(a:Addr)(kvs:List (Key×V)),v=.ref a/\Rd H a (.dK kvs)/\kvs.map (·.1)=ks.map Sum.inr/\AQ H (kvs.map (·.2)) ts:=by cases h with|BI h b r=>exact⟨_,_,rfl,h,b,r⟩
theorem AQ.Fx(h:AQ H vs (t::ts)):∃v a,vs=v::a/\Val H v t/\AQ H a ts:=by cases h with|cons h r=>exact⟨_,_,rfl,h,r⟩
theorem AQ.WU(h:AQ H vs []):vs=[]:=by cases h;rfl
theorem Val.t1(h:Val H v (.tup (.str w::ts))):∃t vs,v=.ref t/\Bm K H t (.str w::vs)/\AQ H vs ts:=by
 obtain⟨t,vs,rfl,h,r⟩:=Val.tupI h;obtain⟨_,_,rfl,g,q⟩:=r.Fx;rw[g.er]at h;exact⟨_,_,rfl,h,q⟩
theorem Val.t2{p:Pt}(h:Val H v (.tup [.str w,p])):∃t u,v=.ref t/\Bm K H t [.str w,u]/\Val H u p:=by
 obtain⟨t,_,e,h,r⟩:=h.t1;obtain⟨u,_,rfl,g,q⟩:=r.Fx;rw[q.WU]at h;exact⟨t,u,e,h,g⟩
theorem Val.t3{p q:Pt}(h:Val H v (.tup [.str w,p,q])):∃t u z,v=.ref t/\Bm K H t [.str w,u,z]/\Val H u p/\Val H z q:=by
 obtain⟨t,_,e,h,r⟩:=h.t1;obtain⟨u,_,rfl,g,r⟩:=r.Fx;obtain⟨z,_,rfl,a,r⟩:=r.Fx;rw[r.WU]at h;exact⟨t,u,z,e,h,g,a⟩
theorem Val.t4{p q o:Pt}(h:Val H v (.tup [.str w,p,q,o])):∃t u z y,v=.ref t/\Bm K H t [.str w,u,z,y]/\Val H u p/\Val H z q/\Val H y o:=by
 obtain⟨t,_,e,h,r⟩:=h.t1;obtain⟨u,_,rfl,g,r⟩:=r.Fx;obtain⟨z,_,rfl,a,r⟩:=r.Fx;obtain⟨y,_,rfl,b,r⟩:=r.Fx;rw[r.WU]at h;exact⟨t,u,z,y,e,h,g,a,b⟩
end
section
variable{X:Cx} [Bb X.K] {pins:List (Addr×Obj)} {σ:St} {H:Hp} {s:Shared}
theorem AQ.at(r:AQ H vs ts)(c:Vals vs its){j:Nat}(h:j<its.toArray.size):∃v t,vs[j]?=some v/\ts[j]?=some t/\Val H v t/\RelV v its.toArray[j]:=by
 obtain⟨v,b,a⟩:=WQ c h;obtain⟨t,d,e⟩:=r.get b;exact⟨v,t,b,d,e,a⟩
end
section
end
section
variable{X:Cx}
end
inductive Xe:Pt->Prop
 |int (i:Int):Xe (.int i)
 |str (x:Str):Xe (.str x)
 |nil:Xe (.lst [])
 |emp:Xe (.BI [] [])
inductive Sm:Pt->Prop
 |one {t:Pt} (h:Xe t):Sm t
 |row {xs:List Pt} (h:∀x∈xs,Xe x):Sm (.lst xs)
 |tab {ks:List Str} {xs:List Pt} (h:∀x∈xs,Xe x):Sm (.BI ks xs)
section
variable{A:Around} {s:Shared}
end
section
variable{X:Cx} [Bb X.K] {pins:List (Addr×Obj)} {σ:St} {H:Hp} {s:Shared}
theorem Fy:∀{xs ys:List Pt},xs.length≠ys.length->Pt.EX xs ys=false
 |[],[],h=>by simp at h
 |[],_::_,_=>by simp[Pt.EX]
 |_::_,[],_=>by simp[Pt.EX]
 |x::xs,y::ys,h=>by
  have:=Fy (xs:=xs) (ys:=ys) (by simpa using h);simp[Pt.EX,this]
def pairE(xs ys:List Pt)(j:Nat):Bool:=match xs[j]?,ys[j]? with
 |some x,some y=>Pt.CJ x y
 |_,_=>false
theorem JR:∀{xs ys:List Pt},xs.length=ys.length->(List.range xs.length).all (pairE xs ys)=Pt.EX xs ys
 |[],[],_=>by simp[Pt.EX]
 |[],_::_,h=>by simp at h
 |_::_,[],h=>by simp at h
 |x::xs,y::ys,h=>by
  have a:=JR (xs:=xs) (ys:=ys) (by simpa using h);rw[List.length_cons,List.range_succ_eq_map,List.all_cons,List.all_map];have b:pairE (x::xs) (y::ys) 0=Pt.CJ x y:=by simp[pairE]
  have c:(pairE (x::xs) (y::ys)∘Nat.succ)=pairE xs ys:=by
   funext j;simp[pairE]
  rw[b,c,a];simp[Pt.EX]
theorem Gu(I:Inv X pins σ H s){kvs:List (Key×V)}(h:Rd H a (.dK kvs)):(a==sysModules)=false/\∃c b n d,HN s.heap a c b n d/\b.size=kvs.length:=by
 obtain⟨z,j,o,e,⟨⟨f,c,data,d⟩,b,n,k,l,i,p,m,q⟩⟩:=DL I.Ap h;have g:f=.type "dict":=l.1;simp only at i;subst g i;refine⟨j,c,b,n,d,⟨k⟩,?_⟩;have:=m.length;rw[e.length,<-this];simp
end
section
end
section
variable{X:Cx}
end
def lk{a:Type}(ks:List Str)(xs:List a)(k:Str):Option a:=(ks.zip xs).lookup k
theorem Cw{a:Type}{k:Str}{r:List Str}{z:a}{b:List a}:lk (y::r) (z::b) k=if k=y then some z else lk r b k:=by
 unfold lk;rw[List.zip_cons_cons,List.lookup_cons];by_cases e:k=y
 ·subst e;simp
 ·have:(k==y)=false:=by simpa using e
  rw[this,if_neg e]
theorem MD{a:Type}{xs:List a}{k:Str}{x:a}(h:lk ks xs k=some x):k∈ks/\x∈xs:=by
 induction ks generalizing xs with
 |nil=>simp[lk]at h
 |cons y r b=>
  cases xs with
  |nil=>simp[lk]at h
  |cons z c=>
   rw[Cw]at h;by_cases e:k=y
   ·rw[if_pos e]at h;cases h;exact⟨by rw[e];exact List.mem_cons_self,List.mem_cons_self⟩
   ·rw[if_neg e]at h;have:=b h;exact⟨List.mem_cons_of_mem _ this.1,List.mem_cons_of_mem _ this.2⟩
theorem ME{b:Type}{xs:List b}(l:ks.length=xs.length){k:Str}(a:k∈ks):∃x,lk ks xs k=some x:=by
 induction ks generalizing xs with
 |nil=>cases a
 |cons y r c=>
  cases xs with
  |nil=>simp at l
  |cons z d=>
   rw[Cw];by_cases e:k=y
   ·rw[if_pos e];exact⟨z,rfl⟩
   ·rw[if_neg e];exact c (by simpa using l) ((List.mem_cons.mp a).resolve_left e)
noncomputable def pk{a:Type}(f:a->Pt->Bool):Option a->Option Pt->Bool
 |some x,some y=>f x y
 |_,_=>false
noncomputable def MF{a:Type}(f:a->Pt->Bool):List Str->List a->List Str->List Pt->Bool
 |k::ks,x::xs,ls,ys=>(match lk ls ys k with|some y=>f x y|none=>false)&&MF f ks xs ls ys
 |_,_,_,_=>true
theorem UQ{d:Type}{a b:List d}(p:a.Perm b)(f:d->Bool):a.all f=b.all f:=by
 rw[Bool.eq_iff_iff,List.all_eq_true,List.all_eq_true];exact⟨fun h x c=>h x (p.mem_iff.mpr c),fun h x c=>h x (p.mem_iff.mp c)⟩
theorem MG{b:Type}(f:b->Pt->Bool){ls:List Str}{ys:List Pt}:∀{ks:List Str}{xs:List b},ks.length=xs.length->ks.Nodup->MF f ks xs ls ys=ks.all fun k=>pk f (lk ks xs k) (lk ls ys k)
 |[],[]=>fun _ _=>by simp[MF]
 |[],_::_=>fun h _=>by simp at h
 |_::_,[]=>fun h _=>by simp at h
 |k::ks,x::xs=>fun l nd=>by
  obtain⟨c,d⟩:=List.nodup_cons.mp nd;rw[List.all_cons,Cw,if_pos rfl];simp only[MF];rw[MG f (ks:=ks) (xs:=xs) (by simpa using l) d];congr 1
  ·cases lk ls ys k<;>rfl
  ·rw[Bool.eq_iff_iff,List.all_eq_true,List.all_eq_true];have e:∀y∈ks,lk (k::ks) (x::xs) y=lk ks xs y:=fun y a=>by
    rw[Cw,if_neg (fun z=>c (by rw[<-z];exact a))]
   exact⟨fun h y a=>by rw[e y a];exact h y a,fun h y a=>by have:=h y a;rwa [e y a]at this⟩
theorem UR{e:Type}(f:e->Pt->Bool){ls:List Str}{ys bs:List Pt}{xs as:List e}(l:ks.length=xs.length)(nd:ks.Nodup)(pm:ss.Perm ks)(c:ss.map (lk ks xs)=as.map some)(d:ss.map (lk ls ys)=bs.map some):
  MF f ks xs ls ys=(as.zip bs).all fun p=>f p.1 p.2:=by
 rw[MG f l nd,<-UQ pm];clear pm nd l
 induction ss generalizing as bs with
 |nil=>
  have:as=[]:=by cases as with|nil=>rfl|cons _ _=>simp at c
  subst this;simp
 |cons k r g=>
  cases as with
  |nil=>simp at c
  |cons a as=>
   cases bs with
   |nil=>simp at d
   |cons b bs=>
    simp only[List.map_cons,List.cons.injEq]at c d;rw[List.all_cons,List.zip_cons_cons,List.all_cons,g c.2 d.2,c.1,d.1];rfl
def Xf:Pt->List V->Prop
 | .lst xs,l=>l=(List.range xs.length).map fun(i:Nat)=>V.int (i:Int)
 | .BI ks _,l=>∃ss:List Str,l=ss.map V.str/\ss.Perm ks/\sortedS ss=true
 |_,l=>l=[]
def JS:Pt->Prop
 | .int _=>True
 | .str _=>True
 | .lst xs=>xs.length<=900
 | .BI ks xs=>ks.length=xs.length/\ks.length<64
 |_=>False
def D_:Pt->List Pt->Prop
 | .lst xs,ts=>ts=xs
 | .BI ks xs,ts=>∃ss:List Str,ss.Perm ks/\sortedS ss=true/\ss.map (lk ks xs)=ts.map some
 |_,ts=>ts=[]
theorem D_.one{as bs:List Pt}(h:D_ t as)(h':D_ t bs):as=bs:=by
 cases t with
 |lst c=>exact(show as=c from h).trans (show bs=c from h').symm
 |BI l c=>
  obtain⟨m,e,f,g⟩:=h;obtain⟨n,i,j,d⟩:=h';have:=HM f j (e.trans i.symm);subst this;rw[g]at d;have inj:∀{a b:List Pt},a.map some=b.map some->a=b:=by
   intro a
   induction a with
   |nil=>intro b h;cases b with|nil=>rfl|cons _ _=>simp at h
   |cons x r k=>
    intro b h;cases b with
    |nil=>simp at h
    |cons y q=>
     simp only[List.map_cons,List.cons.injEq]at h;rw[rY h.1,k h.2]
  exact inj d
 |_=>exact(show as=[]from h).trans (show bs=[]from h').symm
section
variable{K:rg} [Bb K]
def eu(H:Hp)(v s e:V):Prop:=(∃a b j,v=.ref a/\Rd H a (.lst b)/\s=.int ((j:Nat):Int)/\b[j]?=some e)∨∃a kvs k,v=.ref a/\Rd H a (.dK kvs)/\s=.str k/\Av kvs (Sum.inr k)=some e
theorem Nn{H:Hp}{kvs:List (Key×V)}{ks:List Str}{ts:List Pt}(f:kvs.map (·.1)=ks.map Sum.inr)(r:AQ H (kvs.map (·.2)) ts)(l:ks.length=ts.length):∀{ss:List Str},(∀k∈ss,k∈ks)->
  ∃(a:List V)(us:List Pt),AQ H a us/\ss.map (lk ks ts)=us.map some/\a.length=ss.length/\∀(i:Nat) e,a[i]?=some e->∃k,ss[i]?=some k/\Av kvs (Sum.inr k)=some e
 |[],_=>⟨[],[],.nil,rfl,rfl,fun i e h=>by simp at h⟩
 |k::ss,h=>by
  obtain⟨a,us,g,j,m,h4⟩:=Nn f r l (ss:=ss) fun x b=>h x (List.mem_cons_of_mem _ b);rcases Val.Fw f r k with⟨v,t,n,c,o⟩|⟨_,c⟩
  ·refine⟨v::a,t::us,.cons o g,by rw[List.map_cons,List.map_cons,j];congr 1,by rw[List.length_cons,List.length_cons,m],fun i e d=>?_⟩;cases i with
   |zero=>simp at d;subst d;exact⟨k,by simp,n⟩
   |succ i=>
    obtain⟨p,a1,a2⟩:=h4 i e (by simpa using d);exact⟨p,by simpa using a1,a2⟩
  ·obtain⟨x,b⟩:=Pt.Rp l (h k List.mem_cons_self);rw[b]at c;cases c
theorem Val.kids{l:List V}(n:Val H v t)(hold:JS t)(st:Xf t l):∃(c:List V)(us:List Pt),AQ H c us/\D_ t us/\c.length=l.length/\∀(i:Nat) e,c[i]?=some e->∃s,l[i]?=some s/\eu H v s e:=by
 cases n with
 |int i=>rw[show l=[]from st];exact⟨[],[],.nil,rfl,rfl,fun i e h=>by simp at h⟩
 |str i=>rw[show l=[]from st];exact⟨[],[],.nil,rfl,rfl,fun i e h=>by simp at h⟩
 |bl b=>exact hold.elim
 |Ai=>exact hold.elim
 |tup _ _=>exact hold.elim
 |@lst a f g h r=>
  have e:=r.length;rw[show l=_ from st];refine⟨f,g,r,rfl,by simp[e],fun i x j=>⟨.int (i:Int),?_,.inl ⟨a,f,i,rfl,h,rfl,j⟩⟩⟩;have B:=(rX j).1;rw[List.getElem?_map,List.getElem?_range (by lia)];rfl
 |@BI a kvs C g h d r=>
  obtain⟨ss,rfl,m,o⟩:=st;obtain⟨c,us,p,q,u,w⟩:=Nn d r hold.1 (ss:=ss) fun k d=>m.mem_iff.mp d;refine⟨c,us,p,⟨ss,m,o,q⟩,by rw[List.length_map];exact u,fun i e y=>?_⟩;obtain⟨k,z,A⟩:=w i e y;exact⟨.str k,by rw[List.getElem?_map,z];rfl,.inr ⟨a,kvs,k,rfl,h,rfl,A⟩⟩
noncomputable def Pt.Yk:Pt->String
 | .int _=>"int"
 | .str _=>"str"
 | .bl _=>"bool"
 | .Ai=>"NoneType"
 | .lst _=>"list"
 | .tup _=>"tuple"
 | .BI _ _=>"dict"
theorem Val.ty(h:Val H v t):Xc K H v t.Yk:=by
 cases h with
 |int i=>exact .n (.int i)
 |str x=>exact .n (.str x)
 |bl b=>exact .n (.bl b)
 |Ai=>exact .n .Ai
 |lst h _=>exact .n (.lst h)
 |tup h _=>exact .t h
 |BI h _ _=>exact .n (.dK h)
def Fz:Sp:=fun b H Q _=>∃(v:V)(t:Pt),b=[v]/\Val H v t/\JS t/\∀(p:Addr)(l:List V)(a:Hp),AG H a->H p=none->a p=some (.lst l)->Xf t l->Q (.ref p) a
def JT:Sp:=fun d H Q _=>∃(G:Hp)(v:V)(t:Pt),d=[v]/\AG G H/\Val G v t/\JS t/\∀(p:Addr)(b:List V)(c:List Pt)(a:Hp),AG H a->H p=none->a p=some (.lst b)->AQ G b c->D_ t c->Q (.ref p) a
end
section
variable{X:Cx}
end
inductive Ak where
 |any
 |BC (d:Pt)
 |row (xs:List Ak) (m:Bool)
 |tab (ks:List Str) (xs:List Ak) (ls:List Str) (m:Bool)
namespace Ak
mutual
noncomputable def pt:Ak->Pt
 |any=>.tup [.str "any"]
 |BC d=>.tup [.str "just",d]
 |row xs m=>.tup [.str "row",.lst (Gd xs),.bl m]
 |tab ks xs ls m=>.tup [.str "table",.BI ks (Gd xs),.lst (ls.map Pt.str),.bl m]
noncomputable def Gd:List Ak->List Pt
 |[]=>[]
 |x::r=>pt x::Gd r
end
theorem BG:∀xs:List Ak,Gd xs=xs.map pt
 |[]=>rfl
 |x::r=>by simp only[Gd,List.map_cons,BG r]
mutual
noncomputable def size:Ak->Nat
 |any=>1
 |BC _=>1
 |row xs _=>1+AI xs
 |tab _ xs _ _=>1+AI xs
noncomputable def AI:List Ak->Nat
 |[]=>0
 |x::r=>size x+AI r
end
mutual
noncomputable def deep:Ak->Nat
 |any=>1
 |BC _=>1
 |row xs _=>1+AS xs
 |tab _ xs _ _=>1+AS xs
noncomputable def AS:List Ak->Nat
 |[]=>0
 |x::r=>max (deep x) (AS r)
end
mutual
def ok:Ak->Prop
 |any=>True
 |BC d=>Sm d/\d.doc/\d.size<=10
 |row xs _=>Hv xs
 |tab ks xs ls _=>ks.length=xs.length/\ks.Nodup/\(∀k∈ks,EE k=true)/\ks.length<60/\(ls.length<=60/\ls.Nodup/\sortedS ls=true)/\(∀l∈ls,l∉ks)/\Hv xs
def Hv:List Ak->Prop
 |[]=>True
 |x::r=>ok x/\Hv r
end
mutual
def Mp:Ak->Prop
 |any=>True
 |BC d=>d.txt
 |row xs _=>KS xs
 |tab ks xs ls _=>ks.length+ls.length<=4/\KS xs
def KS:List Ak->Prop
 |[]=>True
 |x::r=>Mp x/\KS r
end
theorem DM{a b:List Ak}:KS a->KS b->KS (a++b):=by
 induction a with
 |nil=>exact fun _ h=>h
 |cons x r c=>exact fun h g=>⟨h.1,c h.2 g⟩
theorem JU:∀{xs:List Ak},KS xs->∀x∈xs,Mp x
 |y::r,h,x,a=>by
  rcases List.mem_cons.mp a with rfl|a
  ·exact h.1
  ·exact JU h.2 x a
theorem size_pos(t:Ak):1<=t.size:=by cases t<;>simp only[size]<;>lia
theorem CG(t:Ak):1<=t.deep:=by cases t<;>simp only[deep]<;>lia
theorem CL:∀xs:List Ak,xs.length<=AI xs
 |[]=>Nat.le_refl _
 |x::r=>by have:=CL r;have:=size_pos x;simp only[List.length_cons,AI];lia
theorem BX:∀{xs:List Ak}{x:Ak},x∈xs->x.size<=AI xs
 |y::r,x,h=>by
  simp only[AI];rcases List.mem_cons.mp h with rfl|h
  ·lia
  ·have:=BX h;lia
theorem Ad:∀{xs:List Ak}{x:Ak},x∈xs->x.deep<=AS xs
 |y::r,x,h=>by
  simp only[AS];rcases List.mem_cons.mp h with rfl|h
  ·lia
  ·have:=Ad h;lia
theorem MH:∀{xs:List Ak},Hv xs->∀x∈xs,ok x
 |y::r,h,x,a=>by
  simp only[Hv]at h;rcases List.mem_cons.mp a with rfl|a
  ·exact h.1
  ·exact MH h.2 x a
theorem US:∀{xs:List Ak},(∀x∈xs,ok x)->Hv xs
 |[],_=>trivial
 |x::r,h=>⟨h x List.mem_cons_self,US fun y a=>h y (List.mem_cons_of_mem _ a)⟩
def cnt(c l:Nat)(m:Bool):Bool:=c==l||(m&&decide (l<c))
mutual
noncomputable def lets:Ak->Pt->Bool
 |any,_=>true
 |BC d,t=>Pt.CJ d t
 |row xs m,.lst ys=>cnt ys.length xs.length m&&EY xs ys
 |tab ks xs ls m,.BI a ys=>(ks.all (fun k=>decide (k∈a))&& !(ls.any fun k=>decide (k∈a))&&cnt a.length ks.length m)&&JV ks xs a ys
 |_,_=>false
noncomputable def EY:List Ak->List Pt->Bool
 |a::as,y::ys=>lets a y&&EY as ys
 |_,_=>true
noncomputable def JV:List Str->List Ak->List Str->List Pt->Bool
 |k::ks,x::xs,a,ys=>(match lk a ys k with|some y=>lets x y|none=>false)&&JV ks xs a ys
 |_,_,_,_=>true
end
theorem FU{a:List Str}{ys:List Pt}:∀{ks:List Str}{xs:List Ak},JV ks xs a ys=MF lets ks xs a ys
 |[],xs=>by simp[JV,MF]
 |_::_,[]=>by simp[JV,MF]
 |k::ks,x::xs=>by simp only[JV,MF];rw[FU];try(cases lk a ys k<;>rfl)
theorem Ks:∀{xs:List Ak}{ys:List Pt},EY xs ys=(xs.zip ys).all fun p=>lets p.1 p.2
 |[],_=>by simp[EY]
 |_::_,[]=>by simp[EY]
 |x::xs,y::ys=>by simp only[EY,List.zip_cons_cons,List.all_cons];rw[Ks]
noncomputable def hold:Ak->Pt
 |row xs _=>.lst (Gd xs)
 |tab ks xs _ _=>.BI ks (Gd xs)
 |_=>.lst []
end Ak
section
variable{K:rg} [Bb K]
theorem Val.ak{a:Ak}(h:Val H v a.pt):∃(t:Addr)(w:Str)(rest:List V),v=.ref t/\Bm K H t (.str w::rest)/\ ((a=.any/\w="any"/\rest=[])∨(∃d u,a=.BC d/\w="just"/\rest=[u]/\Val H u d)∨(∃xs m u,a=.row xs m/\w="row"/\rest=[u,.bl m]/\Val H u (.lst (Ak.Gd xs)))∨∃ks xs ls m u z,a=.tab ks xs ls m/\w="table"/\rest=[u,z,.bl m]/\Val H u (.BI ks (Ak.Gd xs))/\Val H z (.lst (ls.map Pt.str))):=by
 cases a with
 |any=>
  obtain⟨t,_,e,h,q⟩:=Val.t1 (ts:=[]) h;rw[q.WU]at h;exact⟨t,_,_,e,h,.inl ⟨rfl,rfl,rfl⟩⟩
 |BC d=>
  obtain⟨t,u,e,h,g⟩:=Val.t2 (p:=d) h;exact⟨t,_,_,e,h,.inr (.inl ⟨d,u,rfl,rfl,rfl,g⟩)⟩
 |row xs m=>
  obtain⟨t,u,z,e,h,g,b⟩:=Val.t3 (q:=.bl m) h;rw[b.jB]at h;exact⟨t,_,_,e,h,.inr (.inr (.inl ⟨xs,m,u,rfl,rfl,rfl,g⟩))⟩
 |tab ks xs ls m=>
  obtain⟨t,u,z,y,e,h,g,b,c⟩:=Val.t4 (o:=.bl m) h;rw[c.jB]at h;exact⟨t,_,_,e,h,.inr (.inr (.inr ⟨ks,xs,ls,m,u,z,rfl,rfl,rfl,g,b⟩))⟩
end
section
variable{K:rg} [Bb K]
theorem MI{a:Type}:∀{ks:List Str}{xs:List a},ks.length=xs.length->ks.Nodup->ks.map (lk ks xs)=xs.map some:=by
 intro ks
 induction ks with
 |nil=>intro xs l _;cases xs with|nil=>rfl|cons _ _=>simp at l
 |cons k r b=>
  intro xs l nd;cases xs with
  |nil=>simp at l
  |cons x xs=>
   obtain⟨c,d⟩:=List.nodup_cons.mp nd;rw[List.map_cons,List.map_cons,Cw,if_pos rfl,<-b (by simpa using l) d];congr 1;exact List.map_congr_left fun y e=>by rw[Cw,if_neg (fun z=>c (by rw[<-z];exact e))]
theorem Ci{a:Type}{xs as:List a}(l:ks.length=xs.length)(nd:ks.Nodup)(pm:ss.Perm ks)(e:ss.map (lk ks xs)=as.map some):as.Perm xs:=by
 have b:(as.map some).Perm (xs.map some):=by rw[<-e,<-MI l nd];exact pm.map _
 have c:=b.filterMap id;simpa using c
theorem Pf{b:Type}{ks:List Str}{xs:List b}(l:ks.length=xs.length):∀{ss:List Str},(∀k∈ss,k∈ks)->∃as:List b,ss.map (lk ks xs)=as.map some
 |[],_=>⟨[],rfl⟩
 |k::ss,h=>by
  obtain⟨as,e⟩:=Pf l (ss:=ss) fun x a=>h x (List.mem_cons_of_mem _ a);obtain⟨x,a⟩:=ME l (h k List.mem_cons_self);exact⟨x::as,by rw[List.map_cons,List.map_cons,a,e]⟩
theorem MJ{a b:Type}(f:a->b){k:Str}:∀{ks:List Str}{xs:List a},lk ks (xs.map f) k=(lk ks xs k).map f
 |[],xs=>by simp[lk]
 |_::_,[]=>by simp[lk]
 |y::ks,x::xs=>by
  rw[List.map_cons,Cw,Cw];by_cases e:k=y
  ·rw[if_pos e,if_pos e];rfl
  ·rw[if_neg e,if_neg e];exact MJ f
end
variable{ws:List V}{o:Option Addr}
section
variable{K:rg} [Bb K]
def nw(H a:Hp):Hp:=fun b=>match H b with
 |none=>a b
 |some _=>none
theorem Ax{a:Hp}(h:H b=none):nw H a b=a b:=by unfold nw;rw[h]
theorem D'{a:Hp}{o}(h:H b=some o):nw H a b=none:=by unfold nw;rw[h]
theorem MK{a:Hp}:AG (nw H a) a:=fun b o e=>by
 cases h:H b with
 |none=>rw[Ax h]at e;exact e
 |some z=>rw[D' h]at e;cases e
structure Bt(o:Option Addr)(H H':Hp):Prop where
 keep:∀b e,o≠some b->H b=some e->H' b=some e
 EJ:∀b,H' b=none->H b=none
theorem Bt.refl:Bt o H H:=⟨fun _ _ _ e=>e,fun _ h=>h⟩
theorem Bt.of{a:Hp}(s:AG H a):Bt o H a:=⟨fun b e _ h=>s b e h,fun b h=>s.free h⟩
theorem Bt.same{a:Hp}(s:Bt none H a):AG H a:=fun b e h=>s.keep b e (fun z=>nomatch z) h
theorem Bt.trans{d:Hp}(a:Bt o H d)(b:Bt o d H2):Bt o H H2:=⟨fun c e n h=>b.keep c e n (a.keep c e n h),fun c h=>a.EJ c (b.EJ c h)⟩
theorem Bx{p:Addr}{o:HO}(h:upd H p o b=none):b≠p/\H b=none:=by
 by_cases e:b=p
 ·subst e;rw[AB]at h;cases h
 ·rw[AH e]at h;exact⟨e,h⟩
theorem Bt.put{d:Hp}{o:HO}(a:Bt (some l) H d):Bt (some l) H (upd d l o):=⟨fun c e n h=>by rw[AH (fun z=>n (by rw[z]))];exact a.keep c e n h,fun b h=>a.EJ b (Bx h).2⟩
theorem Bt.new{p:Addr}{f:Hp}{e:HO}(a:Bt o H f)(h:H p=none):Bt o H (upd f p e):=⟨fun c g n d=>by rw[AH (fun z=>by rw[z,h]at d;cases d)];exact a.keep c g n d,fun b h=>a.EJ b (Bx h).2⟩
def Zm(l:Addr)(H:Hp):Hp:=fun b=>if b=l then none else H b
theorem WV:AG (Zm l H) H:=fun b o e=>by
 unfold Zm at e;by_cases h:b=l
 ·rw[if_pos h]at e;cases e
 ·rw[if_neg h]at e;exact e
theorem Bs{a:Hp}(d:∀b,a b=none->H b=none)(s:∀b o,a b=none->H2 b=some o->c b=some o):AG (nw a H2) (nw H c):=fun b o e=>by
 cases h:a b with
 |none=>rw[Ax h]at e;rw[Ax (d b h)];exact s b o h e
 |some z=>rw[D' h]at e;cases e
theorem AQ.snoc(h:AQ H vs ts)(g:Val H v t):AQ H (vs++[v]) (ts++[t]):=h.append (.cons g .nil)
section
variable{J:It} {te:TE} {fs:List Nat} {σ:St} {H:Hp} {Q:VK}
theorem F_(o:Option Addr)(n:Nat)(item:Nat->V)(a:Nat->List Pt->Hp->Prop)(P:n<=1000)(F:∀D,H D=none->a 0 [] (upd H D (.lst [])))(fr:∀i us H2 D ws,Bt o H H2->H D=none->a i us H2->a i us (upd H2 D (.lst ws)))(hl:∀l,o=some l->H l≠none)(x:∀i us H2,i<n->Bt o H H2->a i us H2->J.go i H2)(G:∀i us H2 v p,i<n->Bt o H H2->a i us H2->J.Oq i H2 v p->v=item i/\p=H2)(A:∀us H2,Bt o H H2->a n us H2->J.stop n H2)(I:∀i us H2 (R:VK),i<n->Bt o H H2->a i us H2->us.length=i->(∀w u f,Bt o H2 f->Val (nw H2 f) w u->a (i+1) (us++[u]) f->R w f)->te (some (item i)::Bu σ fs) H2 R)(L:∀D H2 ws us,H D=none->Bt o H H2->H2 D=some (.lst ws)->us.length=n->AQ (nw H H2) ws us->a n us H2->Q (.ref D) H2):Cc J Gn te fs σ H Q:=by
 refine Lz n item (fun D i H2=>H D=none/\Bt o H H2/\∃ws us,H2 D=some (.lst ws)/\us.length=i/\AQ (nw (upd H D (.lst [])) H2) ws us/\a i us H2) (fun D c=>⟨c,.new .refl c,[],[],AB,rfl,.nil,F D c⟩) (fun D i H2 g ⟨_,s,ws,us,_,_,_,d⟩=>x i us H2 g s d) (fun D i H2 v p g ⟨_,s,ws,us,_,_,_,d⟩ y=>G i us H2 v p g s d y) (fun D H2 ⟨_,s,ws,us,_,_,_,d⟩=>A us H2 s d) (fun D i H2 _ g ⟨c,s,ws,us,j,q,r,d⟩=>?_) (fun D H2 _ ⟨c,s,ws,us,j,q,r,d⟩=>?_)
 ·refine I i us H2 _ g s d q fun w u f t M B=>?_;have N:o≠some D:=fun z=>hl D z c;have O:=t.keep D _ N j;have S:=r.length;have E:∀b,upd H D (.lst []) b=none->b≠D/\H b=none:=fun b h=>Bx h;refine⟨ws,O,Nat.lt_of_le_of_lt (by lia) (Am (Nat.le_refl 1000)),c,(s.trans t).new c,ws++[w],us++[u],AB,by simp[q],AQ.snoc (r.up (Bs (fun b h=>h) fun b e k C=>?_)) (M.up (Bs (fun b h=>?_) fun b e k C=>?_)),fr _ _ _ _ _ (s.trans t) c B⟩
  ·have m:=(E b k).1;rw[AH m];refine t.keep b e (fun z=>?_) C;exact hl b z (E b k).2
  ·have m:b≠D:=fun z=>by rw[z,j]at h;cases h
   rw[AH m];exact s.EJ b h
  ·have m:b≠D:=fun z=>by rw[z,j]at k;cases k
   rw[AH m];exact C
 ·exact L D H2 ws us c s j q (r.up (Bs (fun b h=>(Bx h).2) fun b e _ h=>h)) d
theorem Rq(o:Option Addr)(n:Nat)(item:Nat->V)(ks:List Str)(c:Nat->List Pt->Hp->Prop)(hn:n<=1000)(h0:∀D,H D=none->c 0 [] (upd H D (.lst [])))(fr:∀i us H2 D e,Bt o H H2->(H D=none)->c i us H2->c i us (upd H2 D e))(hl:∀l,o=some l->H l≠none)(I:∀i us H2,i<n->Bt o H H2->c i us H2->J.go i H2)(hy:∀i us H2 v C,i<n->Bt o H H2->c i us H2->J.Oq i H2 v C->v=item i/\C=H2)(L:∀us H2,Bt o H H2->c n us H2->J.stop n H2)(he:∀i us H2 (R:VK),i<n->Bt o H H2->c i us H2->us.length=i->(∀w u k t,Bt o H2 k->Val (nw H2 k) w u->c (i+1) (us++[u]) k->k t=none->R (.ref t) (upd k t (.tup [.str (ks.getD i ""),w])))->te (some (item i)::Bu σ fs) H2 R)(hQ:∀D H2 (ts:List Addr) ws us,H D=none->Bt o H H2->H2 D=some (.lst (ts.map V.ref))->ts.length=n->us.length=n->(∀(j:Nat) t w,ts[j]?=some t->ws[j]?=some w->H2 t=some (.tup [.str (ks.getD j ""),w])/\H t=none)->AQ (nw H H2) ws us->c n us H2->Q (.ref D) H2):Cc J Gn te fs σ H Q:=by
 refine Lz n item (fun D i H2=>H D=none/\Bt o H H2/\∃(ts:List Addr)(ws:List V)(us:List Pt),H2 D=some (.lst (ts.map V.ref))/\ts.length=i/\us.length=i/\(∀(j:Nat) t w,ts[j]?=some t->ws[j]?=some w->H2 t=some (.tup [.str (ks.getD j ""),w])/\H t=none)/\AQ (nw (upd H D (.lst [])) H2) ws us/\c i us H2) (fun D d=>⟨d,.new .refl d,[],[],[],AB,rfl,rfl,(fun j t w h=>by simp at h),.nil,h0 D d⟩) (fun D i H2 r ⟨_,s,ts,ws,us,_,_,_,_,_,g⟩=>I i us H2 r s g) (fun D i H2 v C r ⟨_,s,ts,ws,us,_,_,_,_,_,g⟩ y=>hy i us H2 v C r s g y) (fun D H2 ⟨_,s,ts,ws,us,_,_,_,_,_,g⟩=>L us H2 s g) (fun D i H2 _ r ⟨d,s,ts,ws,us,x,lt,E,M,F,g⟩=>?_) (fun D H2 _ ⟨d,s,ts,ws,us,x,lt,E,M,F,g⟩=>?_)
 ·refine he i us H2 _ r s g E fun w u k t m vw N p=>?_;have oD:o≠some D:=fun z=>hl D z d;have O:=m.keep D _ oD x;have U:t≠D:=fun z=>by rw[z,O]at p;cases p
  have d4:upd k t (.tup [.str (ks.getD i ""),w]) D=some (.lst (ts.map V.ref)):=by rw[AH (Ne.symm U)];exact O
  have lw:=F.length;have G:H t=none:=(s.trans m).EJ t p;have X:∀b,upd H D (.lst []) b=none->b≠D/\H b=none:=fun b h=>Bx h;refine⟨ts.map V.ref,d4,Nat.lt_of_le_of_lt (by rw[List.length_map];lia) (Am (Nat.le_refl 1000)),d,((s.trans m).new G).new d,ts++[t],ws++[w],us++[u],by rw[AB,List.map_append];rfl,by simp[lt],by simp[E],fun j q Y a f=>?_,AQ.snoc (F.up (Bs (fun b h=>h) fun b e a f=>?_)) (vw.up (Bs (fun b h=>?_) fun b e a f=>?_)),fr _ _ _ _ _ ((s.trans m).new G) d (fr _ _ _ _ _ (s.trans m) G N)⟩
  ·by_cases hj:j<ts.length
   ·rw[List.getElem?_append_left hj]at a;rw[List.getElem?_append_left (by lia)]at f;obtain⟨g1,Z⟩:=M j q Y a f;have A:=m.keep q _ (fun z=>hl q z Z) g1;have n1:q≠t:=fun z=>by rw[z,p]at A;cases A
    have n2:q≠D:=fun z=>by rw[z,O]at A;cases A
    exact⟨by rw[AH n2,AH n1];exact A,Z⟩
   ·have P:=(rX a).1;rw[List.length_append,List.length_singleton]at P;have ej:j=i:=by lia
    subst ej;rw[List.getElem?_append_right (by lia),lt,Nat.sub_self]at a;have e1:t=q:=by simpa using a
    subst e1;rw[List.getElem?_append_right (by lia),show j-ws.length=0 by lia]at f;have e2:w=Y:=by simpa using f
    subst e2;exact⟨by rw[AH U,AB],G⟩
  ·have B:=(X b a).1;have hb:=(X b a).2;have S:=m.keep b e (fun z=>hl b z hb) f;have T:b≠t:=fun z=>by rw[z,p]at S;cases S
   rw[AH B,AH T];exact S
  ·have B:b≠D:=fun z=>by rw[z,x]at h;cases h
   rw[AH B];exact s.EJ b h
  ·have B:b≠D:=fun z=>by rw[z,x]at a;cases a
   have T:b≠t:=fun z=>by rw[z,p]at f;cases f
   rw[AH B,AH T];exact f
 ·exact hQ D H2 ts ws us d s x lt E M (F.up (Bs (fun b h=>(Bx h).2) fun b e _ h=>h)) g
end
mutual
def Pt.nice:Pt->Prop
 | .int _| .str _| .bl _| .Ai=>True
 | .lst xs| .tup xs=>xs.length<=900/\Pt.Cu xs
 | .BI ks xs=>ks.length=xs.length/\ks.Nodup/\ks.length<=900/\Pt.Cu xs
def Pt.Cu:List Pt->Prop
 |[]=>True
 |x::r=>Pt.nice x/\Pt.Cu r
end
theorem Pt.Em:∀{xs:List Pt},Pt.Cu xs->∀x∈xs,x.nice
 |y::r,h,x,a=>by
  simp only[Pt.Cu]at h;rcases List.mem_cons.mp a with rfl|a
  ·exact h.1
  ·exact Pt.Em h.2 x a
theorem Pt.Np:∀{xs:List Pt},(∀x∈xs,x.nice)->Pt.Cu xs
 |[],_=>trivial
 |x::r,h=>⟨h x List.mem_cons_self,Pt.Np fun y a=>h y (List.mem_cons_of_mem _ a)⟩
mutual
theorem Pt.JW:∀t:Pt,t.doc->t.size<=900->t.nice
 | .int _=>fun _ _=>trivial
 | .str _=>fun _ _=>trivial
 | .bl _=>fun d _=>by simp[Pt.doc]at d
 | .Ai=>fun d _=>by simp[Pt.doc]at d
 | .tup _=>fun d _=>by simp[Pt.doc]at d
 | .lst xs=>fun d z=>by
  simp only[Pt.doc]at d;simp only[Pt.size]at z;have:=Pt.CL xs;simp only[Pt.nice];exact⟨by lia,Pt.Gv xs d (by lia)⟩
 | .BI a xs=>fun d z=>by
  simp only[Pt.doc]at d;simp only[Pt.size]at z;simp only[Pt.nice];exact⟨d.1,d.2.1,by lia,Pt.Gv xs d.2.2.2.2 (by lia)⟩
theorem Pt.Gv:∀xs:List Pt,Pt.Bl xs->Pt.AI xs<=900->Pt.Cu xs
 |[]=>fun _ _=>trivial
 |x::r=>fun d z=>by
  simp only[Pt.Bl]at d;simp only[Pt.AI]at z;exact⟨Pt.JW x d.1 (by lia),Pt.Gv r d.2 (by lia)⟩
end
def IP(ks:List Str)(ws:List V):List (Key×V):=(ks.zip ws).map fun p=>(Sum.inr p.1,p.2)
theorem Dl(l:ks.length=ws.length):(IP ks ws).map (·.1)=ks.map Sum.inr:=by
 unfold IP;rw[List.map_map];have:(ks.zip ws).map Prod.fst=ks:=List.map_fst_zip (by lia)
 conv=>rhs;rw[<-this,List.map_map]
 rfl
theorem F'(l:ks.length=ws.length):(IP ks ws).map (·.2)=ws:=by
 unfold IP;rw[List.map_map];have:(ks.zip ws).map Prod.snd=ws:=List.map_snd_zip (by lia)
 conv=>rhs;rw[<-this]
 rfl
theorem ML(l:ks.length=ws.length):(IP ks ws).length=ks.length:=by
 have:=congrArg List.length (Dl l);simpa using this
theorem WW{j:Nat}{k:Key}(h:(IP ks ws)[j]?=some (k,v)):∃a,ks[j]?=some a/\ws[j]?=some v/\k=Sum.inr a:=by
 unfold IP at h;rw[List.getElem?_map]at h;cases e:(ks.zip ws)[j]? with
 |none=>rw[e]at h;cases h
 |some p=>
  obtain⟨x,y⟩:=p;rw[e]at h;have h:=rY h;rw[List.getElem?_zip_eq_some]at e;have b:(Sum.inr x:Key)=k:=congrArg Prod.fst h;have c:y=v:=congrArg Prod.snd h;subst b c;exact⟨x,e.1,e.2,rfl⟩
theorem Kt(l:ks.length=ws.length)(nd:ks.Nodup):CC [] (IP ks ws)=IP ks ws:=Dy _ _ (by
 have:((IP ks ws).map (·.1)).Nodup:=by
  rw[Dl l];exact List.Pairwise.map _ (fun a b h z=>h (Sum.inr.inj z)) nd
 simpa using this)
theorem Gw{kvs:List (Key×V)}(c:kvs.map (·.1)=ks.map Sum.inr){k:Key}(e:kvs[i]?=some (k,v)):i<ks.length/\k=Sum.inr (ks.getD i ""):=by
 have d:kvs.length=ks.length:=by have:=congrArg List.length c;simpa using this
 have a:=(rX e).1;rw[d]at a;refine⟨a,?_⟩;have b:=congrArg (fun z=>z[i]?) c;simp only[List.getElem?_map,e,rW a]at b;have b:k=Sum.inr ks[i]:=by simpa using b
 rw[b,List.getD_eq_getElem?_getD,rW a];rfl
theorem JX{H:Hp}:∀{kvs:List (Key×V)}{ks:List Str}{ts:List Pt},kvs.map (·.1)=ks.map Sum.inr->AQ H (kvs.map (·.2)) ts->ks.Nodup->∀{i:Nat},i<ks.length->∃v t,Av kvs (Sum.inr (ks.getD i ""))=some v/\ts[i]?=some t/\Val H v t
 |[],[],_,_,_,_,i,h=>by simp at h
 |[],_::_,_,h,_,_,_,_=>by simp at h
 |_::_,[],_,h,_,_,_,_=>by simp at h
 |(y,v)::kvs,x::ks,_,h,.cons b r,nd,0,c=>by
  simp only[List.map_cons,List.cons.injEq]at h;obtain⟨e,h⟩:=h;subst e;exact⟨v,_,BZ rfl,by simp,b⟩
 |(y,v)::kvs,x::ks,_,h,.cons b r,nd,i+1,c=>by
  simp only[List.map_cons,List.cons.injEq]at h;obtain⟨e,h⟩:=h;subst e;obtain⟨d,f⟩:=List.nodup_cons.mp nd;have a:i<ks.length:=by simpa using c
  obtain⟨w,t,g,j,k⟩:=JX h r f a;have l:(x::ks).getD (i+1) ""=ks.getD i "":=by simp
  rw[l];refine⟨w,t,?_,by simpa using j,k⟩;rw[BS (fun z=>d ?_)]
  ·exact g
  ·have z:=Sum.inr.inj z;rw[z,List.getD_eq_getElem?_getD,rW a];exact List.getElem_mem a
mutual
noncomputable def Pt.wide:Pt->Nat
 | .int _| .str _| .bl _| .Ai=>0
 | .lst xs| .tup xs=>Pt.UT xs
 | .BI ks xs=>max ks.length (Pt.UT xs)
noncomputable def Pt.UT:List Pt->Nat
 |[]=>0
 |x::r=>max (Pt.wide x) (Pt.UT r)
end
structure Vc(H:Hp)(n:Addr)(ys:List Str):Prop where
 at_:H n=some (.lst (ys.map V.str))
 len:ys.length=4
 nd:ys.Nodup
 nb:∀y∈ys,EE y=true
theorem Vc.up{a:Hp}{n:Addr}{ys:List Str}(h:Vc H n ys)(s:AG H a):Vc a n ys:=⟨s _ _ h.at_,h.len,h.nd,h.nb⟩
theorem Vc.but{a:Hp}{n:Addr}{ys:List Str}(h:Vc H n ys)(s:Bt (some l) H a)(nl:n≠l):Vc a n ys:=⟨s.keep _ _ (fun z=>nl (rY z).symm) h.at_,h.len,h.nd,h.nb⟩
def Nq:Sp:=fun b H Q _=>∃c:Int,b=[.int c]/\∀(p:Addr)(d:List Str)(a:Hp),AG H a->H p=none->Vc a p d->Q (.ref p) a
structure Small(H H':Hp)(v:V)(t:Pt):Prop where
 val:Val (nw H H') v t
 sm:Sm t
 doc:t.doc
 size:t.size<=4
 deep:t.deep<=2
 txt:t.txt
def MM:Sp:=fun b H Q _=>∃(c:Int)(k:Nat)(n:Addr)(d:List Str),b=[.int c,.int (k:Int),.ref n]/\k<=1000/\Vc H n d/\∀(v:V)(t:Pt)(a:Hp),AG H a->Small H a v t->Q v a
def IQ(n:Nat):Sp:=fun b H Q _=>∃(v:V)(t:Pt),b=[v]/\Val H v t/\t.nice/\t.deep<=n/\∀(w:V)(a:Hp),AG H a->Val (nw H a) w t->Q w a
def MN(n:Nat):Sp:=fun g H Q _=>∃(l:Addr)(d:Nat)(f:Addr)(c:List Int)(h:List Str),g=[.ref l,.int (d:Int),.ref f]/\d+4<=n/\H l=some (.lst (c.map V.int))/\c.length<=100/\f≠l/\Vc H f h/\
 ∀(v:V)(a:Ak)(b:List Int)(e:Hp),Bt (some l) H e->e l=some (.lst (b.map V.int))->b.length<=c.length->Val (nw H e) v a.pt->a.ok->a.size<=1+4*(c.length-b.length)->a.deep<=d+1->a.Mp->Q v e
def ov(G H a:Hp):Hp:=fun b=>match G b with
 |some o=>some o
 |none=>nw H a b
end
section
variable{K:rg} [Bb K]
theorem Xg{a:List (Key×V)}{b:List Str}(c:a.map (·.1)=b.map Sum.inr)(k:Str):(Av a (Sum.inr k)).isSome=decide (k∈b):=by
 rw[Bool.eq_iff_iff,decide_eq_true_iff];have d:(Sum.inr k:Key)∈a.map (·.1)↔k∈b:=by
  rw[c];constructor
  ·intro h;obtain⟨y,f,e⟩:=List.mem_map.mp h;rw[<-Sum.inr.inj e];exact f
  ·exact fun h=>List.mem_map_of_mem h
 rw[<-d];cases e:Av a (Sum.inr k:Key)with
 |none=>simp only[Option.isSome_none];exact⟨(fun h=>nomatch h),fun h=>absurd h (Tc e)⟩
 |some z=>simp only[Option.isSome_some];exact⟨fun _=>QO e,fun _=>trivial⟩
theorem Ku(a:List Str)(p:Str->Bool):((List.range a.length).filter fun i=>p (a.getD i "")).map (fun i=>V.str (a.getD i ""))=(a.filter p).map V.str:=by
 induction a with
 |nil=>rfl
 |cons x r b=>
  rw[List.length_cons,List.range_succ_eq_map,List.filter_cons,List.filter_cons,List.filter_map,List.getD_cons_zero];have e:((fun i=>p ((x::r).getD i ""))∘Nat.succ)=fun i=>p (r.getD i ""):=by funext i;simp
  have c:((fun i=>V.str ((x::r).getD i ""))∘Nat.succ)=fun i=>V.str (r.getD i ""):=by funext i;simp
  cases p x with
  |true=>simp only[if_true,List.map_cons,List.map_map];rw[e,c,b];rfl
  |false=>simp only[Bool.false_eq_true,if_false,List.map_map];rw[e,c,b]
theorem QV{b:Type}{ps:List b}{f:b->Bool}:∀{vs:List V},vs.length=ps.length->(∀(i:Nat) v,vs[i]?=some v->∃p,ps[i]?=some p/\v=.bl (f p))->vs=(ps.map f).map V.bl:=by
 intro vs l h;refine List.ext_getElem (by simp[l]) fun i c g=>?_;obtain⟨p,a,d⟩:=h i _ (rW c);have e:i<ps.length:=by lia
 rw[rW e]at a;have a:=rY a;rw[d,<-a];simp
theorem Kv(p:Str->Bool):∀l:List Str,l.length=(l.filter fun x=> !p x).length+(l.filter p).length
 |[]=>rfl
 |x::r=>by
  have:=Kv p r;cases h:p x<;>simp[List.filter_cons,h]<;>lia
theorem cntK{a:List Str}(nk:ks.Nodup)(b:a.Nodup):a.length=(a.filter fun n=> !decide (n∈ks)).length+(ks.filter fun k=>decide (k∈a)).length:=by
 have c:(a.filter fun n=>decide (n∈ks)).Perm (ks.filter fun k=>decide (k∈a)):=by
  refine(List.perm_ext_iff_of_nodup (b.sublist List.filter_sublist) (nk.sublist List.filter_sublist)).mpr fun x=>?_;simp only[List.mem_filter,decide_eq_true_eq];exact And.comm
 have:=Kv (fun n=>decide (n∈ks)) a;have e:=c.length_eq;lia
theorem Nr{a:List Str}:ks.all (fun k=>decide (k∈a))=decide ((ks.filter fun k=>decide (k∈a)).length=ks.length):=by
 rw[Bool.eq_iff_iff,decide_eq_true_iff,List.length_filter_eq_length_iff,List.all_eq_true]
theorem UU{b ls:List Str}(m:Bool)(nk:ks.Nodup)(j:b.Nodup)(dj:∀l∈ls,l∉ks): (ks.all (fun k=>decide (k∈b))&& !(ls.any fun k=>decide (k∈b))&&Ak.cnt b.length ks.length m)= (!(decide (((b.length:Nat):Int)-(((b.filter fun n=> !decide (n∈ks)).length:Nat):Int)<((ks.length:Nat):Int)))&&(m||(b.filter fun n=> !decide (n∈ks)).isEmpty)&&((b.filter fun n=> !decide (n∈ks)).filter fun n=>decide (n∈ls)).isEmpty):=by
 have c:=cntK nk j;have s:(ks.filter fun k=>decide (k∈b)).length<=ks.length:=List.length_filter_le _ _;rw[Nr];by_cases h:(ks.filter fun k=>decide (k∈b)).length=ks.length
 ·have f:¬((b.length:Nat):Int)-(((b.filter fun n=> !decide (n∈ks)).length:Nat):Int)<((ks.length:Nat):Int):=by lia
  rw[decide_eq_true h,decide_eq_false f,Bool.true_and,Bool.not_false,Bool.true_and];have o:Ak.cnt b.length ks.length m=(m||(b.filter fun n=> !decide (n∈ks)).isEmpty):=by
   cases i:(b.filter fun n=> !decide (n∈ks))with
   |nil=>
    rw[i,List.length_nil]at c;have:b.length=ks.length:=by lia
    simp[Ak.cnt,this]
   |cons a r=>
    rw[i,List.length_cons]at c;have:ks.length<b.length:=by lia
    have e:(b.length==ks.length)=false:=by simp;lia
    simp[Ak.cnt,this,e]
  have p:(!(ls.any fun k=>decide (k∈b)))=((b.filter fun n=> !decide (n∈ks)).filter fun n=>decide (n∈ls)).isEmpty:=by
   rw[Bool.eq_iff_iff,List.isEmpty_iff,List.filter_eq_nil_iff,Bool.not_eq_true',<-Bool.not_eq_true,List.any_eq_true];constructor
   ·intro h a q d;exact h ⟨a,of_decide_eq_true d,decide_eq_true (List.mem_filter.mp q).1⟩
   ·intro h ⟨l,d,g⟩;have g:=of_decide_eq_true g;exact h l (List.mem_filter.mpr ⟨g,by simpa using dj l d⟩) (decide_eq_true d)
  rw[o,p,Bool.and_comm]
 ·have f:((b.length:Nat):Int)-(((b.filter fun n=> !decide (n∈ks)).length:Nat):Int)<((ks.length:Nat):Int):=by lia
  rw[decide_eq_false h,decide_eq_true f];simp
end
section
variable{X:Cx}
theorem MO:∀{us:List Value},Vals (ss.map V.str) us->StrsAre us ss:=by
 induction ss with
 |nil=>intro us h;cases h;exact .nil
 |cons x r a=>
  intro us h;cases h with
  |cons b c=>
   obtain⟨t,rfl⟩:=b;exact .cons x t (a c)
inductive UW(K:rg)(xs:List V)(H:Hp)(Q:VK):Prop
 |mk(d:Addr)(ss:List Str)(c:xs=[.ref d])(e:Aq K H d (ss.map V.str))(f:ss.length<64)(g:∀(p:Addr) (a:List Str) (b:Hp),H p=none->AG H b->b p=some (.lst (a.map V.str))->a.Perm ss->sortedS a=true->Q (.ref p) b)
theorem MP(T:X.calm=true):BE X (.builtin "sorted") (UW X.K):=by
 intro pins s U H W Y Q I r h;obtain⟨d,y,rfl,J,n,q⟩:=h;obtain⟨u,rfl,L⟩:=vals1 r;cases L;obtain⟨a,z,M,l⟩:=I.list J;obtain⟨Z,p,j,hn,k⟩:=id M.isList;have A:a.length=y.length:=by rw[<-z.length,List.length_map]
 have l:a.length<=sizeLine:=Nat.le_of_lt (Am (by lia));have t:StrsAre a y:=MO z;refine Calls.call_function_entry kind_sorted plain_sorted entry_sorted (args_sorted1 _) ?_;unfold Builtin.«sorted»;refine wpAny_bind (m:=checkCount "sorted" 1 1 _) (wpAny_pure (wpAny_bind (wpAny_collect_seq d (.inl rfl) p j k (fun c keep=>?_) (by rw[List.size_toArray];exact l))));rw[List.toList_toArray];refine wpAny_bind (wpAny_newList ?_ l);have f:(c.push {cls:=.type "list",data:=.seq a.toArray}).get? c.objs.size=some (seqObj "list" a.toArray 0):=Heap.get?_push_size _ rfl;refine wpAny_bind (wpAny_holding (wpAny_call_entry slot_list_sort ⟨_,f,rfl⟩ entry_list_sort (list_sort_treeK strKind_oneLt f t.keysOf (fun B C rest e=>keyKind_strs (by rw[<-e];exact t)) (by rw[A];exact n) fun g a1 a2=>⟨_,rfl,?_⟩) (args_list_sort _)));obtain⟨i,N,D,O⟩:=sorted_out_str t a1 a2;obtain⟨P,R⟩:=sortedHeap_at (out:=(arrOf g).map (·.2)) f;refine wpAny_pure ⟨_,rfl,?_⟩;have v:(c.push {cls:=.type "list",data:=.seq a.toArray}).objs.size=c.objs.size+1:=size_push' ..;have E:=I.kept (t':=s.toks) keep;have S:∀b o,c.get? b=some o->(sortedHeap (c.push {cls:=.type "list",data:=.seq a.toArray}) c.objs.size a ((arrOf g).map (·.2))).get? b=some o:=fun b o e=>by
  have F:b<c.objs.size:=Heap.lt_size e;rw[sortedHeap_old (Nat.ne_of_lt F) (by rw[v];exact Nat.lt_succ_of_lt F)];exact Heap.get?_push_of_some _ e
 have x:i.length<=sizeLine:=by
  rw[D.length_eq,<-A];exact l
 have new:Aj X.prog X.w (upd H c.objs.size (.lst (i.map V.str))) (sortedHeap (c.push {cls:=.type "list",data:=.seq a.toArray}) c.objs.size a ((arrOf g).map (·.2))) c.objs.size (.lst (i.map V.str)):=
  ⟨by rw[List.length_map];exact x,((arrOf g).map (·.2)).toList,P,Ko N,by rw[Array.toArray_toList];exact R⟩
 have G:H c.objs.size=none:=E.fresh;exact⟨.ref c.objs.size,_,E.laid (t':=s.toks) S (Nat.le_refl _) new,rfl,q _ i _ G (AG.new G) AB D O⟩
end
section
variable{K:rg} [Bb K]
namespace Ak
theorem EA(a b:List Ak):Gd (a++b)=Gd a++Gd b:=by simp[BG]
theorem A_(a b:List Ak):AI (a++b)=AI a+AI b:=by
 induction a with
 |nil=>simp[AI]
 |cons x r c=>simp only[List.cons_append,AI,c];lia
theorem Cy(a b:List Ak):AS (a++b)=max (AS a) (AS b):=by
 induction a with
 |nil=>simp[AS]
 |cons x r c=>simp only[List.cons_append,AS,c];lia
theorem EB{a b:List Ak}(h:Hv a)(g:Hv b):Hv (a++b):=US fun x c=>(List.mem_append.mp c).elim (MH h x) (MH g x)
theorem En(a:Ak):AI [a]=a.size:=by simp[AI]
theorem Eo(a:Ak):AS [a]=a.deep:=by simp[AS]
theorem IS{a:Ak}(h:a.ok):Hv [a]:=⟨h,trivial⟩
end Ak
theorem Pg(l:ks.length=ws.length)(y:Str)(v:V):IP (ks++[y]) (ws++[v])=IP ks ws++[(Sum.inr y,v)]:=by
 unfold IP;rw[List.zip_append l,List.map_append];rfl
theorem WX(l:ks.length=ws.length)(h:y∉ks)(v:V):putK (IP ks ws) (Sum.inr y) v=IP (ks++[y]) (ws++[v]):=by
 rw[Pg l,NH];have:=Xg (Dl l) y;rw[decide_eq_false h]at this;cases e:Av (IP ks ws) (Sum.inr y:Key)with
 |none=>rfl
 |some z=>rw[e]at this;cases this
structure Ex(H H4:Hp)(l p6 p7:Addr)(ys:List Str)(d N:Nat)(i:Nat)(Hi:Hp)(ks:List Str)(as:List Ak)(ls:List Str)(QW:List Int)(ws:List V):Prop where
 n6:H p6=none
 n7:H p7=none
 o6:H4 p6≠none
 o7:H4 p7≠none
 ne:p6≠p7
 hl:H l≠none
 h4:∀b,H4 b=none->H b=none
 bt:Bt (some l) H Hi
 dm:∀b,Hi b=none->H4 b=none
 e6:Hi p6=some (.dK (IP ks ws))
 e7:Hi p7=some (.lst (ls.map V.str))
 el:Hi l=some (.lst (QW.map V.int))
 le:QW.length<=N
 lw:ks.length=ws.length
 la:ks.length=as.length
 vl:AQ (nw H4 Hi) ws (Ak.Gd as)
 ok:Ak.Hv as
 fw:Ak.KS as
 lm:ks.length+ls.length<=i
 sz:Ak.AI as<=i+4*(N-QW.length)
 dp:Ak.AS as<=d
 ik:∀k∈ks,∃j,j<i/\ys[j]?=some k
 il:∀k∈ls,∃j,j<i/\ys[j]?=some k
 nk:ks.Nodup
 dj:∀x∈ls,x∉ks
 l4:ks.length<=i
 m4:ls.length<=i
 nl:ls.Nodup
section
variable{H H4:Hp} {l p6 p7:Addr} {ys:List Str} {d N:Nat} {i:Nat} {Hi:Hp} {ks:List Str} {as:List Ak} {ls:List Str} {QW:List Int} {ws:List V}
theorem Ex.up{a:Hp}(t:Ex H H4 l p6 p7 ys d N i Hi ks as ls QW ws)(s:AG Hi a):Ex H H4 l p6 p7 ys d N i a ks as ls QW ws:=
 {t with bt:=t.bt.trans (.of s),dm:=fun b h=>t.dm b (s.free h),e6:=s _ _ t.e6,e7:=s _ _ t.e7,el:=s _ _ t.el,vl:=t.vl.up (Bs (fun b h=>h) fun b e _ h=>s _ _ h)}
theorem Ex.weak(t:Ex H H4 l p6 p7 ys d N i Hi ks as ls QW ws):Ex H H4 l p6 p7 ys d N (i+1) Hi ks as ls QW ws:=
 {t with sz:=by have:=t.sz;lia,lm:=by have:=t.lm;lia,ik:=fun k a=>let⟨j,c,b⟩:=t.ik k a;⟨j,by lia,b⟩,il:=fun k a=>let⟨j,c,b⟩:=t.il k a;⟨j,by lia,b⟩,l4:=by have:=t.l4;lia,m4:=by have:=t.m4;lia}
theorem Ex.fresh(t:Ex H H4 l p6 p7 ys d N i Hi ks as ls QW ws)(c:ys[i]?=some y)(nd:ys.Nodup):y∉ks/\y∉ls:=by
 have e:=(rX c).1;have inj:∀j,j<i->ys[j]?=some y->False:=fun j b a=>by
  rw[<-c]at a;have:=(List.getElem?_inj (by lia) nd).mp a;lia
 exact⟨fun h=>let⟨j,b,a⟩:=t.ik y h;inj j b a,fun h=>let⟨j,b,a⟩:=t.il y h;inj j b a⟩
theorem Ex.e_(t:Ex H H4 l p6 p7 ys d N i Hi ks as ls QW ws)(c:ys[i]?=some y)(nd:ys.Nodup):Ex H H4 l p6 p7 ys d N (i+1) (upd Hi p7 (.lst (ls.map V.str++[.str y]))) ks as (ls++[y]) QW ws:=by
 have f:=t.fresh c nd;have l7:l≠p7:=fun z=>t.hl (by rw[z];exact t.n7);exact{t.weak with
  bt:=t.bt.new t.n7
  dm:=fun b h=>t.dm b (Bx h).2
  e6:=by rw[AH t.ne];exact t.e6
  e7:=by rw[AB,List.map_append];rfl
  el:=by rw[AH l7];exact t.el
  vl:=t.vl.up (Bs (fun b h=>h) fun b e g j=>by rw[AH (fun z=>t.o7 (by rw[<-z];exact g))];exact j)
  il:=fun k m=>(List.mem_append.mp m).elim (fun h=>t.weak.il k h) fun h=>⟨i,by lia,by rw[List.mem_singleton.mp h];exact c⟩
  dj:=fun x n=>(List.mem_append.mp n).elim (fun h=>t.dj x h) fun h=>by rw[List.mem_singleton.mp h];exact f.1
  m4:=by have:=t.m4;simp;lia
  lm:=by have:=t.lm;simp;lia
  nl:=List.nodup_append.mpr ⟨t.nl,by simp,fun a o b p z=>f.2 (by rw[<-List.mem_singleton.mp p,<-z];exact o)⟩}
theorem Ex.asked{g:Hp}{a:Ak}{c:List Int}(t:Ex H H4 l p6 p7 ys d N i Hi ks as ls QW ws)(p:ys[i]?=some y)(nd:ys.Nodup)(bt:Bt (some l) Hi g)(el:g l=some (.lst (c.map V.int)))(le:c.length<=QW.length)(r:Val (nw Hi g) v a.pt)(ok:a.ok)(sz:a.size<=1+4*(QW.length-c.length))(dp:a.deep<=d)(fw:a.Mp):
  g p6=some (.dK (IP ks ws))/\putK (IP ks ws) (Sum.inr y) v=IP (ks++[y]) (ws++[v])/\Ex H H4 l p6 p7 ys d N (i+1) (upd g p6 (.dK (IP (ks++[y]) (ws++[v])))) (ks++[y]) (as++[a]) ls c (ws++[v]):=by
 have f:=t.fresh p nd;have l6:l≠p6:=fun z=>t.hl (by rw[z];exact t.n6);have l7:l≠p7:=fun z=>t.hl (by rw[z];exact t.n7);have e6:=bt.keep _ _ (fun z=>l6 (rY z)) t.e6;have e7:=bt.keep _ _ (fun z=>l7 (rY z)) t.e7;refine⟨e6,WX t.lw f.1 v,{t.weak with
  bt:=(t.bt.trans bt).new t.n6
  dm:=fun b h=>t.dm b (bt.EJ b (Bx h).2)
  e6:=AB
  e7:=by rw[AH (Ne.symm t.ne)];exact e7
  el:=by rw[AH l6];exact el
  le:=Nat.le_trans le t.le
  lw:=by have:=t.lw;simp[this]
  la:=by have:=t.la;simp[this]
  vl:=?_
  ok:=Ak.EB t.ok (Ak.IS ok)
  fw:=Ak.DM t.fw ⟨fw,trivial⟩
  lm:=by have:=t.lm;simp;lia
  sz:=by
   rw[Ak.A_,Ak.En];have:=t.sz;have:=t.le;lia
  dp:=by rw[Ak.Cy,Ak.Eo];have:=t.dp;lia
  ik:=fun k s=>(List.mem_append.mp s).elim (fun h=>t.weak.ik k h) fun h=>⟨i,by lia,by rw[List.mem_singleton.mp h];exact p⟩
  nk:=by
   rw[List.nodup_append];refine⟨t.nk,by simp,fun a q b j z=>?_⟩;rw[List.mem_singleton.mp j]at z;rw[z]at q;exact f.1 q
  dj:=fun x n h=>(List.mem_append.mp h).elim (fun h=>t.dj x n h) fun h=>by
   rw[List.mem_singleton.mp h]at n;exact f.2 n
  l4:=by have:=t.l4;simp;lia}⟩
 rw[Ak.EA];refine(t.vl.up (Bs (fun b h=>h) fun b e m o=>?_)).snoc (r.up (Bs (fun b h=>t.dm b h) fun b e m o=>?_))
 ·have j:b≠p6:=fun z=>t.o6 (by rw[<-z];exact m);rw[AH j];exact bt.keep b e (fun z=>t.hl (by rw[rY z];exact t.h4 b m)) o
 ·have j:b≠p6:=fun z=>by rw[z,t.e6]at m;cases m
  rw[AH j];exact o
end
end
section
variable{K:rg} [Bb K]
section
variable{X:Cx}
inductive bC(x y:V)(H:Hp)(Q:VK):Prop
 |mk(l b:Addr)(xs a:List V)(c:x=.ref l)(d:y=.ref b)(e:Rd H l (.lst xs))(f:Rd H b (.lst a))(g:xs.length+a.length<=sizeLine)(h:∀p,H p=none->Q (.ref p) (upd H p (.lst (xs++a))))
theorem QX:ET X (binaryOp .Add) bC:=by
 intro pins s p H x y v u Q I f g h;obtain⟨l,b,t,w,rfl,rfl,i,j,A,q⟩:=h;cases f;cases g;obtain⟨z,c,n,r,e⟩:=i.ok I.Ap;obtain⟨z2,a,B,d,k⟩:=j.ok I.Ap;have C:=r.length;have m:=d.length;refine PySem.P.add_list e k ?_ (by rw[List.size_toArray,List.size_toArray];lia);have o:c.toArray++a.toArray=(c++a).toArray:=by simp
 rw[o];exact⟨.ref _,_,I.Vz (t':=s.toks) (r.append d) (by rw[List.length_append];lia),rfl,q _ I.fresh⟩
end
end
section
variable{K:rg} [Bb K]
theorem Bt.over{a:Hp}{D:Addr}(s:AG a c)(d:a D=none)(bt:Bt (some D) c H2):AG a H2:=fun b o e=>bt.keep b o (fun z=>by rw[<-rY z,d]at e;cases e) (s _ _ e)
theorem ints_of:∀{vs:List V},(∀(i:Nat) v,vs[i]?=some v->∃z:Int,v=.int z)->∃a:List Int,vs=a.map V.int
 |[],_=>⟨[],rfl⟩
 |v::r,h=>by
  obtain⟨z,rfl⟩:=h 0 v rfl;obtain⟨a,rfl⟩:=ints_of (vs:=r) fun i v b=>h (i+1) v (by simpa using b);exact⟨z::a,rfl⟩
end
end L2
namespace PySem
open PyProof.Rows PySem.F PySem.Spec
theorem KU:typeLookup (.type "zip") "keys"=pure none:=by rw[typeLookup_type,builtinLookup_eq_fast];kernel_rfl
theorem Gx:typeLookup (.type "zip") "__getattr__"=pure none:=by rw[typeLookup_type,builtinLookup_eq_fast];kernel_rfl
theorem EC:entryFor table "zip.__getattribute__"=some Builtin.«object.__getattribute__»:=
 entryFor_alias (id':="object.__getattribute__") (by kernel_rfl) (by decide+kernel) (by decide+kernel) (by kernel_rfl)
theorem UX(a:Addr)(fs:Array Value)(name:Str)(u:Tok)(e:typeLookup (.type "zip") name=pure none)(b:(["__module__","__name__","__qualname__","__doc__","__annotations__"]:List Str).contains name=false)(hsz:name.length+100<=sizeLine:=by size_fits):
  Meets (Builtin.«object.__getattribute__» ⟨[.ref a,.str name u],[]⟩) (fun A R s=>s.heap.get? a=some {cls:=.type "zip",dict:=none,data:=.fields fs,slots:= #[]}/\raisesAttr (.ref a) name A R s):=
 Meets.of_wp fun prog w A R s c=>by
  obtain⟨f,g,d,h,os⟩:=s;obtain⟨i,c⟩:=c;have j:(⟨f,g,d,h,os⟩:Shared).TypeIs (.ref a) "zip":=⟨_,i,rfl⟩;unfold Builtin.«object.__getattribute__»
  repeat (any_goals (first|assumption|wp_step))
  simp only[b,Bool.false_eq_true,if_false]
  repeat (any_goals (first|assumption|wp_step))
  exact wpAny_raiseAttrError c.1 c.2 (attrMsg_fits (by decide+kernel) hsz)
theorem KW{prog:Program}{w:World}{A:Around}{E:Value->Shared->Prop}{s:Shared}{a:Addr}{fs:Array Value}{Q:Option Value->Shared->Prop}(i:s.heap.get? a=some {cls:=.type "zip",dict:=none,data:=.fields fs,slots:= #[]})(l:A.handled=none)(h:∀f j e,Heap.NewExcOf s.heap f e "AttributeError"->Q none {s with heap:=f,toks:=j}):
  wpAny (model prog w) A (getAttr? (.ref a) "keys") Q E s:=by
 obtain⟨m,g,d,j,os⟩:=s;have k:∀b,(⟨m,g,d,b,os⟩:Shared).TypeIs (.ref a) "zip":=fun _=>⟨_,i,rfl⟩;have n:=sub_AttributeError;have o:=F.slot_zip_getattribute.lookup;have p:=F.slot_zip_getattribute.bind (.ref a);have q:=Gx;unfold getAttr? getAttrBy? getAttrBy
 repeat (any_goals (first|assumption|exact k _|((with_reducible show wpAny _ _ (call (Value.builtin "zip.__getattribute__") _ _) _ _ _);refine call_meets F.slot_zip_getattribute (k _) EC (F.args_zip_getattribute_2 _ _) (UX a fs "keys" _ KU (by decide+kernel)) ⟨i,l,fun f b e c=>?_⟩)|wp_step))
 obtain⟨r,t,u⟩:=c.there;show wpAny _ _ (getattributeRaised _ _ _ _ _ _ _) _ _ _;unfold getattributeRaised
 repeat (any_goals (first|assumption|wp_step))
 exact h _ _ _ c.of
end PySem
namespace L2
open PySem PySem.Spec PyProof.Rows
section
variable{prog:Program} {w:World} {K:Type} [DecidableEq K] {knd:KeyKind prog w K} {A:Around} {R:Result->Shared->Prop}
theorem Rr{d z TI TO t u l1 l2:Addr}{xs ys:Array Value}{more:List (K×Value)}(Q:A.handled=none)(D:ZipApart z TI TO t u l1 l2)(c:z≠d/\TI≠d/\TO≠d/\t≠d/\u≠d/\l1≠d/\l2≠d)(hl:xs.size=more.length)(hsz:more.length<=100000)(S:∀(j:Nat) l f,more[j]?=some (l,f)->∃a,xs[j]?=some a/\ys[j]?=some f/\knd.is l a=true):
  ∀(k i:Nat)(s:Shared),more.length-i=k->i<=more.length->Yv s.heap z TI TO t u l1 l2 d i xs ys->s.heap.DictOf knd d (merged [] (more.take i))-> (∀h' tk,h'.DictOf knd d (merged [] more)->(∀b o,b≠d->b≠z->b≠TO->b≠t->b≠u->s.heap.get? b=some o->h'.get? b=some o)->R (.ok (.ret .none)) {s with heap:=h',toks:=tk})->
   codeAny (model prog w) A (.builtin "dict.update.loop" ⟨[.ref d,.ref z,rawInt (i:Int),.none],[]⟩) R s:=by
 intro k
 induction k with
 |zero=>
  intro i s T U st v y;have B:i=more.length:=by lia
  subst B;refine codeAny_builtin CH ?_;rw[Around.under_plainId BF _];show wpAny _ A.in1 (pyNext (.ref z)>>=_) _ _ s;refine wpAny_bind (UM (A:=A.in1) Q D st (by simp[<-hl]) fun h' kept=>?_);rw[List.take_length]at v;obtain⟨o,C,E,x,r⟩:=v;show wpAny _ A.in1 (Builtin.Dict.addKeywords d []>>=_) _ _ _;exact wpAny_bind (wpAny_pure (wpAny_pure (y h' s.toks ⟨o,C,E,kept _ _ c.1.symm c.2.2.1.symm c.2.2.2.1.symm c.2.2.2.2.1.symm x,r⟩ fun b o _ c1 c2 c3 c4 e=>kept b o c1 c2 c3 c4 e)))
 |succ k V=>
  intro i s T U st v y;have m:i<more.length:=by lia
  obtain⟨⟨l,f⟩,N⟩:∃p,more[i]?=some p:=⟨_,rW m⟩;obtain⟨a,W,X,g⟩:=S i l f N;obtain⟨o,C,E,x,r⟩:=id v;have F:d<s.heap.objs.size:=Heap.lt_size x;refine codeAny_builtin CH ?_;rw[Around.under_plainId BF _];show wpAny _ A.in1 (pyNext (.ref z)>>=_) _ _ s;refine wpAny_bind (UL (A:=A.in1) D st F W X fun h' G h O kept=>?_);have Y:({s with heap:=h'}:Shared).TypeIs (.ref s.heap.objs.size) "tuple":=⟨_,h,rfl⟩;have H:h'.DictOf knd d (merged [] (more.take i)):=⟨o,C,E,kept _ _ c.1.symm c.2.2.1.symm c.2.2.2.1.symm c.2.2.2.2.1.symm x,r⟩;have I:(merged [] (more.take i)).length<=sizeLine:=by
   have:=merged_length_le ([]:List (K×Value)) (more.take i);rw[List.length_take,List.length_nil]at this;have e:sizeLine=16777216:=sizeLine_eq;lia
  show wpAny _ A.in1 (holding [Value.ref s.heap.objs.size] _>>=_) _ _ _;refine wpAny_bind (wpAny_holding (wpAny_bind (wpAny_tryCatch ?_)));unfold Builtin.Dict.pairItems;refine wpAny_bind (wpAny_typeOf Y ?_);rw[if_pos (by decide)];unfold seqItems?;refine wpAny_bind ?_;refine wpAny_bind (wpAny_load h ?_);refine wpAny_pure (wpAny_pure ?_);show wpAny _ A.in1 (holding [a,f] (dictSet d a f)) _ _ _;refine wpAny_holding ?_;unfold dictSet
  try with_reducible refine wpAny_holding ?_
  refine wpAny_bind (knd.pyHash g ?_);refine wpAny_dictSetHashed_pairs (hsz:=I) g H fun h2 n q=>?_;have Z:stored (merged [] (more.take i)) l f=merged [] (more.take (i+1)):=(merged_take_succ [] more i (l,f) N).symm;rw[Z]at n;have ic:((i:Int)+1)=((i+1:Nat):Int):=by simp
  refine wpAny_pure ⟨plainId_quiet BF _,?_⟩;rw[ic];refine V (i+1) _ (by lia) m (G.keep (fun b o hb e=>by rw[q.2 b hb];exact e) c) n fun h3 J L M=>y h3 J L fun b o P c1 c2 c3 c4 e=>M b o P c1 c2 c3 c4 (by rw[q.2 b P];exact kept b o c1 c2 c3 c4 e)
end
section
variable{X:Cx} {pins:List (Addr×Obj)} {σ:St} {H:Hp} {s:Shared}
def Zn(ks:List Str)(ys:List V):List (Key×V):=(ks.zip ys).map fun p=>(Sum.inr p.1,p.2)
inductive fF(K:rg)(x y:V)(H:Hp)(Q:VK):Prop
 |mk(a b:Addr)(ks:List Str)(ys:List V)(c:x=.ref a)(d:y=.ref b)(e:Aq K H a (ks.map V.str))(f:Aq K H b ys)(hl:ks.length=ys.length)(g:ks.length<=1000)(q:∀p,H p=none->Q (.ref p) (upd H p (.dK (CC [] (Zn ks ys)))))
def lO(K:rg)(t1 t2:TE):TE:=fun σ H Q=>t1 σ H fun x a=>t2 σ a fun y b=>fF K x y b Q
def lP(K:rg)(Q:VK):List V->Hp->Prop
 |[x,y],H=>fF K x y H Q
 |_,_=>False
theorem Nt:∀{ks:List Str}{ys:List V}{its a:List Value},ks.length=ys.length->Vals (ks.map V.str) its->Vals ys a->∃more:List (Key×Value),KV (Zn ks ys) more/\more.length=ks.length/\∀(j:Nat) d f,more[j]?=some (d,f)->∃c,its[j]?=some c/\a[j]?=some f/\(AZ X.prog X.w).is d c=true
 |[],[],_,_,_,_,_=>⟨[],.nil,rfl,fun j d f e=>by simp at e⟩
 |[],_::_,_,_,h,_,_=>by simp at h
 |_::_,[],_,_,h,_,_=>by simp at h
 |k::ks,y::ys,_,_,h,.cons (b:=u) (l₂:=its) i r,.cons (b:=g) (l₂:=a) l m=>by
  obtain⟨more,n,o,p⟩:=Nt (by simpa using h) r m;refine⟨(Sum.inr k,g)::more,.cons ⟨rfl,l⟩ n,by simp[o],fun j d f e=>?_⟩;cases j with
  |zero=>
   have e:(Sum.inr k,g)=(d,f):=by simpa using e
   cases e;exact⟨u,rfl,rfl,E' (k:=Sum.inr k) i⟩
  |succ j=>
   obtain⟨c,c1,c2,c3⟩:=p j d f (by simpa using e);exact⟨c,by simpa using c1,by simpa using c2,c3⟩
theorem Nu{m k:Expr}{p T pos d:Pos}{t1 t2:TE}(hc:X.calm=true)(hg:Gl X "dict")(hm:X.mg "dict"=none)(Y:Gl X "zip")(Z:X.mg "zip"=none)(U:PE X m t1)(h2:PE X k t2)(hv:bootBuiltins "dict"=some (.type "dict"):=by decide+kernel)(fG:bootBuiltins "zip"=some (.type "zip"):=by decide+kernel)(he:starEach [.Call (.Name "zip" T) [m,k] [] d] X.env=(false,eval (.Call (.Name "zip" T) [m,k] [] d) X.env)::starEach [] X.env:=by rfl)(bD:(backTo pos (starEach [] X.env)).any (·.1)=false:=by rfl)(J:starEach [m,k] X.env=(false,eval m X.env)::starEach [k] X.env:=by rfl)(L:(backTo d (starEach [k] X.env)).any (·.1)=false:=by rfl)(lQ:starEach [k] X.env=(false,eval k X.env)::starEach [] X.env:=by rfl):
  PE X (.Call (.Name "dict" p) [.Call (.Name "zip" T) [m,k] [] d] [] pos) (lO X.K t1 t2):=by
 intro pins s σ H Q I h;refine wpAny_Call_Name_kw (EN I hg hm hv ?_ (by decide) (by decide));refine PyProof.Rows.callWith_type1 ?_ he bD;rw[he];show wpAny _ _ (spliced ((false,eval (.Call (.Name "zip" T) [m,k] [] d) X.env)::backTo pos (starEach [] X.env))) _ _ s;refine Calls.spliced_cons ?_;refine wpAny_Call_Name_kw (EN I Y Z fG ?_ (by decide) (by decide));refine PyProof.Rows.callWith_type1 (BH ((AA U (AA h2 Be lQ) J) d pins s σ H (lP X.K Q) I h) fun us f zq=>zq.elim fun vs H1 M r1 V=>?_) J L;obtain⟨x,y,rfl⟩:∃x y,vs=[x,y]:=by
  rcases vs with _|⟨x,_|⟨y,_|⟨z,r⟩⟩⟩
  ·exact V.elim
  ·exact V.elim
  ·exact⟨x,y,rfl⟩
  ·exact V.elim
 obtain⟨a,b,W,ys,rfl,rfl,ha,hb,hl,hz,q⟩:=(show fF X.K x y H1 Q from V);obtain⟨u,v,rfl,ru,rv⟩:=vals2 r1;cases ru;cases rv;obtain⟨its,r,pl,_⟩:=M.list ha;obtain⟨N,r',B,_⟩:=M.list hb;have C:a<f.heap.objs.size:=(let⟨_,e,_⟩:=pl.isList;Heap.lt_size e);have E:b<f.heap.objs.size:=(let⟨_,e,_⟩:=B.isList;Heap.lt_size e);have O:X.A.in1.handled=none:=I.ok.hd hc;refine call_zip_2 pl.isList B.isList fun c z1 z2 z3 z4 z5 z6 k5=>?_;refine Calls.spliced_nil ?_;obtain⟨more,m1,m2,m3⟩:=Nt (X:=X) hl r r';have D:=zipApart_new (n:=f.heap.objs.size) C E;refine callType_codes (Q₁:=fun P t=>P=.ref c.objs.size/\t={f with heap:=c.push {cls:=.type "dict",data:=.dict #[]}}) F.kt_called_dict (F.kt_typeCall_dict_1 _) F.entry_dict_init (kt_code_dict_new _ ⟨rfl,rfl⟩) ?_;rintro P t ⟨rfl,rfl⟩;have i:(c.push {cls:=.type "dict",data:=.dict #[]}).DictOf (AZ X.prog X.w) c.objs.size []:=Heap.DictOf.new c;refine⟨i.typeIs,F.args_dict_init_2 _ _,?_⟩;unfold Builtin.«dict.__init__»;refine wpAny_bind ?_;unfold Builtin.Dict.selfAndRest;refine wpAny_bind (wpAny_notOrdered_dict i.typeIs ?_);show wpAny _ _ (pure (c.objs.size,[Value.ref (f.heap.objs.size+4)])) _ _ _;refine wpAny_pure ?_;show wpAny _ _ (Builtin.Dict.updateFrom "dict.__init__" c.objs.size (.ref (f.heap.objs.size+4)) [] .none) _ _ _;unfold Builtin.Dict.updateFrom;have up:∀b o,c.get? b=some o->(c.push {cls:=.type "dict",data:=.dict #[]}).get? b=some o:=fun b o e=>Heap.get?_push_of_some _ e;have lR:({f with heap:=c.push {cls:=.type "dict",data:=.dict #[]}}:Shared).TypeIs (.ref (f.heap.objs.size+4)) "zip":=⟨_,up _ _ z1,rfl⟩;refine wpAny_bind (wpAny_typeOf lR ?_);rw[if_pos (by decide)];refine wpAny_bind (KW (up _ _ z1) O fun U lH m ne1=>?_);rw[if_pos (show(Option.isNone (none:Option Value))=true from rfl)];have R:∀b o,(c.push {cls:=.type "dict",data:=.dict #[]}).get? b=some o->U.get? b=some o:=ne1.keeps;have g:∀b o,c.get? b=some o->U.get? b=some o:=fun b o e=>R b o (up b o e);refine wpAny_bind (wpAny_rule ?_);refine wpAny_bind (wpAny_pyIter_zip (g _ _ z1) ?_);refine wpAny_pure ⟨plainId_quiet BF _,?_⟩;obtain⟨od,es,ep,lS,rd⟩:=id i;have qd:∀{b o},c.get? b=some o->b≠c.objs.size:=fun e=>Nat.ne_of_lt (Heap.lt_size e);have lT:∀{b o},f.heap.get? b=some o->b<f.heap.objs.size:=fun e=>Heap.lt_size e;have nS:f.heap.objs.size+4≠c.objs.size/\f.heap.objs.size+2≠c.objs.size/\f.heap.objs.size+3≠c.objs.size/\f.heap.objs.size≠c.objs.size/\f.heap.objs.size+1≠c.objs.size/\a≠c.objs.size/\b≠c.objs.size:=by
  have G:c.objs.size=f.heap.objs.size+5:=z6;rw[G];generalize f.heap.objs.size=n at C E;exact⟨by lia,by lia,by lia,by lia,by lia,Nat.ne_of_lt (Nat.lt_of_lt_of_le C (Nat.le_add_right _ _)),Nat.ne_of_lt (Nat.lt_of_lt_of_le E (Nat.le_add_right _ _))⟩
 show codeAny _ _ (.builtin "dict.update.loop" ⟨[.ref c.objs.size,.ref (f.heap.objs.size+4),rawInt ((0:Nat):Int),.none],[]⟩) _ _;refine Rr (knd:=AZ X.prog X.w) (xs:=its.toArray) (ys:=N.toArray) (more:=more) O D nS (by rw[List.size_toArray,m2,<-r.length,List.length_map]) (by lia) (fun j k' v' e=>?_) more.length 0 _ (by simp) (Nat.zero_le _)
  ⟨.inl ⟨rfl,g _ _ z1,_,_,g _ _ z3⟩,g _ _ z2,z4.at fun o e=>g _ o e,z5.at fun o e=>g _ o e,(pl.isList.at fun o e=>g _ o (k5 _ o e)),(B.isList.at fun o e=>g _ o (k5 _ o e))⟩ ⟨od,es,ep,R _ _ lS,rd⟩ (fun h2 eY hd2 eZ=>⟨rfl,?_⟩)
 ·obtain⟨key,c1,c2,c3⟩:=m3 j k' v' e;exact⟨key,by simpa using c1,by simpa using c2,c3⟩
 ·have Yr:(CC [] (Zn W ys)).length<=sizeLine:=by
   have:=Cg (Zn W ys) [];have e:(Zn W ys).length=W.length:=by unfold Zn;rw[List.length_map,List.length_zip];lia
   exact An (by simp at this;lia)
  have G:c.objs.size=f.heap.objs.size+5:=z6;have big:=M.big;have l:f.heap.objs.size<=c.objs.size:=by rw[G];exact Nat.le_add_right _ _
  refine⟨.ref c.objs.size,_,M.laid (t':=eY) (fun b o e=>?_) l (Gm Yr (beq_eq_false_iff_ne.mpr (Ne.symm (Nat.ne_of_lt (Nat.lt_of_lt_of_le big l)))) (KV.merge m1 .nil) hd2),rfl,q _ (M.Ap.fresh l)⟩;have S:=lT e;exact eZ b o (Nat.ne_of_lt (Nat.lt_of_lt_of_le S l)) (Nat.ne_of_lt (Nat.lt_of_lt_of_le S (Nat.le_add_right _ _))) (Nat.ne_of_lt (Nat.lt_of_lt_of_le S (Nat.le_add_right _ _))) (Nat.ne_of_lt S) (Nat.ne_of_lt (Nat.lt_of_lt_of_le S (Nat.le_add_right _ _))) (g _ _ (k5 _ _ e))
end
def Zo(n:Nat):It:=⟨fun i _=>i<n,fun i H x a=>a=H/\x=.int (((n:Nat):Int)-1-((i:Nat):Int)),fun i _=>n<=i⟩
variable{P:Program}{w:World}{K:rg}
theorem Rt{tg:Expr}(it:Addr)(n:Nat):Turn P w K tg (Zo n) [it] it (fun i h=>IsRangeIter h it ((((n:Nat):Int)-1)+(i:Nat)*(-1)) ((n:Int)-(i:Nat)) (-1))where
 mem:=by simp
 obj:=fun i h st b hb=>by
  have e:b=it:=by simpa using hb
  subst e;exact⟨_,st,fun v z=>by
   have z':Data.fields _=Data.cell v:=z;cases z'⟩
 keep:=fun i h h' st k=>k it (by simp) _ st
 item:=by
  intro X hP hw hK hc i pins s σ H E I hf st hg;subst hP hw hK;obtain⟨f0,f1,f2,f3,f4,f5⟩:=hf it (by simp);have W:=Walks.range (prog:=X.prog) (w:=X.w) (I.ok.hd hc) it (((n:Nat):Int)-1) (-1) n;refine W.item i s _ _ hg st fun v h' tk hv My kk=>?_;obtain⟨t,rfl⟩:=hv;have I1:Inv X pins σ H {s with heap:=h',toks:=tk}:=I.turned (fun b o hb e=>kk b o (by simpa using hb) e) f0 f1 f3 f4 f5;refine⟨_,rfl,Kc (s:={s with heap:=h',toks:=tk}) (n:="range_iterator") My rfl rfl (by decide) ⟨.int (((n:Nat):Int)-1-((i:Nat):Int)),H,I1,⟨t,?_⟩,⟨rfl,rfl⟩,My,fun b hb=>(hf b hb).1⟩⟩;congr 1;lia
 done:=by
  intro X hP hw hK hc i pins s σ H E I hf st hg;subst hP hw hK;obtain⟨f0,f1,f2,f3,f4,f5⟩:=hf it (by simp);exact wpAny_pyNext_range_end (I.ok.hd hc) st (by have:n<=i:=hg;lia) fun h' eb=>⟨rfl,I.turned (t':=s.toks) (fun b o hb e=>eb b o hb e) f0 f1 f3 f4 f5⟩
 self:=fun _ _ _ _ _ st h=>wpAny_pyIter_rangeiter st h
variable{H:Hp}{n:Nat}{pins:List (Addr×Obj)}{s:Shared}{a:St}
section
variable{X:Cx} {tg:Expr}
theorem WY{R:It->Hp->Prop}{E:Value->Shared->Prop}{t u v:Tok}{tk:Nat}(I:Inv X pins a H s)(g:n<=20000)(q:R (Zo n) H):wpAny (model X.prog X.w) X.A (pyIter (.ref s.heap.objs.size)) (de X pins a tg R) E {s with heap:=s.heap.push {cls:=.type "range",data:=.fields #[.int (((n:Nat):Int)-1) t,.int (-1) u,.int (-1) v]},toks:=tk}:=by
 have sz:Builtin.Range.rangeSize (((n:Nat):Int)-1) (-1) (-1)=(n:Int):=by
  unfold Builtin.Range.rangeSize;rw[if_neg (by decide)];split
  ·have:(((n:Nat):Int)-1-(-1)-1)/(-(-1))+1=n:=by
    rw[show(-(-1:Int))=1 from rfl,Int.ediv_one];lia
   exact this
  ·lia
 have d:Builtin.Range.small (((n:Nat):Int)-1) (-1) (-1)=true:=by
  unfold Builtin.Range.small;rw[sz];simp only[Builtin.Range.rangeFitsLong,Bool.and_eq_true,Bool.or_eq_true,decide_eq_true_eq,beq_iff_eq,show¬((-1:Int)>0)by decide,if_false];lia
 refine wpAny_pyIter_range (IsRange.new ..) d ?_;rw[sz];have c:Inv X pins a H {s with heap:=s.heap.push {cls:=.type "range",data:=.fields #[.int (((n:Nat):Int)-1) t,.int (-1) u,.int (-1) v]},toks:=tk}:=I.kept fun b o e=>Heap.get?_push_of_some _ e;refine⟨_,[(s.heap.push {cls:=.type "range",data:=.fields #[.int (((n:Nat):Int)-1) t,.int (-1) u,.int (-1) v]}).objs.size],_,_,H,rfl,
  c.kept (t':=tk) fun b o e=>Heap.get?_push_of_some _ e,Rt _ n,?_,fun b f=>?_,q⟩
 ·show IsRangeIter _ _ ((((n:Nat):Int)-1)+((0:Nat):Int)*(-1)) ((n:Int)-((0:Nat):Int)) (-1);rw[show(((n:Nat):Int)-1)+((0:Nat):Int)*(-1)=((n:Nat):Int)-1 by simp,show(n:Int)-((0:Nat):Int)=n by simp];exact Heap.get?_push_size _ rfl
 ·have e:b=(s.heap.push {cls:=.type "range",data:=.fields #[.int (((n:Nat):Int)-1) t,.int (-1) u,.int (-1) v]}).objs.size:=by simpa using f
  subst e;exact c.Ot (Nat.le_refl _) (c.Ap.fresh (Nat.le_refl _))
def bE(a:TA):TI:=fun b H R=>a b H fun c d=>∃n:Nat,c=[.int (((n:Nat):Int)-1),.int (-1),.int (-1)]/\n<=20000/\R (Zo n) d
theorem Ru{a b c:Expr}{i:TA}{p pos:Pos}(j:Gl X "range")(k:X.mg "range"=none)(l:PA X [a,b,c] i)(m:starEach [a,b,c] X.env=[(false,eval a X.env),(false,eval b X.env),(false,eval c X.env)]:=by rfl)(d:starEach [b,c] X.env=[(false,eval b X.env),(false,eval c X.env)]:=by rfl):
  PI X tg (.Call (.Name "range" p) [a,b,c] [] pos) (bE i):=by
 intro pins s o H R I h;refine Call_ (EN I j k boot_range (PyProof.Rows.callWith_type1 (BH (l pos pins s o H _ I h) fun B C u=>u.elim fun D E v w x=>?_) (by rw[m,d]) (by rw[d];rfl)));obtain⟨n,e,y,q⟩:=x;subst e;cases w with
 |cons r f=>
  cases f with
  |cons z f=>
   cases f with
   |cons g f=>
    cases f;obtain⟨t,rfl⟩:=r;obtain⟨F,rfl⟩:=z;obtain⟨A,rfl⟩:=g;exact call_range_3 (by decide) (WY v y q) (.inl (PyProof.noPylong_small (by lia)))
end
theorem UY{g:TG}{h:TS}{D:Ends}(Pv:Nat->St->Hp->Prop)(k:Pv n a H)(l:∀i a H,i<n->Pv (i+1) a H->g (.int (i:Int)) a H fun b H2=>h {D with nx:=Pv i,ct:=Pv i,bk:=D.nx} b H2)(o:∀a H,Pv 0 a H->D.nx a H):
  ∃W:Nat->Nat->St->Hp->Prop,(∃m,W 0 m a H)/\∀i m a H,W i m a H-> ((Zo n).stop i H/\D.nx a H)∨((Zo n).go i H/\∃N:St->Hp->Prop,(∀c d,N c d->∃j,j<m/\W (i+1) j c d)/\∀x d,(Zo n).Oq i H x d->g x a d fun b H2=>h {D with nx:=N,ct:=N,bk:=D.nx} b H2):=by
 refine⟨fun i m a H=>m=n-i/\i<=n/\Pv m a H,⟨n,by simp,Nat.zero_le _,k⟩,?_⟩;rintro i m a H ⟨rfl,r,p⟩;by_cases f:i<n
 ·refine .inr ⟨f,Pv (n-(i+1)),fun c d q=>⟨n-(i+1),by lia,rfl,f,q⟩,fun x d y=>?_⟩;obtain⟨e,y⟩:=y;subst e y;have e:((n:Nat):Int)-1-((i:Nat):Int)=(((n-(i+1):Nat)):Int):=by lia
  rw[e];refine l (n-(i+1)) a _ (by lia) ?_;rw[show n-(i+1)+1=n-i by lia];exact p
 ·have e:i=n:=by lia
  subst e;rw[Nat.sub_self]at p;exact .inl ⟨Nat.le_refl _,o a H p⟩
variable{t:Pt}{vs:List V}
section
variable{K:rg} [Bb K]
namespace Dc
mutual
noncomputable def tr:Dc->Pt
 |leaf (.int i)=>.int i
 |leaf (.str x)=>.str x
 |leaf _=>.int 0
 |row _ xs=>.lst (Rv xs)
 |tab _ ks xs=>.BI ks (Rv xs)
noncomputable def Rv:List Dc->List Pt
 |[]=>[]
 |x::r=>tr x::Rv r
end
theorem GA:∀xs:List Dc,Rv xs=xs.map tr
 |[]=>rfl
 |x::r=>by simp only[Rv,List.map_cons,GA r]
mutual
theorem QY:∀d e:Dc,DR d e->e.tr=d.tr
 |leaf v,leaf w,h=>by simp only[DR]at h;subst h;rfl
 |row _ xs,row _ ys,h=>by simp only[DR]at h;simp only[tr,JY xs ys h]
 |tab _ ks xs,tab _ ls ys,h=>by simp only[DR]at h;simp only[tr,JY xs ys h.2,h.1]
 |leaf _,row _ _,h=>by simp[DR]at h
 |leaf _,tab _ _ _,h=>by simp[DR]at h
 |row _ _,leaf _,h=>by simp[DR]at h
 |row _ _,tab _ _ _,h=>by simp[DR]at h
 |tab _ _ _,leaf _,h=>by simp[DR]at h
 |tab _ _ _,row _ _,h=>by simp[DR]at h
theorem JY:∀xs ys:List Dc,CV xs ys->Rv ys=Rv xs
 |[],[],_=>rfl
 |x::r,y::t,h=>by simp only[CV]at h;simp only[Rv,QY x y h.1,JY r t h.2]
 |[],_::_,h=>by simp[CV]at h
 |_::_,[],h=>by simp[CV]at h
end
mutual
theorem UZ{H:Hp}:∀d:Dc,d.At H->Val H d.val d.tr
 |leaf v,h=>by
  simp only[At]at h;rcases h with⟨i,rfl⟩|⟨x,rfl,_⟩
  ·exact .int i
  ·exact .str x
 |row a xs,h=>by
  simp only[At]at h;exact .lst h.1 (Ph xs h.2)
 |tab a ks xs,h=>by
  simp only[At]at h;refine .BI h.1 (JB h.2.1) ?_;have e:(kvs ks xs).map (·.2)=xs.map val:=by
   rw[Nf];exact F' (by rw[List.length_map];exact h.2.1)
  rw[e];exact Ph xs h.2.2.2
theorem Ph{H:Hp}:∀xs:List Dc,Gb H xs->AQ H (xs.map val) (Rv xs)
 |[],_=>.nil
 |x::r,h=>by
  simp only[Gb]at h;exact .cons (UZ x h.1) (Ph r h.2)
end
end Dc
theorem Nb.val{a:Hp}{d:Dc}(F:Nb H a d):Val (nw H a) d.val d.tr:=by
 refine d.UZ (Dc.JA d (fun c b o e=>?_) F.at_);rw[Ax (F.new c b)];exact e
theorem Ua:∀{kvs:List (Key×V)}{ks:List Str}{a:List Dc},kvs.map (·.1)=ks.map Sum.inr->a.map Dc.val=kvs.map (·.2)->kvs=Dc.kvs ks a
 |[],[],a=>fun _ h=>by
  cases a with
  |nil=>rfl
  |cons _ _=>simp at h
 |[],_::_,_=>fun h _=>by simp at h
 |_::_,[],_=>fun h _=>by simp at h
 |(k,v)::kvs,y::ks,a=>fun h h'=>by
  simp only[List.map_cons,List.cons.injEq]at h;cases a with
  |nil=>simp at h'
  |cons d a=>
   simp only[List.map_cons,List.cons.injEq]at h';obtain⟨b,c⟩:=h;obtain⟨e,f⟩:=h';have g:=Ua c f;subst b e;rw[g];rfl
mutual
theorem Val.dc{H:Hp}:∀(t:Pt){v:V},Val H v t->t.doc->∃d:Dc,d.val=v/\d.At H/\d.tr=t/\d.slim/\d.size=t.size
 | .int i=>fun g _=>by cases g;exact⟨.leaf (.int i),rfl,.inl ⟨i,rfl⟩,rfl,trivial,rfl⟩
 | .str x=>fun g d=>by cases g;exact⟨.leaf (.str x),rfl,.inr ⟨x,rfl,d⟩,rfl,trivial,rfl⟩
 | .bl _=>fun _ d=>by simp[Pt.doc]at d
 | .Ai=>fun _ d=>by simp[Pt.doc]at d
 | .tup _=>fun _ d=>by simp[Pt.doc]at d
 | .lst ts=>fun g d=>by
  obtain⟨⟩:=g
  rename_i a _ h r
  simp only[Pt.doc]at d;obtain⟨b,e,f,c,j,k⟩:=AQ.fH ts r d;refine⟨.row a b,rfl,?_,by simp only[Dc.tr,c],by simp only[Dc.slim];exact j,by simp only[Dc.size,Pt.size,k]⟩;simp only[Dc.At];exact⟨by rw[e];exact h,f⟩
 | .BI l ts=>fun g d=>by
  obtain⟨⟩:=g
  rename_i a kvs h n r
  simp only[Pt.doc]at d;obtain⟨b,e,f,c,j,k⟩:=AQ.fH ts r d.2.2.2.2;have m:l.length=b.length:=by
   have:=congrArg List.length c;rw[Dc.GA,List.length_map]at this;rw[this];exact d.1
  refine⟨.tab a l b,rfl,?_,by simp only[Dc.tr,c],by simp only[Dc.slim];exact⟨by rw[<-m];exact d.2.2.2.1,j⟩,by simp only[Dc.size,Pt.size,k]⟩;simp only[Dc.At];exact⟨by rw[<-Ua n e];exact h,m,d.2.1,f⟩
theorem AQ.fH{H:Hp}:∀(ts:List Pt){vs:List V},AQ H vs ts->Pt.Bl ts->∃a:List Dc,a.map Dc.val=vs/\Dc.Gb H a/\Dc.Rv a=ts/\Dc.JE a/\Dc.AI a=Pt.AI ts
 |[]=>fun g _=>by cases g;exact⟨[],rfl,trivial,rfl,trivial,rfl⟩
 |t::ts=>fun g d=>by
  obtain⟨⟩:=g
  rename_i h r
  simp only[Pt.Bl]at d;obtain⟨x,a1,a2,a3,a4,a5⟩:=Val.dc t h d.1;obtain⟨a,b,c,e,f,i⟩:=AQ.fH ts r d.2;exact⟨x::a,by rw[List.map_cons,a1,b],by simp only[Dc.Gb];exact⟨a2,c⟩,by simp only[Dc.Rv,a3,e],by simp only[Dc.JE];exact⟨a4,f⟩,by simp only[Dc.AI,Pt.AI,a5,i]⟩
end
theorem Nv{Q:VK}{E:XK}{v:V}(e:vs=[v])(b:Val H v t)(d:t.doc)(z:t.size<=900)(q:∀(w:V) (a:Hp),AG H a->Val (nw H a) w t->Q w a):JM vs H Q E:=by
 obtain⟨dc,rfl,a2,a3,a4,a5⟩:=Val.dc t b d;exact⟨dc,e,a2,a4,by lia,fun c a F lk=>q _ _ F.same (by rw[<-a3,<-Dc.QY _ _ lk];exact F.val)⟩
theorem Nx{Q:VK}{E:XK}(h:Ly vs H Q E):Fz vs H Q E:=by
 obtain⟨d,rfl,b,e,f,q⟩:=h;refine⟨d.val,d.tr,rfl,d.UZ b,?_,fun p l g s n j st=>q p l g s n j ?_⟩
 ·cases d with
  |leaf v=>
   simp only[Dc.At]at b;rcases b with⟨i,rfl⟩|⟨x,rfl,_⟩<;>trivial
  |row a c=>
   simp only[Dc.size]at f;have:=Dc.CL c;show(Dc.Rv c).length<=900;rw[Dc.GA,List.length_map];lia
  |tab a k c=>
   simp only[Dc.At]at b;simp only[Dc.slim]at e;exact⟨by rw[Dc.GA,List.length_map];exact b.2.1,by rw[b.2.1];exact e.1⟩
 ·cases d with
  |leaf v=>
   simp only[Dc.At]at b;rcases b with⟨i,rfl⟩|⟨x,rfl,_⟩<;>exact st
  |row a c=>
   have:l=(List.range (Dc.Rv c).length).map fun(i:Nat)=>V.int (i:Int):=st;rw[Dc.GA,List.length_map]at this;exact this
  |tab a k c=>exact st
end
namespace Ak
mutual
def Ct:Ak->Prop
 |any=>True
 |BC d=>d.doc
 |row xs _=>H_ xs
 |tab ks xs ls _=>ks.length=xs.length/\ks.Nodup/\(∀k∈ks,EE k=true)/\ks.length<60/\ls.length<=100/\(∀l∈ls,l∉ks)/\H_ xs
def H_:List Ak->Prop
 |[]=>True
 |x::r=>Ct x/\H_ r
end
mutual
noncomputable def wt:Ak->Nat
 |any=>1
 |BC d=>d.size
 |row xs _=>1+Dm xs
 |tab _ xs _ _=>1+Dm xs
noncomputable def Dm:List Ak->Nat
 |[]=>0
 |x::r=>wt x+Dm r
end
mutual
noncomputable def dp:Ak->Nat
 |any=>1
 |BC d=>d.deep
 |row xs _=>1+Mr xs
 |tab _ xs _ _=>1+Mr xs
noncomputable def Mr:List Ak->Nat
 |[]=>0
 |x::r=>max (dp x) (Mr r)
end
theorem Bi:∀{xs:List Ak},H_ xs->∀x∈xs,Ct x
 |y::r,h,x,a=>by
  simp only[H_]at h;rcases List.mem_cons.mp a with rfl|a
  ·exact h.1
  ·exact Bi h.2 x a
mutual
theorem MQ:∀a:Ak,a.size<=a.wt
 |any=>by simp[size,wt]
 |BC d=>by simp only[size,wt];exact Pt.size_pos d
 |row xs _=>by have:=Cs xs;simp only[size,wt];lia
 |tab _ xs _ _=>by have:=Cs xs;simp only[size,wt];lia
theorem Cs:∀xs:List Ak,AI xs<=Dm xs
 |[]=>Nat.le_refl _
 |x::r=>by have:=MQ x;have:=Cs r;simp only[AI,Dm];lia
end
theorem Cz:∀{xs:List Ak}{x:Ak},x∈xs->x.wt<=Dm xs
 |y::r,x,h=>by
  simp only[Dm];rcases List.mem_cons.mp h with rfl|h
  ·lia
  ·have:=Cz h;lia
theorem GB:∀{xs:List Ak}{x:Ak},x∈xs->x.dp<=Mr xs
 |y::r,x,h=>by
  simp only[Mr];rcases List.mem_cons.mp h with rfl|h
  ·lia
  ·have:=GB h;lia
theorem JZ{a b:List Ak}(p:a.Perm b):Dm a=Dm b:=by
 induction p with
 |nil=>rfl
 |cons x _ c=>simp only[Dm,c]
 |swap x y l=>simp only[Dm];lia
 |trans _ _ d e=>exact d.trans e
theorem Ub{a b:List Ak}(p:a.Perm b):Mr a=Mr b:=by
 induction p with
 |nil=>rfl
 |cons x _ c=>simp only[Mr,c]
 |swap x y l=>simp only[Mr];lia
 |trans _ _ d e=>exact d.trans e
mutual
theorem Pj:∀a:Ak,a.ok->a.Ct
 |any,_=>trivial
 |BC d,h=>by simp only[ok]at h;exact h.2.1
 |row xs _,h=>by simp only[ok]at h;simp only[Ct];exact Uc xs h
 |tab ks xs ls _,h=>by
  simp only[ok]at h;obtain⟨b,c,e,h4,f,g,i⟩:=h;simp only[Ct];exact⟨b,c,e,h4,Nat.le_trans f.1 (by decide),g,Uc xs i⟩
theorem Uc:∀xs:List Ak,Hv xs->H_ xs
 |[],_=>trivial
 |x::r,h=>by simp only[Hv]at h;exact⟨Pj x h.1,Uc r h.2⟩
end
mutual
theorem Ny:∀a:Ak,a.ok->a.wt<=10*a.size
 |any,_=>by simp[wt,size]
 |BC d,h=>by simp only[ok]at h;simp only[wt,size];lia
 |row xs _,h=>by simp only[ok]at h;have:=Pk xs h;simp only[wt,size];lia
 |tab b xs ls _,h=>by simp only[ok]at h;have:=Pk xs h.2.2.2.2.2.2;simp only[wt,size];lia
theorem Pk:∀xs:List Ak,Hv xs->Dm xs<=10*AI xs
 |[],_=>Nat.le_refl _
 |x::r,h=>by simp only[Hv]at h;have:=Ny x h.1;have:=Pk r h.2;simp only[Dm,AI];lia
end
end Ak
theorem Sm.bH{d:Pt}(h:Sm d):d.deep<=3:=by
 have one:∀a:List Pt,(∀x∈a,Xe x)->Pt.AS a<=1:=by
  intro a
  induction a with
  |nil=>intro _;simp[Pt.AS]
  |cons x r b=>
   intro h;have c:=h x List.mem_cons_self;have f:=b fun y e=>h y (List.mem_cons_of_mem _ e);have:x.deep<=1:=by cases c<;>simp[Pt.deep,Pt.AS]
   simp only[Pt.AS];lia
 cases h with
 |one h=>cases h<;>simp[Pt.deep,Pt.AS]
 |row h=>have:=one _ h;simp only[Pt.deep];lia
 |tab h=>have:=one _ h;simp only[Pt.deep];lia
namespace Ak
mutual
theorem QZ:∀a:Ak,a.ok->a.dp<=a.deep+2
 |any,_=>by simp[dp,deep]
 |BC d,h=>by simp only[ok]at h;have:=h.1.bH;simp only[dp,deep];lia
 |row b _,h=>by simp only[ok]at h;have:=Pl b h;simp only[dp,deep];lia
 |tab c b ls _,h=>by simp only[ok]at h;have:=Pl b h.2.2.2.2.2.2;simp only[dp,deep];lia
theorem Pl:∀xs:List Ak,Hv xs->Mr xs<=AS xs+2
 |[],_=>by simp[Mr]
 |x::r,h=>by simp only[Hv]at h;have:=QZ x h.1;have:=Pl r h.2;simp only[Mr,AS];lia
end
theorem Kw:∀ls:List Str,Pt.AS (ls.map Pt.str)<=1
 |[]=>by simp[Pt.AS]
 |x::r=>by have:=Kw r;simp only[List.map_cons,Pt.AS,Pt.deep];lia
mutual
theorem Xh:∀a:Ak,a.pt.deep<=2*a.dp+2
 |any=>by simp[pt,Pt.deep,Pt.AS,dp]
 |BC d=>by simp only[pt,Pt.deep,Pt.AS,dp];lia
 |row xs m=>by have:=Pm xs;simp only[pt,Pt.deep,Pt.AS,dp];lia
 |tab b xs ls m=>by have:=Pm xs;have:=Kw ls;simp only[pt,Pt.deep,Pt.AS,dp];lia
theorem Pm:∀xs:List Ak,Pt.AS (Gd xs)<=2*Mr xs+2
 |[]=>by simp[Gd,Pt.AS]
 |x::r=>by have:=Xh x;have:=Pm r;simp only[Gd,Pt.AS,Mr];lia
end
mutual
theorem Nz:∀a:Ak,a.Ct->a.wt<=900->a.pt.nice
 | .any=>fun _ _=>by simp[Ak.pt,Pt.nice,Pt.Cu]
 | .BC d=>fun o z=>by
  simp only[Ct]at o;simp only[wt]at z;simp only[Ak.pt,Pt.nice,Pt.Cu];exact⟨by simp,trivial,Pt.JW d o z,trivial⟩
 | .row xs m=>fun o z=>by
  simp only[Ct]at o;simp only[wt]at z;have:=Ak.CL xs;have:=Cs xs;simp only[Ak.pt,Pt.nice,Pt.Cu];exact⟨by simp,trivial,⟨by rw[Ak.BG,List.length_map];lia,Gy xs o (by lia)⟩,trivial,trivial⟩
 | .tab c xs ls m=>fun o z=>by
  simp only[Ct]at o;simp only[wt]at z;simp only[Ak.pt,Pt.nice,Pt.Cu];refine⟨by simp,trivial,⟨by rw[Ak.BG,List.length_map];exact o.1,o.2.1,by lia,Gy xs o.2.2.2.2.2.2 (by lia)⟩,⟨by rw[List.length_map];lia,Pt.Np fun x b=>?_⟩,trivial,trivial⟩;obtain⟨y,_,rfl⟩:=List.mem_map.mp b;trivial
theorem Gy:∀xs:List Ak,H_ xs->Dm xs<=900->Pt.Cu (Ak.Gd xs)
 |[]=>fun _ _=>trivial
 |x::r=>fun o z=>by
  simp only[H_]at o;simp only[Dm]at z;simp only[Ak.Gd,Pt.Cu];exact⟨Nz x o.1 (by lia),Gy r o.2 (by lia)⟩
end
def Kd:Ak->List Ak->Prop
 |row xs _,as=>as=xs
 |tab ks xs _ _,as=>∃ss:List Str,ss.Perm ks/\sortedS ss=true/\ss.map (lk ks xs)=as.map some
 |_,as=>as=[]
end Ak
theorem some_inj{c:Type}:∀{a b:List c},a.map some=b.map some->a=b
 |[],[],_=>rfl
 |[],_::_,h=>by simp at h
 |_::_,[],h=>by simp at h
 |x::r,y::q,h=>by
  simp only[List.map_cons,List.cons.injEq]at h;rw[rY h.1,some_inj h.2]
namespace Ak
theorem Kd.ok{a:Ak}{as:List Ak}(h:Kd a as)(o:a.Ct):∀x∈as,x.Ct:=by
 cases a with
 |row c m=>simp only[Ct]at o;rw[show as=c from h];exact Bi o
 |tab g c ls m=>
  simp only[Ct]at o;obtain⟨i,e,j,f⟩:=h;intro x b;have:=(Ci o.1 o.2.1 e f).mem_iff.mp b;exact Bi o.2.2.2.2.2.2 x this
 |any=>rw[show as=[]from h];exact fun x b=>nomatch b
 |BC d=>rw[show as=[]from h];exact fun x b=>nomatch b
theorem Kd.wt{a:Ak}{as:List Ak}(h:Kd a as)(o:a.Ct):∀x∈as,x.wt<=a.wt:=by
 cases a with
 |row c m=>rw[show as=c from h];intro x b;have:=Cz b;simp only[Ak.wt];lia
 |tab g c ls m=>
  simp only[Ct]at o;obtain⟨i,e,j,f⟩:=h;intro x b;have:=Cz ((Ci o.1 o.2.1 e f).mem_iff.mp b);simp only[Ak.wt];lia
 |any=>rw[show as=[]from h];exact fun x b=>nomatch b
 |BC d=>rw[show as=[]from h];exact fun x b=>nomatch b
noncomputable def Ud:List Ak->Option (List Pt)
 |[]=>some []
 |BC d::r=>(Ud r).map (d::·)
 |_::_=>none
def WZ(a:List Ak)(m:Bool):Ak:=if m then row a true else match Ud a with
 |some b=>BC (.lst b)
 |none=>row a false
def Wa(ss:List Str)(a:List Ak)(ls:List Str)(m:Bool):Ak:=if m then tab ss a ls true else match Ud a with
 |some b=>BC (.BI ss b)
 |none=>tab ss a [] false
mutual
inductive Good:Ak->Ak->Prop
 |any:Good .any .any
 |BC (d:Pt):Good (.BC d) (.BC d)
 |row {xs a:List Ak} {m:Bool} (h:N_ xs a):Good (.row xs m) (WZ a m)
 |tab {ks ss:List Str} {xs as a:List Ak} {ls:List Str} {m:Bool} (pm:ss.Perm ks) (b:sortedS ss=true) (e:ss.map (lk ks xs)=as.map some) (h:N_ as a):Good (.tab ks xs ls m) (Wa ss a ls m)
inductive N_:List Ak->List Ak->Prop
 |nil:N_ [] []
 |cons {x y:Ak} {xs ys:List Ak} (h:Good x y) (r:N_ xs ys):N_ (x::xs) (y::ys)
end
end Ak
theorem Bd(h:n<=20000):n<=sizeLine:=Nat.le_trans h (show 20000<=2 ^ 24 by decide)
noncomputable def Pt.hold:Pt->Pt
 | .tup (.str w::h::_)=>if w="row"∨w="table"then h else .lst []
 |_=>.lst []
mutual
inductive Ms:Nat->Pt->Prop
 |leaf {w:Str} {r:List Pt} (a:w≠"row") (b:w≠"table"):Ms 1 (.tup (.str w::r))
 |row {n:Nat} {xs r:List Pt} (z:xs.length<=900) (h:Dn n xs):Ms (n+1) (.tup (.str "row"::.lst xs::r))
 |tab {n:Nat} {ks:List Str} {xs r:List Pt} (l:ks.length=xs.length) (nd:ks.Nodup) (z:ks.length<64) (h:Dn n xs):Ms (n+1) (.tup (.str "table"::.BI ks xs::r))
inductive Dn:Nat->List Pt->Prop
 |nil:Dn 0 []
 |cons {n m:Nat} {x:Pt} {r:List Pt} (h:Ms n x) (t:Dn m r):Dn (n+m) (x::r)
end
theorem Ms.pos(h:Ms n t):1<=n:=by cases h<;>lia
theorem Dn.len:∀{n:Nat}{xs:List Pt},Dn n xs->xs.length<=n
 |_,_,.nil=>Nat.le_refl _
 |_,_,.cons h t=>by have:=h.pos;have:=t.len;rw[List.length_cons];lia
theorem Dn.append:∀{n m:Nat}{xs ys:List Pt},Dn n xs->Dn m ys->Dn (n+m) (xs++ys)
 |_,_,_,_,.nil=>fun s=>by rw[Nat.zero_add];exact s
 |_,_,_,_,.cons h t=>fun s=>by rw[Nat.add_assoc];exact .cons h (t.append s)
variable{ys:List Pt}
theorem Dn.perm{xs:List Pt}(p:xs.Perm ys)(h:Dn n xs):Dn n ys:=by
 induction p generalizing n with
 |nil=>exact h
 |cons x _ d=>cases h with|cons h t=>exact .cons h (d t)
 |swap x y l=>
  cases h with
  |cons h t=>
   cases t with
   |@cons a b _ _ e t=>
    rename_i c
    rw[show c+(a+b)=a+(c+b)by lia];exact .cons e (.cons h t)
 |trans _ _ f g=>exact g (f h)
theorem Ms.Xi(h:Ms n t):JS t.hold:=by
 cases h with
 |@leaf w r a b=>
  have e:Pt.hold (.tup (.str w::r))=.lst []:=by
   cases r with
   |nil=>rfl
   |cons h r=>simp[Pt.hold,a,b]
  rw[e];exact Nat.zero_le _
 |@row n c r z h=>exact z
 |@tab n f c r l nd d h=>exact⟨l,d⟩
variable{us:List Pt}
theorem Ms.kids(h:Ms n t)(k:D_ t.hold us):∃m,Dn m us/\n=m+1:=by
 cases h with
 |@leaf w r d f=>
  have e:Pt.hold (.tup (.str w::r))=.lst []:=by
   cases r with
   |nil=>rfl
   |cons h r=>simp[Pt.hold,d,f]
  rw[e]at k;rw[show us=[]from k];exact⟨0,.nil,rfl⟩
 |@row n b r z h=>
  have:us=b:=k;subst this;exact⟨n,h,rfl⟩
 |@tab n c b r l nd z h=>
  obtain⟨a,g,i,e⟩:=(show∃a:List Str,a.Perm c/\sortedS a=true/\a.map (lk c b)=us.map some from k);exact⟨n,h.perm (Ci l nd g e).symm,rfl⟩
inductive Pn(root:Pt):Nat->List Pt->List (List Pt)->Prop
 |start:Pn root 0 [root] []
 |next{n:Nat} {l:List Pt} {a:List (List Pt)} {t:Pt} {us:List Pt} (b:Pn root n l a) (c:l[n]?=some t) (k:D_ t.hold us):Pn root (n+1) (l++us) (a++[us])
variable{l:List Pt}
theorem Wb{N m:Nat}(h:Dn m (l.drop n))(e:n+m=N)(a:l[n]?=some t)(k:D_ t.hold us)(z:N<=20000):JS t.hold/\us.length<=20000/\∃b,b<m/\Dn b ((l++us).drop (n+1))/\n+1+b=N:=by
 have c:=(rX a).1;have f:l.drop n=t::l.drop (n+1):=by
  rw[List.drop_eq_getElem_cons c];rw[rW c]at a;rw[rY a]
 rw[f]at h;cases h with
 |@cons j g _ _ h r=>
  obtain⟨i,d,o⟩:=h.kids k;have:=d.len;refine⟨h.Xi,by lia,g+i,by lia,?_,by lia⟩;rw[List.drop_append_of_le_length (by lia)];exact r.append d
theorem bK{N m:Nat}(h:Dn m (l.drop n))(e:n+m=N)(a:l[n]?=some t)(z:N<=20000):∃b,b<=20000/\Ms b t:=by
 have c:=(rX a).1;have d:l.drop n=t::l.drop (n+1):=by
  rw[List.drop_eq_getElem_cons c];rw[rW c]at a;rw[rY a]
 rw[d]at h;cases h with
 |@cons f g _ _ h r=>exact⟨f,by lia,h⟩
namespace Ak
mutual
theorem nd:∀a:Ak,a.Ct->a.size<=900->Ms a.size a.pt
 |any=>fun _ _=>.leaf (by decide) (by decide)
 |BC d=>fun _ _=>.leaf (by decide) (by decide)
 |row xs m=>fun o z=>by
  simp only[size]at z;have b:=CL xs;simp only[Ct]at o;simp only[size,pt];rw[Nat.add_comm];exact .row (by rw[BG,List.length_map];lia) (fK xs o (by lia))
 |tab c xs ls m=>fun o z=>by
  simp only[size]at z;simp only[Ct]at o;simp only[size,pt];rw[Nat.add_comm];exact .tab (by rw[BG,List.length_map];exact o.1) o.2.1 (by lia) (fK xs o.2.2.2.2.2.2 (by lia))
theorem fK:∀xs:List Ak,H_ xs->AI xs<=900->Dn (AI xs) (Gd xs)
 |[]=>fun _ _=>.nil
 |x::r=>fun o z=>by
  simp only[AI]at z;simp only[H_]at o;exact .cons (nd x o.1 (by lia)) (fK r o.2 (by lia))
end
theorem OA{a:Ak}(o:a.Ct)(k:D_ a.pt.hold us):∃as,Kd a as/\us=as.map pt:=by
 cases a with
 |any=>exact⟨[],rfl,show us=[]from k⟩
 |BC d=>
  have:us=[]:=by
   have h:D_ (.lst []) us:=by
    have e:(Ak.BC d).pt.hold=.lst []:=by simp only[pt,Pt.hold];exact if_neg (by decide)
    rw[e]at k;exact k
   exact h
  exact⟨[],rfl,this⟩
 |row xs m=>exact⟨xs,rfl,by rw[<-BG];exact k⟩
 |tab c xs ls m=>
  simp only[Ct]at o;obtain⟨b,f,i,e⟩:=(show∃b:List Str,b.Perm c/\sortedS b=true/\b.map (lk c (Gd xs))=us.map some from k);obtain⟨as,g⟩:=Pf (xs:=xs) o.1 fun k j=>f.mem_iff.mp j;refine⟨as,⟨b,f,i,g⟩,?_⟩;refine some_inj (e.symm.trans ?_);rw[BG,List.map_map];have:b.map (lk c (xs.map pt))=(b.map (lk c xs)).map (Option.map pt):=by
   rw[List.map_map];exact List.map_congr_left fun k _=>MJ pt
  rw[this,g,List.map_map];rfl
end Ak
section
variable{K:rg} [Bb K]
theorem Val.node{v:V}(h:Val H v t)(d:Ms n t):∃(a:Addr)(w:Str)(rest:List V),v=.ref a/\Bm K H a (.str w::rest)/\((w≠"row"/\w≠"table"/\t.hold=.lst [])∨((w="row"∨w="table")/\∃u r,rest=u::r/\Val H u t.hold)):=by
 cases d with
 |@leaf w r c f=>
  obtain⟨a,b,e,h,_⟩:=Val.t1 h;refine⟨a,w,b,e,h,.inl ⟨c,f,?_⟩⟩;cases r with
  |nil=>rfl
  |cons h r=>simp[Pt.hold,c,f]
 |@row n i r j d=>
  obtain⟨a,b,e,h,q⟩:=Val.t1 h;obtain⟨u,r,q,g,_⟩:=q.Fx;exact⟨a,"row",b,e,h,.inr ⟨.inl rfl,u,r,q,g⟩⟩
 |@tab n k i r l nd z d=>
  obtain⟨a,b,e,h,q⟩:=Val.t1 h;obtain⟨u,r,q,g,_⟩:=q.Fx;exact⟨a,"table",b,e,h,.inr ⟨.inr rfl,u,r,q,g⟩⟩
theorem Ue(l:List V)(i j:Nat)(h:i<=j)(a:j<=l.length):Ld l (some (i:Int)) (some (j:Int))=(l.drop i).take (j-i):=by
 unfold Ld;rw[HT.Lc,HT.Lc,Nat.min_eq_left a,Nat.min_eq_left (Nat.le_trans h a)]
inductive Ug{K:rg}[Bb K](vs:List V)(H:Hp)(Q:VK)(b:XK):Prop
 |mk(G:Hp)(v:V)(t:Pt)(n:Nat)(c:vs=[v])(d:AG G H)(e:Val G v t)(f:Ms n t)(g:∀(w:V) (a:Hp),AG H a->(Val G w t.hold∨(t.hold=.lst []/\∃p,w=.ref p/\a p=some (.lst [])))->Q w a)
def Qa:Sp:=fun a H Q E=>Ug a H Q E
inductive Rw{K:rg}[Bb K](vs:List V)(H:Hp)(Q:VK)(c:XK):Prop
 |mk(G:Hp)(v:V)(t:Pt)(n:Nat)(d:vs=[v])(e:AG G H)(f:Val G v t)(g:Ms n t)(h:∀(p:Addr) (b:List V) (us:List Pt) (a:Hp),AG H a->H p=none->a p=some (.lst b)->AQ G b us->D_ t.hold us->Q (.ref p) a)
def Ja:Sp:=fun a H Q E=>Rw a H Q E
inductive Uh{K:rg}[Bb K](d:Addr)(vs:List V)(H:Hp)(Q:VK)(e:XK):Prop
 |mk(G:Hp)(v:V)(t:Pt)(n:Nat)(f:vs=[v,.ref d])(g:AG G H)(h:Val G v t)(i:Ms n t)(j:n<=20000)(k:∀(p:Addr) (c:List V) (l:List Pt) (a:List (List Pt)) (b:Hp),AG H b->H p=none->b p=some (.lst c)->AQ G c l->Pn t l.length l a->l.length<=n->Q (.ref p) b)
def MR(a:Addr):Sp:=fun b H Q E=>Uh a b H Q E
inductive Gz{K:rg}[Bb K](vs:List V)(H:Hp)(Q:VK)(b:XK):Prop
 |row (v:V) (ts:List Pt) (L:Addr) (ws:List V) (c:vs=[v,.ref L]) (d:Val H v (.lst ts)) (e:H L=some (.lst ws)) (f:ws.length<=900) (g:∀(p:Addr)(a:Hp),AG H a->H p=none->a p=some (.lst ws)->Q (.ref p) a):Gz vs H Q b
 |tab (v:V) (ks:List Str) (ts:List Pt) (L:Addr) (ws:List V) (c:vs=[v,.ref L]) (d:Val H v (.BI ks ts)) (e:H L=some (.lst ws)) (f:JS (.BI ks ts)) (g:ws.length=ks.length) (h:ks.Nodup) (i:∀(p:Addr)(ss:List Str)(a:Hp),AG H a->H p=none->ss.Perm ks->sortedS ss=true->a p=some (.dK (IP ss ws))->Q (.ref p) a):Gz vs H Q b
def OB:Sp:=fun a H Q E=>Gz a H Q E
end
def Bo(Z:List Addr)(H:Hp):Hp:=fun b=>if b∈Z then none else H b
def MS(Z:List Addr)(F H:Hp):Hp:=fun b=>if b∈Z then F b else H b
variable{Z:List Addr}{b:Addr}
theorem DF(h:b∈Z):Bo Z H b=none:=if_pos h
theorem Ag(h:b∉Z):Bo Z H b=H b:=if_neg h
theorem HP{F:Hp}(h:b∈Z):MS Z F H b=F b:=if_pos h
theorem Bf{F:Hp}(h:b∉Z):MS Z F H b=H b:=if_neg h
theorem By(h:H b=none):Bo Z H b=none:=by unfold Bo;split<;>first|rfl|exact h
theorem DG{o:HO}(h:Bo Z H b=some o):b∉Z/\H b=some o:=by
 by_cases z:b∈Z
 ·rw[DF z]at h;cases h
 ·rw[Ag z]at h;exact⟨z,h⟩
def Wc(Z:List Addr)(F:Hp)(h:Heap):Prop:=∀b∈Z,∃o,F b=some (.BP o (.own 0))/\h.get? b=some o
section
variable{P:Program} {w:World} {H F A B:Hp} {h h':Heap} {Z fs ex:List Addr}
theorem DV.off(ok:DV P w H h)(z:Wc Z H h):DV P w (Bo Z H) h:=fun b o e=>by
 obtain⟨d,e⟩:=DG e;have a:∀c u,H c=some u->(∀o,u≠.BP o (.own 0))->Bo Z H c=some u:=fun c u r n=>by
  rw[Ag (fun m=>let⟨o,q,_⟩:=z c m;n o (rY (r.symm.trans q)))];exact r
 exact(ok b o e).KC (fun c u _ q=>q) (fun c r=>a c _ r fun o q=>nomatch q) fun c f r=>a c _ r fun o q=>nomatch q
theorem DV.on(ok:DV P w H h)(n:∀b∈Z,H b=none)(z:Wc Z F h):DV P w (MS Z F H) h:=fun b o e=>by
 have d:∀c u,H c=some u->MS Z F H c=some u:=fun c u r=>by
  rw[Bf (fun m=>by rw[n c m]at r;cases r)];exact r
 by_cases a:b∈Z
 ·rw[HP a]at e;obtain⟨f,q,g⟩:=z b a;rw[q]at e;cases e;exact⟨g,f,g⟩
 ·rw[Bf a]at e;exact(ok b o e).KC (fun c u _ q=>q) (fun c r=>d c _ r) fun c i r=>d c _ r
theorem Un.off(u:Un fs ex (MS Z F A) B h h')(n:∀b∈Z,A b=none)(z:Wc Z F h)(ok:DV P w B h')(zf:∀b∈Z,b∉fs):Un fs ex A (Bo Z B) h h' where
 keep b o q nb hb hx:=by
  by_cases hz:b∈Z
  ·obtain⟨ob,q1,g⟩:=z b hz;have:=u.DW b ob _ (by rw[HP hz];exact q1);rw[g]at q;cases q;exact(ok b _ this).1
  ·exact u.keep b o q (by rw[Bf hz];exact nb) hb hx
 slot b o q nb hb hx:=u.slot b o q (by rw[Bf (fun m=>zf b m hb)];exact nb) hb hx
 free b o q nb hx:=by
  by_cases hz:b∈Z
  ·exact DF hz
  ·rw[Ag hz];exact u.free b o q (by rw[Bf hz];exact nb) hx
 there:=u.there
 FI b xs q:=by
  have hz:b∉Z:=fun m=>by rw[n b m]at q;cases q
  rw[Ag hz];exact u.FI b xs (by rw[Bf hz];exact q)
 DW b o v q:=by
  have hz:b∉Z:=fun m=>by rw[n b m]at q;cases q
  rw[Ag hz];exact u.DW b o v (by rw[Bf hz];exact q)
 FJ b ps q:=by
  have hz:b∉Z:=fun m=>by rw[n b m]at q;cases q
  rw[Ag hz];exact u.FJ b ps (by rw[Bf hz];exact q)
theorem Un.on(u:Un fs ex (Bo Z A) B h h')(z:Wc Z A h)(zf:∀b∈Z,b∉fs)(zx:∀b∈Z,b∉ex):Un fs ex A (MS Z A B) h h' where
 keep b o q nb hb hx:=u.keep b o q (By nb) hb hx
 slot b o q nb hb hx:=u.slot b o q (By nb) hb hx
 free b o q nb hx:=by
  have hz:b∉Z:=fun m=>by obtain⟨_,q1,_⟩:=z b m;rw[nb]at q1;cases q1
  rw[Bf hz];exact u.free b o q (By nb) hx
 there:=u.there
 FI b xs q:=by
  have hz:b∉Z:=fun m=>by obtain⟨_,q1,_⟩:=z b m;rw[q]at q1;cases q1
  rw[Bf hz];exact u.FI b xs (by rw[Ag hz];exact q)
 DW b o v q:=by
  by_cases hz:b∈Z
  ·rw[HP hz];exact q
  ·rw[Bf hz];exact u.DW b o v (by rw[Ag hz];exact q)
 FJ b ps q:=by
  have hz:b∉Z:=fun m=>by obtain⟨_,q1,_⟩:=z b m;rw[q]at q1;cases q1
  rw[Bf hz];exact u.FJ b ps (by rw[Ag hz];exact q)
theorem Un.fz(u:Un fs ex (Bo Z A) B h h')(z:Wc Z A h)(c:∀b∈Z,b∉fs)(a:∀b∈Z,b∉ex):Wc Z A h'/\∀b∈Z,B b=none:=
 ⟨fun b m=>let⟨o,q,g⟩:=z b m;⟨o,q,u.keep b o g (DF m) (c b m) (a b m)⟩,fun b m=>let⟨o,q,g⟩:=z b m;u.free b o g (DF m) (a b m)⟩
end
structure Qb(ps fs:List Str)(sc:Scope):Prop where
 kind:sc.kind=.function:=by rfl
 co:sc.isCoroutine=false:=by rfl
 gen:sc.isGenerator=false:=by rfl
 nd:ps.Nodup:=by decide+kernel
 par:∀x∈ps,sc.names.lookup x=some .local:=by decide+kernel
 fr:∀x∈fs,sc.names.lookup x=some .free:=by decide+kernel
 nc:∀y∈sc.names,y.2≠.cell:=by decide+kernel
 af:∀y∈sc.names,y.2=.free->y.1∈fs:=by decide+kernel
structure OC(H:Hp)(f:Addr)(qual:Str)(params:Arguments)(body:Expr)(scope:Scope)(cl:List (Str×Addr))(pm:Value)(c:Addr)(ctv:Value)(fs:List Str)(ws:List V):Prop where
 fn:∃u,H f=some (.BP (PySem.W.kla_obj "<lambda>" qual params body scope cl pm c ctv) u)
 code:∃oc u xs t,H c=some (.BP oc u)/\oc.data=.fields xs/\xs[1]?=some (.str qual t)
 has:∀x∈fs,∃c,cl.lookup x=some c
 inj:∀x y c,cl.lookup x=some c->cl.lookup y=some c->x=y
 fz:∀c∈cl.map (·.2),∃o v,H c=some (.BP o (.own 0))/\o.data=.cell v
 val:∀(i:Nat) x v,fs[i]?=some x->ws[i]?=some v->∃c o u,cl.lookup x=some c/\H c=some (.BP o (.own 0))/\o.data=.cell (some u)/\RelV v u
 len:ws.length=fs.length
variable{cl:List (Str×Addr)}{params:Arguments}{scope:Scope}{qual:Str}{body:Expr}{c f:Addr}{ctv pm:Value}
theorem OC.up{d:Hp}{fs:List Str}{ws:List V}(h:OC H f qual params body scope cl pm c ctv fs ws)(s:AG H d):OC d f qual params body scope cl pm c ctv fs ws:=
 ⟨let⟨u,e⟩:=h.fn;⟨u,s _ _ e⟩,let⟨g,u,j,t,e,r⟩:=h.code;⟨g,u,j,t,s _ _ e,r⟩,h.has,h.inj,fun c m=>let⟨o,v,e,r⟩:=h.fz c m;⟨o,v,s _ _ e,r⟩,
  fun i x v a b=>let⟨c,o,u,k,e,r⟩:=h.val i x v a b;⟨c,o,u,k,s _ _ e,r⟩,h.len⟩
theorem Jb{x:Str}{u:Value}:∀{ps:List Str}{us:List Value}{i:Nat},ps.Nodup->ps[i]?=some x->us[i]?=some u->(ps.zip us).reverse.lookup x=some u
 |[],_,_=>fun _ h _=>by simp at h
 |_::_,[],_=>fun _ _ h=>by simp at h
 |p::ps,w::us,0=>fun nd a b=>by
  simp at a b;subst a;subst b;have c:∀l:List (Str×Value),(∀v,(p,v)∉l)->l.lookup p=none:=fun l=>by
   induction l with
   |nil=>intro _;rfl
   |cons y r d=>
    intro h;rw[List.lookup_cons];have:(p==y.1)=false:=by
     cases e:p==y.1 with
     |false=>rfl
     |true=>exact absurd List.mem_cons_self (by have:=h y.2;rw[eq_of_beq e]at this;exact this)
    rw[this];exact d fun v m=>h v (List.mem_cons_of_mem _ m)
  rw[List.zip_cons_cons,List.reverse_cons,List.lookup_append,c _ fun v m=>(List.nodup_cons.mp nd).1 (List.of_mem_zip (List.mem_reverse.mp m)).1];simp
 |p::ps,w::us,i+1=>fun nd a b=>by
  rw[List.zip_cons_cons,List.reverse_cons,List.lookup_append,Jb (i:=i) (List.nodup_cons.mp nd).2 (by simpa using a) (by simpa using b)];rfl
variable{mg:Str->Option Value}{ps:List Str}{base:Heap}{sp:Sp}
theorem CD.lU{x:Str}{st:Stmt}{b:FuncData}{N:List Str}{k:Nat}(F:CD K x qual st f b)(i:b.code=.ref c)(S:AW N ps (AJ st))(len:∀vs H Q E,sp vs H Q E->vs.length=ps.length)(a:∀(A:Around) (outer:List Env) (s:Shared) (H:Hp) (vs:List V) (Q:VK) (E:XK),BQ k (A.deeper (envOfC qual (AJ st) s.heap.objs.size f (.ref c)))->sp vs H Q E->
   ∃t,Om (Lb Bn P w K mg base N qual (AJ st) f (.ref c) A outer s H E).XI (Br st) t/\t {nx:=fun _ j=>Q .Ai j,rt:=Q} (start N vs) H):Ac P w K mg base Bn (k+1) f b ps sp:=by
 obtain⟨n,o,kV,doc,p,r,d,u,l,rfl,lk,e⟩:=F.ex;cases(show d=.ref c from i);refine XR lk e S len fun A outer s H vs Q E m g=>?_;obtain⟨t,h,q⟩:=a A outer s H vs Q E m g;exact⟨t,h.XI,q⟩
def cX(P:Program)(w:World)(K:rg)(mg:Str->Option Value)(base:Heap)(N:List Str)(qual:Str)(scope:Scope)(f:Addr)(cd:Value)(cl:List (Str×Addr))(A:Around)(outer:List Env)(s:Shared)(H:Hp):Cx where
 prog:=P
 w:=w
 K:=K
 mg:=mg
 base:=base
 A:=A.deeper (PySem.W.envX qual scope s.heap.objs.size f cd cl)
 N:=N
 s₀:=s
 H₀:=H
 env:=PySem.W.envX qual scope s.heap.objs.size f cd cl
 outer:=outer
 stack:=PySem.W.envX qual scope s.heap.objs.size f cd cl::outer
 ex:=[]
 calm:=true
 fn:=fun _=>false
 pn:=[]
 xe:=fun _ _=>False
theorem Yx{k:Nat}{fs:List Str}(S:Qb ps fs scope)(len:∀vs H Q E,sp vs H Q E->vs.length=ps.length)(B:∀vs H Q E,sp vs H Q E->∃ws,OC H f qual params body scope cl pm c ctv fs ws/\∀(A:Around) (outer:List Env) (s:Shared),BQ k (A.deeper (PySem.W.envX qual scope s.heap.objs.size f (.ref c) cl))->
   ∃t,PE (cX P w K mg base (ps++fs) qual scope f (.ref c) cl A outer s (Bo (cl.map (·.2)) H)) body t/\t (vs.map some++ws.map some) (Bo (cl.map (·.2)) H) fun v M=>(∀b∈cl.map (·.2),M b=none)->Q v (MS (cl.map (·.2)) H M)):
  Ac P w K mg base Bn (k+1) f (PySem.W.kla_fn "<lambda>" qual params body scope cl pm (.ref c) ctv) ps sp:=by
 refine⟨len,fun A outer s H args us vs Q E O g R r C=>?_⟩;have T:=len _ _ _ _ C;obtain⟨ws,L,hB⟩:=B _ _ _ _ C;have U:s.heap.NoLimit:=g.mod.nolimit.keeps fun b o e=>(g.bs b o e).1;obtain⟨uf,hf⟩:=L.fn;have gf:=(g.Ap f _ hf).1;obtain⟨oc,uc,xs,tt,hc,V,X⟩:=L.code;have gc:=(g.Ap c _ hc).1;have N:Wc (cl.map (·.2)) H s.heap:=fun b m=>let⟨o,v,e,_⟩:=L.fz b m;⟨o,e,(g.Ap b _ e).1⟩;have D:∀b∈cl.map (·.2),b∉QE outer:=fun b m B=>by
  obtain⟨o,e,_⟩:=N b m;rw[g.Vb b B]at e;cases e
 refine PySem.W.kla_callFunE O.depth gf rfl S.co S.gen rfl ⟨c,oc,xs,tt,rfl,gc,V,X⟩ (R _ _ _ _ ?_);refine wpAny_newFunctionEnv S.nc (fun y n=>S.par y.1 (List.of_mem_zip n).1) (fun j Y Z=>?_) S.kind;have F:∀b o,s.heap.get? b=some o->j.get? b=some o:=fun b o e=>Z.extBut b o (Nat.ne_of_lt (Heap.lt_size e)) (Heap.get?_push_of_some _ e);refine⟨U.keeps F,?_⟩;show codeAny _ _ (.expr body (PySem.W.envX qual scope s.heap.objs.size f (.ref c) cl)) _ _;obtain⟨t,ht,hq⟩:=hB A outer s (O.deeper _);have x:∀b:Addr,b∉(cX P w K mg base (ps++fs) qual scope f (.ref c) cl A outer s (Bo (cl.map (·.2)) H)).ex:=fun b z=>absurd (show b∈([]:List Addr)from z) (by simp);have I:Inv (cX P w K mg base (ps++fs) qual scope f (.ref c) cl A outer s (Bo (cl.map (·.2)) H)) [] (vs.map some++ws.map some) (Bo (cl.map (·.2)) H) {s with heap:=j,toks:=s.toks+(ps.zip us).length}:=by
  refine⟨⟨g.mod,S.kind,rfl,rfl,Nat.le_refl _,L.inj,fun y n=>?_,fun y c z=>(nomatch z),fun _=>O.hd,Around.frames_deeper g.frames,.inr ⟨rfl,rfl⟩,fun b z=>absurd z (x b),fun b o e=>⟨(g.bs b o e).1,By (g.bs b o e).2⟩,g.Sb,fun b _ _=>x b,fun b z=>absurd z (x b),g.FK,fun b B=>By (g.Vb b B)⟩,
   rfl,g.bare,Un.kept F,⟨_,Y,fun i y v j l h3=>?_⟩,fun y c h=>?_,By (g.Ap.fresh (Nat.le_refl _)),fun y c h=>DF (List.mem_map.mpr ⟨_,PySem.mem_of_lookup h,rfl⟩),fun p hp=>absurd (show p∈([]:List (Addr×Obj))from hp) (by simp),(g.Ap.off N).kept F,?_⟩
  ·have n:scope.names.lookup y=some .cell∨scope.names.lookup y=some .free:=n;rcases n with n|n
   ·exact absurd rfl (S.nc _ (PySem.mem_of_lookup n))
   ·exact L.has y (S.af _ (PySem.mem_of_lookup n) rfl)
  ·have j:(ps++fs)[i]?=some y:=j;by_cases hi:i<ps.length
   ·rw[List.getElem?_append_left hi]at j;rw[List.getElem?_append_left (by simpa[T]using hi),List.getElem?_map]at l;cases e:vs[i]? with
    |none=>rw[e]at l;cases l
    |some a=>
     rw[e]at l;cases l;obtain⟨u,hu,G⟩:=r.get e;exact⟨u,G,.inl ⟨S.par y (rZ j),Jb S.nd j hu⟩⟩
   ·rw[List.getElem?_append_right (by lia)]at j;rw[List.getElem?_append_right (by rw[List.length_map];lia),List.getElem?_map,List.length_map,T]at l;cases e:ws[i-ps.length]? with
    |none=>rw[e]at l;cases l
    |some a=>
     rw[e]at l;cases l;obtain⟨c,o,u,e1,e2,e3,G⟩:=L.val _ _ _ j e;exact⟨u,G,.inr ⟨.inr (S.fr y (rZ j)),c,e1,o,F _ _ (g.Ap c _ e2).1,e3⟩⟩
  ·obtain⟨o,v,e,d⟩:=L.fz c (List.mem_map.mpr ⟨_,PySem.mem_of_lookup h,rfl⟩);exact⟨v,o,F _ _ (g.Ap c _ e).1,d⟩
  ·show _=(ps++fs).length;rw[List.length_append,List.length_map,List.length_map,List.length_append,T,L.len]
 refine PySem.W.kla_codeExpr (wpAny_mono (ht [] _ _ _ _ I hq) (fun u s' h=>?_) fun e s' h=>False.elim h);obtain⟨v,M,J,G,q⟩:=h;have un:Un (QE outer) [] (Bo (cl.map (·.2)) H) M s.heap s'.heap:=J.base;obtain⟨z1,z2⟩:=un.fz N D (fun b _=>by simp);exact⟨v,_,J.os,J.bare,un.on N D (fun b _=>by simp),DV.on J.Ap z2 z1,G,q z2⟩
theorem OC.ok{k:Nat}{fs:List Str}{G:Hp}{us:List V}(_:OC G f qual params body scope cl pm c ctv fs us)(S:Qb ps fs scope)(len:∀vs H Q E,sp vs H Q E->vs.length=ps.length)(d:∀vs H Q E,sp vs H Q E->∃ws,OC H f qual params body scope cl pm c ctv fs ws/\∀(A:Around) (outer:List Env) (s:Shared),BQ k (A.deeper (PySem.W.envX qual scope s.heap.objs.size f (.ref c) cl))->
   ∃t,PE (cX P w K mg base (ps++fs) qual scope f (.ref c) cl A outer s (Bo (cl.map (·.2)) H)) body t/\t (vs.map some++ws.map some) (Bo (cl.map (·.2)) H) fun v a=>(∀b∈cl.map (·.2),a b=none)->Q v (MS (cl.map (·.2)) H a)):
  Ac P w K mg base Bn (k+1) f (PySem.W.kla_fn "<lambda>" qual params body scope cl pm (.ref c) ctv) ps sp:=Yx S len d
def fO(K:rg)(H:Hp)(f:Addr):Prop:=PySem.W.keepIn K (.ref f)=true∨∃o u a,H f=some (.BP o u)/\o.data=.func a
theorem Inv.lV{X:Cx}(I:Inv X pins a H s)(h:fO X.K X.H₀ f):∃k,(k=Keeper.frame∨k=Keeper.machine∨k=Keeper.boundFrame)/\PySem.W.Looks (model X.prog X.w) s.heap (keeperOf (.ref f)) k:=by
 rcases h with h|⟨o,u,b,e,d⟩
 ·exact PySem.W.keeps_K h _ I.Dq
 ·have g:=(I.Ap f _ (I.base.DW f o u e)).1;obtain⟨c,i,j,l⟩:=o;cases d;exact⟨.frame,.inl rfl,(PySem.W.Looks.ld (part:=none) g).andThen .now⟩
section
variable{X:Cx} {CX:Sd} {k:Nat} {f:Addr} {fd:FuncData} {ps:List Str} {sp:Sp} {Ik:List V} {ds:List Value} {E:XK} {x:Str} {p pos:Pos} {e:Expr} {es:List Expr} {t:TA} {tf:TE}
theorem Ui(i:PE X (.Name x p) tf)(F:Ac X.prog X.w X.K X.mg X.base CX k f fd ps sp)(j:BQ k X.A)(l:fO X.K X.H₀ f)(m:Binds X.K fd ps ds)(n:Vals Ik ds)(o:Passes CX X E)(y:PA X (e::es) t)(B:starEach (e::es) X.env=(false,eval e X.env)::starEach es X.env:=by rfl)(c:(backTo pos (starEach es X.env)).any (·.1)=false:=by rfl):
  PE X (.Call (.Name x p) (e::es) [] pos) (fun b H Q=>tf b H fun v d=>v=.ref f/\Ke sp Ik E t b d Q):=by
 intro pins s b H Q I h;refine wpAny_Call_Name_kw (BH (i pins s b H _ I h) fun u C ⟨v,D,G,J,L,q⟩=>?_);subst L;cases(show u=Value.ref f from J);have a:=y pos pins C b D _ G q;rw[B]at a⊢;refine PySem.W.callWith_of (P:=fun h=>∃k,(k=Keeper.frame∨k=Keeper.machine∨k=Keeper.boundFrame)/\PySem.W.Looks (model X.prog X.w) h (keeperOf (.ref f)) k) (by show((false||(backTo pos (starEach es X.env)).any (·.1))||false)=false;rw[c];rfl) (fun _ z=>z) (Calls.evalArgs_plain (BH a fun N O M=>M.elim fun R d g r q=>⟨g.lV l,?_⟩));exact La F j m n o g r q
structure lW(X:Cx)(σ:St)(H F:Hp):Prop where
 cW:∀x c,X.env.cells.lookup x=some c->∃o v,F c=some (.BP o (.own 0))/\o.data=.cell v
 val:∀(i:Nat) x v c,X.N[i]?=some x->σ[i]?=some (some v)->X.env.kindOf x=some .cell->X.env.cells.lookup x=some c->∃o u,F c=some (.BP o (.own 0))/\o.data=.cell (some u)/\RelV v u
 Ai:∀x c,X.env.cells.lookup x=some c->H c=none
 inj:∀x y c,X.env.cells.lookup x=some c->X.env.cells.lookup y=some c->x=y
def DT(X:Cx):List Addr:=X.env.cells.filterMap fun p=>if X.env.cells.lookup p.1=some p.2 then some p.2 else none
theorem CM:c∈DT X↔∃x,X.env.cells.lookup x=some c:=by
 unfold DT;rw[List.mem_filterMap];constructor
 ·rintro⟨⟨x,d⟩,_,e⟩;split at e
  ·rename_i h;cases e;exact⟨x,h⟩
  ·cases e
 ·rintro⟨x,h⟩;exact⟨(x,c),PySem.mem_of_lookup h,by rw[if_pos h]⟩
def Kx(h:Heap):Hp:=fun b=>(h.get? b).map fun o=>.BP o (.own 0)
theorem Uj(F:Ac X.prog X.w X.K X.mg X.base CX k f fd ps sp)(hr:BQ k X.A)(hg:Gl X x)(hm:X.mg x=some (.ref f))(hk:PySem.W.keepIn X.K (.ref f)=true)(a:Binds X.K fd ps ds)(hd:Vals Ik ds)(g:CX=Bn)(ha:PA X (e::es) t)(y:∀x,X.fn x=true:=by intro _;rfl)(O:(x==("__debug__":Str))=false:=by decide)(he:starEach (e::es) X.env=(false,eval e X.env)::starEach es X.env:=by rfl)(P:(backTo pos (starEach es X.env)).any (·.1)=false:=by rfl):
  PE X (.Call (.Name x p) (e::es) [] pos) (fun L H Q=>t L H fun M B=>∀F,lW X L B F->sp (M++Ik) (MS (DT X) F B) (fun w H2=>Q w (Bo (DT X) H2)) fun _ _ _=>False):=by
 intro pins s L H Q I h;refine wpAny_Call_Name_kw (ID I hg hm ?_ O);refine PySem.W.callWith_K (h₀:=X.base) I.ok.mod.YC hk (BH (ha pos pins s L H _ I h) fun C n zq=>zq.elim fun M B J r q=>⟨J.Dq,?_⟩) he P;have R:Wc (DT X) (Kx n.heap) n.heap:=fun b m=>by
  obtain⟨x,g⟩:=CM.mp m;obtain⟨v,o,j,_⟩:=J.cell x b g;exact⟨o,by unfold Kx;rw[j];rfl,j⟩
 have Y:∀b∈DT X,B b=none:=fun b m=>let⟨x,g⟩:=CM.mp m;J.C_ x b g;have q:=q (Kx n.heap) ⟨fun x c S=>by
   obtain⟨v,o,j,d⟩:=J.cell x c S;exact⟨o,v,by unfold Kx;rw[j];rfl,d⟩,fun i x v c h1 h2 Z h4=>by
   obtain⟨m,hn,T⟩:=J.loc;obtain⟨u,U,l⟩:=T i x v h1 h2 (.inr (.inl Z));rcases l with⟨l,_⟩|⟨_,c',N,o,j,d⟩
   ·rw[Z]at l;cases l
   ·rw[h4]at N;cases N;exact⟨o,u,by unfold Kx;rw[j];rfl,d,U⟩,fun x c S=>J.C_ x c S,J.ok.inj⟩
 have D:∀b∈DT X,b∉QE X.stack:=fun b m a=>by
  obtain⟨x,g⟩:=CM.mp m;rcases List.mem_cons.mp (J.LU b a)with z|z
  ·exact J.XH x b g z
  ·obtain⟨_,o,j,_⟩:=J.ok.FK.mem z;exact absurd (Nat.lt_of_lt_of_le (Heap.lt_size j) (J.ok.YD x b (y x) g)) (Nat.lt_irrefl _)
 have e0:M_ X.prog X.w X.K X.mg X.base X.A X.stack n (MS (DT X) (Kx n.heap) B):=by
  have E:=J.YO;refine⟨E.frames,E.mod,fun b o a=>⟨(E.bs b o a).1,?_⟩,E.Sb,E.FK,fun b a=>by rw[Bf (fun m=>D b m a)];exact E.Vb b a,E.Ap.on Y R,E.bare⟩;rw[Bf (fun m=>?_)]
  ·exact(E.bs b o a).2
  ·obtain⟨x,g⟩:=CM.mp m;have:=J.ok.YD x b (y x) g;exact absurd (Nat.lt_of_lt_of_le (Heap.lt_size a) (Nat.le_trans J.ok.Sb this)) (Nat.lt_irrefl _)
 have r2:Vals (M++Ik) (C++ds):=r.append hd;have T:(C++ds).length=ps.length:=by rw[<-r2.length];exact F.len _ _ _ _ q
 refine wpAny_call (codeAny_mono (F.run X.A X.stack n _ ⟨C,[]⟩ (C++ds) (M++Ik) _ _ hr e0 (a n C J.Dq T) r2 q) fun r s' G=>?_);cases r with
 |error e=>subst g;exact False.elim G
 |ok fl=>
  cases fl with
  |ret u=>
   obtain⟨v,H',os,bare,un,Ap,U,q⟩:=(show CE _ _ _ _ _ _ _ _ from G);have zB:Wc (DT X) H' s'.heap:=fun b m=>by
    obtain⟨o,N,_⟩:=R b m;have e2:=un.DW b o _ (by rw[HP m];exact N);exact⟨o,e2,(Ap b _ e2).1⟩
   exact J.after ⟨v,_,os,bare,un.off Y R Ap D,Ap.off zB,U,q⟩
  |next=>exact False.elim G
  |brk=>exact False.elim G
  |cont=>exact False.elim G
end
def BM(mg:Str->Option Value)(h:Heap):Prop:=∃b a,mg "__builtins__"=some (.ref b)/\b≠builtinsNs/\h.get? b=some a/\a.cls=.type "module"/\a.dict=some builtinsNs/\a.data=.plain
inductive DU(pos:Pos)(qual:Str)(T:Addr)(H:Hp):Prop
 |new (h:H T=some (.IC #[]))
 |old (c:Addr) (a:Obj) (xs:Array Value) (t:Tok) (h:H T=some (.IC #[rawInt pos.line,rawInt pos.col,.ref c])) (b:H c=some (.BP a (.own 0))) (d:a.data=.fields xs) (n:xs[1]?=some (.str qual t))
theorem DU.up{pos:Pos}{T:Addr}{a:Hp}(h:DU pos qual T H)(s:AG H a):DU pos qual T a:=by
 cases h with
 |new h=>exact .new (s _ _ h)
 |old c b e t h f d n=>exact .old c b e t (s _ _ h) (s _ _ f) d n
inductive bL(T:Addr)(pos:Pos)(qual:Str)(params:Arguments)(body:Expr)(scope:Scope)(cl:List (Str×Addr))(H:Hp)(Q:VK):Prop
 |mk(e:DU pos qual T H)(g:∀(f c:Addr) (pm ctv:Value) (a:Hp),(∀b o,b≠T->H b=some o->a b=some o)->H f=none->DU pos qual T a->a f=some (.BP (PySem.W.kla_obj "<lambda>" qual params body scope cl pm c ctv) (.own 0))->(∃d u xs t,a c=some (.BP d u)/\d.data=.fields xs/\xs[1]?=some (.str qual t))->Q (.ref f) a)
def fP(T:Addr)(pos:Pos)(qual:Str)(params:Arguments)(body:Expr)(scope:Scope)(cl:List (Str×Addr)):TE:=fun _ H Q=>bL T pos qual params body scope cl H Q
theorem Yy{X:Cx}{T:Addr}{pos:Pos}(j:X.env.code=.ref c)(hC:PySem.W.codeHdIn X.K c T=true)(hB:BM X.mg X.base)(x:closureFor scope X.env=pure cl)(y:defaultsOf params X.env=([],[])):
  PE X (.Lambda params body scope pos) (fP T pos (X.env.qual++"<lambda>") params body scope cl):=by
 intro pins s σ H Q I ⟨x0,x1⟩;refine PySem.W.kla_eval y ?_;have hT:∃U,H T=some (.IC U):=by
  cases x0 with
  |new h=>exact⟨_,h⟩
  |old c m A t h V d n=>exact⟨_,h⟩
 have C:=PySem.W.codeHd_of_K I.Dq hC;have g:=I.mod.glob.keeps I.bk;have nT:∀b o,X.base.get? b=some o->b≠T:=fun b o e z=>by
  obtain⟨U,N⟩:=hT;rw[<-z,(I.bs b o e).2]at N;cases N
 have gT:mainGlobals≠T:=by
  obtain⟨o,es,ep,e,_⟩:=I.mod.glob;exact nT _ _ e
 have hb:s.heap.BuiltinsAt X.mg T:=by
  obtain⟨bm,ob,b1,b2,O,b4,b5,Y⟩:=hB;refine⟨bm,ob,b1,b2,fun z=>?_,nT _ _ O,I.bk _ _ O,b4,b5,Y⟩;obtain⟨o,es,ep,e,d,_⟩:=I.mod.glob;rw[z,e]at O;cases O;rw[d]at Y;cases Y
 cases x0 with
 |new h=>
  have Z:s.heap.get? T=some (PySem.W.tabObj #[]):=I.Ap T _ h;refine PySem.W.kla_makeFunction (mg:=X.mg) x I.ok.glob g j C Z trivial rfl gT hb fun a f i tk hx p B D E=>?_;obtain⟨c₂,m,vs,t,N,F,hd,hv⟩:=D;cases N;have G:s.heap.objs.size<=i.objs.size:=Nat.le_trans p (Nat.le_of_lt B);have nc:H a=none:=I.Ap.fresh p;have nf:H i.objs.size=none:=I.Ap.fresh G;have cT:a≠T:=fun z=>by rw[z,h]at nc;cases nc
  have fT:i.objs.size≠T:=fun z=>by rw[z,h]at nf;cases nf
  have fc:i.objs.size≠a:=Nat.ne_of_gt B;generalize v:upd (upd (upd H T (.IC (#[]++ #[rawInt pos.line,rawInt pos.col,.ref a]))) a (.BP m (.own 0))) i.objs.size (.BP (PySem.W.kla_obj "<lambda>" (X.env.qual++"<lambda>") params body scope cl ((X.mg "__name__").getD .none) a f) (.own 0))=k;have DK:∀b o,b≠T->H b=some o->k b=some o:=fun b o n e=>by
   rw[<-v,AH (AV e nf),AH (AV e nc),AH n];exact e
  have atT:k T=some (.IC (#[]++ #[rawInt pos.line,rawInt pos.col,.ref a])):=by rw[<-v,AH fT.symm,AH cT.symm,AB]
  have q:k a=some (.BP m (.own 0)):=by rw[<-v,AH fc.symm,AB]
  have J:k i.objs.size=some (.BP (PySem.W.kla_obj "<lambda>" (X.env.qual++"<lambda>") params body scope cl ((X.mg "__name__").getD .none) a f) (.own 0)):=by rw[<-v,AB]
  have EF:∀b,b<s.heap.objs.size->H b=none->k b=none:=fun b l e=>by
   rw[<-v,AH (Nat.ne_of_lt (Nat.lt_of_lt_of_le l G)),AH (Nat.ne_of_lt (Nat.lt_of_lt_of_le l p)),AH (fun z=>by rw[z,h]at e;cases e)];exact e
  have lX:∀b o,k b=some o->(b≠T/\b≠a/\b≠i.objs.size/\H b=some o)∨b=T∨b=a∨b=i.objs.size:=fun b o e=>by
   by_cases L:b=T
   ·exact .inr (.inl L)
   by_cases P:b=a
   ·exact .inr (.inr (.inl P))
   by_cases R:b=i.objs.size
   ·exact .inr (.inr (.inr R))
   rw[<-v,AH R,AH P,AH L]at e;exact .inl ⟨L,P,R,e⟩
  have keep:∀b o,b≠T->s.heap.get? b=some o->(i.push (PySem.W.kla_obj "<lambda>" (X.env.qual++"<lambda>") params body scope cl ((X.mg "__name__").getD .none) a f)).get? b=some o:=fun b o n e=>Heap.get?_push_of_some _ (hx b o n e);have un:Un X.fs [] H k s.heap (i.push (PySem.W.kla_obj "<lambda>" (X.env.qual++"<lambda>") params body scope cl ((X.mg "__name__").getD .none) a f)):=
   ⟨fun b o e n _ _=>keep b o (fun z=>by rw[z,h]at n;cases n) e,fun b o e n _ _=>⟨o.slots,keep b o (fun z=>by rw[z,h]at n;cases n) e⟩,fun b o e n _=>EF b (Heap.lt_size e) n,fun b o e _=>by
    by_cases z:b=T
    ·exact⟨_,by rw[z];exact Heap.get?_push_of_some _ E⟩
    ·exact⟨o,keep b o z e⟩,fun b A e=>DK b _ (fun z=>by rw[z,h]at e;cases e) e,fun b o u e=>DK b _ (fun z=>by rw[z,h]at e;cases e) e,fun b U e=>by
    by_cases z:b=T
    ·subst z;rw[h]at e;cases e;exact⟨_,atT⟩
    ·exact⟨#[],by rw[DK b _ z e];simp⟩⟩
  have Ap:DV X.prog X.w k (i.push (PySem.W.kla_obj "<lambda>" (X.env.qual++"<lambda>") params body scope cl ((X.mg "__name__").getD .none) a f)):=fun b o e=>by
   rcases lX b o e with⟨L,P,R,e1⟩|rfl|rfl|rfl
   ·refine(I.Ap b o e1).KC (fun d u hd2 r=>keep d u (fun z=>?_) r) (fun d r=>DK d _ (fun z=>by rw[z,h]at r;cases r) r) fun d A r=>DK d _ (fun z=>by rw[z,h]at r;cases r) r;rcases hd2 with w|w
    ·exact L (w▸z)
    ·rw[z,h]at w;cases w
   ·rw[atT]at e;cases e;exact Heap.get?_push_of_some _ E
   ·rw[q]at e;cases e;exact⟨Heap.get?_push_of_some _ F,_,Heap.get?_push_of_some _ F⟩
   ·rw[J]at e;cases e;exact⟨Heap.get?_push_size _ rfl,_,Heap.get?_push_size _ rfl⟩
  refine⟨.ref i.objs.size,k,I.un (t':=tk) un Ap,rfl,x1 _ a _ f k DK nf (.old a m vs t ?_ q hd hv) J ⟨m,_,vs,t,q,hd,hv⟩⟩;rw[atT];simp
 |old a m A t h V d n=>
  have Z:s.heap.get? T=some (PySem.W.tabObj #[rawInt pos.line,rawInt pos.col,.ref a]):=I.Ap T _ h;refine PySem.W.kla_makeFunctionHit (mg:=X.mg) (cv:=.ref a) x I.ok.glob g j C Z trivial (by simp[codeAmong,rawInt]) hb fun f i tk hk M=>?_;have nf:H i.objs.size=none:=I.Ap.fresh M;refine⟨.ref i.objs.size,upd H i.objs.size (.BP (PySem.W.kla_obj "<lambda>" (X.env.qual++"<lambda>") params body scope cl ((X.mg "__name__").getD .none) a f) (.own 0)),?_,rfl,?_⟩
  ·exact I.laid (t':=tk) (fun b o e=>Heap.get?_push_of_some _ (hk b o e)) M ⟨Heap.get?_push_size _ rfl,_,Heap.get?_push_size _ rfl⟩
  ·have S:=AG.new (o:=.BP (PySem.W.kla_obj "<lambda>" (X.env.qual++"<lambda>") params body scope cl ((X.mg "__name__").getD .none) a f) (.own 0)) nf;exact x1 _ a _ f _ (fun b o _ e=>S _ _ e) nf (.old a m A t (S _ _ h) (S _ _ V) d n) AB ⟨m,_,A,t,S _ _ V,d,n⟩
structure Yz(D:Pt->Prop)(root:Pt)(n:Nat)(l:List Pt)(bM:List (List Pt)):Prop where
 len:bM.length=n
 eq:l=root::bM.flatten
 kids:∀(j:Nat) a ks,l[j]?=some a->bM[j]?=some ks->D_ a.hold ks
 ok:∀a∈l,D a
 pos:∀j,j<n->j<=(bM.take j).flatten.length
theorem Uk{D:Pt->Prop}{root:Pt}(d:D root)(We:∀t us,D t->D_ t.hold us->∀u∈us,D u):∀{n:Nat}{l:List Pt}{c:List (List Pt)},Pn root n l c->Yz D root n l c
 |_,_,_,.start=>⟨rfl,rfl,fun j a ks _ h=>by simp at h,fun x i=>by rw[List.mem_singleton.mp i];exact d,fun j h=>by lia⟩
 |_,_,_,.next (n:=n) (l:=l) (t:=t) (us:=us) b m k=>by
  obtain⟨o,p,v,q,w⟩:=Uk d We b;have r:=(rX m).1;refine⟨by simp[o],by rw[p];simp,fun j x s g f=>?_,fun x i=>?_,fun j y=>?_⟩
  ·by_cases y:j<n
   ·rw[List.getElem?_append_left (by lia)]at g f;exact v j x s g f
   ·have:=(rX f).1;rw[List.length_append,List.length_singleton]at this;have e:j=n:=by lia
    subst e;rw[List.getElem?_append_left r,m]at g;rw[List.getElem?_append_right (by lia),o,Nat.sub_self]at f;cases g;have:us=s:=by simpa using f
    subst this;exact k
  ·rcases List.mem_append.mp i with h|h
   ·exact q x h
   ·exact We t us (q t (rZ m)) k x h
  ·by_cases h:j<n
   ·rw[List.take_append_of_le_length (by lia)];exact w j h
   ·have e:j=n:=by lia
    subst e;rw[List.take_append_of_le_length (by lia),List.take_of_length_le (by lia)];rw[p,List.length_cons]at r;lia
theorem Yz.at_{D:Pt->Prop}{root:Pt}{a:List (List Pt)}(b:Yz D root l.length l a){j:Nat}{ks:List Pt}(c:a[j]?=some ks):j<1+(a.take j).flatten.length/\(l.drop (1+(a.take j).flatten.length)).take ks.length=ks/\1+(a.take (j+1)).flatten.length=1+(a.take j).flatten.length+ks.length/\1+(a.take j).flatten.length+ks.length<=l.length:=by
 have d:=(rX c).1;have f:a=a.take j++ks::a.drop (j+1):=by
  have:a.drop j=ks::a.drop (j+1):=by
   rw[List.drop_eq_getElem_cons d];rw[rW d]at c;rw[rY c]
  rw[<-this,List.take_append_drop]
 have e:l=root::((a.take j).flatten++(ks++(a.drop (j+1)).flatten)):=by
  have:=b.eq;rw[f]at this;rw[this];simp
 have g:a.take (j+1)=a.take j++[ks]:=by rw[List.take_add_one,c];rfl
 refine⟨?_,?_,?_,?_⟩
 ·have:=b.pos j (by rw[<-b.len];exact d);lia
 ·have:l.drop (1+(a.take j).flatten.length)=ks++(a.drop (j+1)).flatten:=by
   rw[show 1+(a.take j).flatten.length=(a.take j).flatten.length+1 by lia]
   conv=>lhs;rw[e]
   rw[List.drop_succ_cons,List.drop_left]
  rw[this,List.take_left'];rfl
 ·rw[g];simp;lia
 ·rw[e];simp;lia
section
variable{K:rg} [Bb K] {R:Pt->Pt->Prop}
noncomputable def IT:HO->Bool
 | .lst _| .tup _| .dK _=>true
 |_=>false
mutual
theorem Val.Rx{H c:Hp}(s:∀a u,IT u=true->Rd H a u->Rd c a u):∀{v:V}{t:Pt},Val H v t->Val c v t
 |_,_,.int i=>.int i
 |_,_,.str x=>.str x
 |_,_,.bl b=>.bl b
 |_,_,.Ai=>.Ai
 |_,_,.lst h r=>.lst (s _ _ rfl h) (r.Rx s)
 |_,_,.tup h r=>.tup (h.imp (s _ _ rfl) id) (r.Rx s)
 |_,_,.BI h d r=>.BI (s _ _ rfl h) d (r.Rx s)
theorem AQ.Rx{H b:Hp}(s:∀a u,IT u=true->Rd H a u->Rd b a u):∀{vs:List V}{ts:List Pt},AQ H vs ts->AQ b vs ts
 |_,_,.nil=>.nil
 |_,_,.cons h r=>.cons (h.Rx s) (r.Rx s)
end
theorem Ry(z:∀b∈Z,∃o,H b=some (.BP o (.own 0)))(a:Addr)(u:HO)(n:IT u=true)(h:Rd H a u):Rd (Bo Z H) a u:=by
 have c:a∉Z:=fun m=>by
  obtain⟨o,e⟩:=z a m;rcases h with h|⟨d,h⟩<;>rw[e]at h<;>cases h<;>cases n
 unfold Rd;rw[Ag c];exact h
end
namespace Ak
mutual
theorem FV:∀(a b:Ak),a.pt=b.pt->a=b
 |any,b,h=>by cases b<;>simp[pt]at h⊢
 |BC d,b,h=>by cases b<;>simp[pt]at h⊢;exact h
 |row xs m,b,h=>by
  cases b<;>simp[pt]at h⊢;exact⟨MT _ _ h.1,h.2⟩
 |tab ks xs ls m,b,h=>by
  cases b<;>simp[pt]at h⊢;obtain⟨⟨c,f⟩,g,h4⟩:=h;refine⟨c,MT _ _ f,?_,h4⟩;exact(List.map_inj_right fun a b e=>by injection e).mp g
theorem MT:∀(a b:List Ak),Gd a=Gd b->a=b
 |[],b,h=>by cases b<;>simp[Gd]at h⊢
 |x::r,b,h=>by
  cases b<;>simp[Gd]at h⊢;exact⟨FV _ _ h.1,MT _ _ h.2⟩
end
def Vd(t:Pt):Prop:=∃a:Ak,t=a.pt/\a.Ct/\a.wt<=900
theorem Vd.jC(h:Vd t):∃n,n<=20000/\Ms n t:=by
 obtain⟨a,rfl,o,w⟩:=h;have:=a.MQ;exact⟨a.size,by lia,a.nd o (by lia)⟩
theorem Vd.We(h:Vd t)(k:D_ t.hold us):∀u∈us,Vd u:=by
 obtain⟨a,rfl,o,w⟩:=h;obtain⟨e,b,rfl⟩:=OA o k;intro u d;obtain⟨x,c,rfl⟩:=List.mem_map.mp d;have:=b.wt o x c;exact⟨x,rfl,b.ok o x c,by lia⟩
end Ak
section
variable{prog:Program} {w:World} {A:Around} {E:Value->Shared->Prop} {s:Shared}
end
section
variable{prog:Program} {w:World} {A:Around} {R:Result->Shared->Prop}
end
section
variable{prog:Program} {w:World} {A:Around} {E:Value->Shared->Prop} {s:Shared}
end
section
variable{prog:Program} {w:World} {A:Around} {E:Value->Shared->Prop} {s:Shared}
end
section
variable{prog:Program} {w:World} {A:Around} {E:Value->Shared->Prop} {s:Shared}
end
section
variable{prog:Program} {w:World} {A:Around} {E:Value->Shared->Prop} {s:Shared}
end
section
variable{prog:Program} {w:World} {A:Around} {E:Value->Shared->Prop} {s:Shared}
end
section
variable{prog:Program} {w:World} {A:Around} {E:Value->Shared->Prop} {s:Shared}
end
section
variable{prog:Program} {w:World} {A:Around} {E:Value->Shared->Prop} {s:Shared}
end
section
variable{X:Cx}
end
open PySem.AutoSeq1 (wpAny_loadPart')
open PySem.MeetsSeq3
variable{e:Nat->Bool}{u:Value}
section
variable{prog:Program} {w:World} {A:Around} {s:Shared}
def Ve(prog:Program)(w:World)(A:Around)(s:Shared)(u v:Value)(b:Bool):Prop:=∀(E:Value->Shared->Prop)(Q:Bool->Shared->Prop),Q b s->wpAny (model prog w) A (eqBool u v) Q E s
def Zp(prog:Program)(w:World)(A:Around)(s:Shared)(u v:Value)(b:Bool):Prop:=∀(E:Value->Shared->Prop)(Q:Value->Shared->Prop),Q (.bool b) s->wpAny (model prog w) A (richCompare .Eq u v) Q E s
theorem Ve.of{v:Value}{b:Bool}(h:SeqAt.EqAt A s u v b):Ve prog w A s u v b:=fun E Q a=>h prog w E Q a
theorem Zp.of{v:Value}{b:Bool}(h:SeqAt.RcAt A s u v b):Zp prog w A s u v b:=fun E Q a=>h prog w E Q a
theorem Ve.by{u v:Value}{b:Bool}(g:u=v->b=true)(nf:(∃i t,u=.int i t)∨(∃x t,u=.str x t)∨(∃c,u=.bool c)∨∃a,u=.ref a)(h:Zp prog w A s u v b):Ve prog w A s u v b:=fun E Q f=>by
 by_cases e:u=v
 ·have:=g e;subst e this;exact SeqAt.EqAt.same _ prog w E Q f
 ·unfold eqBool;refine wpAny_holding (wpAny_ite_split (fun d=>absurd (eq_of_beq d) e) (fun _=>?_));rcases nf with⟨i,t,rfl⟩|⟨x,t,rfl⟩|⟨c,rfl⟩|⟨a,rfl⟩<;>exact wpAny_bind (h E _ (wpAny_truthy_bool f))
theorem Ul{l:Addr}{items a:Array Value}{D:Nat}{E t:Option Addr}{F u:Array (Option Value)}(hsz:items.size=a.size)(hl:s.heap.get? l=some {cls:=.type "list",dict:=E,data:=.seq items n,slots:=F})(q:s.heap.get? b=some {cls:=.type "list",dict:=t,data:=.seq a D,slots:=u})(G:∀j (N:j<items.size) (O:j<a.size),Ve prog w A.in1 s items[j] a[j] (e j)){R:Result->Shared->Prop}{r:Bool}(B:r=true↔∀j,j<items.size->e j=true)(C:R (.ok (.ret (.bool r))) s):
  ∀k i:Nat,items.size-i=k->i<=items.size->(∀j,j<i->e j=true)->codeAny (model prog w) A (.builtin "list.__eq__.loop" ⟨[.ref l,.ref b,rawInt i,rawInt 2],[]⟩) R s:=by
 obtain⟨P,g,d,Q,os⟩:=s;intro k
 induction k with
 |zero=>
  intro i H I c;have J:i=items.size:=by lia
  have v:r=true:=B.mpr fun j K=>c j (by lia);subst v;refine codeAny_builtin entry_eq_loop ?_;rw[Around.under_plainId plain_eq_loop _];wp_walk using wpAny_loadPart' hl,wpAny_loadPart' q;have f:items[((i:Nat):Int).toNat]?=none:=by simp;lia
  have h:a[((i:Nat):Int).toNat]?=none:=by simp;lia
  rw[f,h];wp_walk using wpAny_loadPart' hl,wpAny_loadPart' q;show R (.ok (.ret (.bool (items.size==a.size)))) _;rw[hsz];simpa using C
 |succ k L=>
  intro i H I c;refine codeAny_builtin entry_eq_loop ?_;rw[Around.under_plainId plain_eq_loop _];wp_walk using wpAny_loadPart' hl,wpAny_loadPart' q;have m:i<items.size:=by lia
  have o:i<a.size:=by lia
  have f:items[((i:Nat):Int).toNat]?=some items[i]:=by simp[m]
  have h:a[((i:Nat):Int).toNat]?=some a[i]:=by simp[o]
  have M:((i:Int)+1)=((i+1:Nat):Int):=by push_cast;rfl
  rw[f,h];refine wpAny_bind (G i m o _ _ ?_);cases p:e i with
  |true=>
   wp_walk;rw[M];refine⟨plainId_quiet plain_eq_loop _,L (i+1) (by lia) m fun j K=>?_⟩;rcases Nat.lt_or_ge j i with z|z
   ·exact c j z
   ·rw[show j=i by lia];exact p
  |false=>
   have x:r=false:=by
    cases y:r with
    |false=>rfl
    |true=>have:=B.mp y i m;rw[p]at this;cases this
   subst x;wp_walk using wpAny_loadPart' hl,wpAny_loadPart' q;rw[f,h];wp_walk;exact C
theorem Um{l:Addr}{items a:Array Value}(hl:s.heap.IsList l items)(q:s.heap.IsList b a)(hsz:items.size=a.size)(t:A.units<cLine)(u:∀j (G:j<items.size) (H:j<a.size),Ve prog w A.in1 s items[j] a[j] (e j)){r:Bool}(v:r=true↔∀j,j<items.size->e j=true):Zp prog w A s (.ref l) (.ref b) r:=fun E Q h=>by
 obtain⟨⟨y,I,data,J⟩,k,m,n,o⟩:=id hl;obtain⟨⟨p,z,data2,B⟩,c,f,K,i⟩:=id q;simp only at m o f i;subst m o f i;refine wpAny_richCompare_same_room (op:=.Eq) ⟨_,k,rfl⟩ ⟨_,c,rfl⟩ F.slot_list_eq (call_one F.slot_list_eq ⟨_,k,rfl⟩ F.entry_list_eq (F.args_list_eq_2 _ _) ?_) t;obtain⟨L,g,d,M,os⟩:=s;have N:=AutoSeq1.sub_list_list;have C:¬(items.size !=a.size)=true:=by simp[hsz]
 wp_walk using wpAny_loadPart' k,wpAny_loadPart' c;exact⟨plainId_quiet plain_eq_loop _,Ul hsz k c u v (show(Value.bool r≠Value.notImplemented)/\Q (.bool r) _ from⟨(fun x=>nomatch x),h⟩) _ 0 rfl (Nat.zero_le _) fun j D=>absurd D (Nat.not_lt_zero _)⟩
theorem Uo{Y:Type}[DecidableEq Y]{knd:PySem.KeyKind prog w Y}{a:Addr}{t y:List (Y×Value)}(ha:(a==sysModules)=false)(hb:(b==sysModules)=false)(W:s.heap.DictOf knd a t)(Z:s.heap.DictOf knd b y)(hu:A.units<cLine)(he:t.length=y.length->∀(j:Nat) k u,t[j]?=some (k,u)->(valueAt y k=none/\e j=false)∨∃v,valueAt y k=some v/\Ve prog w A.in1 s u v (e j)){r:Bool}(hr:r=true↔(t.length=y.length/\∀j,j<t.length->e j=true)):Zp prog w A s (.ref a) (.ref b) r:=fun E Q h=>by
 refine wpAny_richCompare_same_room (op:=.Eq) W.typeIs Z.typeIs PySem.F.slot_dict_eq (wpAny_call_entry PySem.F.slot_dict_eq W.typeIs PySem.F.entry_dict_eq ?_ (PySem.F.args_dict_eq_2 _ _)) hu;show wpAny _ _ (Builtin.Dict.dictSlotArgs "__eq__" ⟨[.ref a,.ref b],[]⟩>>=_) _ _ s;refine wpAny_bind ?_;unfold Builtin.Dict.dictSlotArgs;refine wpAny_bind (wpAny_notOrdered_dict W.typeIs ?_);show wpAny _ _ (pure (Value.ref a,Value.ref b)) _ _ s;refine wpAny_pure ?_;refine wpAny_bind (wpAny_isInstance (T:="dict") Z.typeIs PySem.F.sub_dict_dict ?_);simp only[Bool.not_true,Bool.false_eq_true,if_false];refine wpAny_bind (wpAny_pure (wpAny_bind (wpAny_pure ?_)));obtain⟨oa,g,ep,B,_,C,Wf,P,qe⟩:=W;obtain⟨ob,m,qf,D,_,G,R,J,qg⟩:=Z;have K:t.length=g.size:=by rw[<-P.length];exact Array.length_toList
 have L:y.length=m.size:=by rw[<-J.length];exact Array.length_toList
 refine wpAny_bind ?_;unfold Builtin.Dict.samePairs Builtin.Dict.showsAll;rw[if_neg (show¬(a==sysModules)=true by rw[ha];exact Bool.false_ne_true),if_neg (show¬(b==sysModules)=true by rw[hb];exact Bool.false_ne_true)];refine wpAny_bind (wpAny_pure (wpAny_bind (wpAny_pure ?_)));refine wpAny_bind (wpAny_dictEntries B C ?_);dsimp only;refine wpAny_bind (wpAny_dictEntries D G ?_);have fin:∀c:Bool,c=r->∃v,Fin.done (Flow.ret (Value.bool (c==true)))=.done (.ret v)/\v≠.notImplemented/\Q v s:=fun c hc=>by
  subst hc;refine⟨_,rfl,(fun x=>nomatch x),?_⟩;cases c<;>exact h
 by_cases S:t.length=y.length
 ·rw[if_neg (by rw[<-K,<-L,S];simp)];refine wpAny_bind (wpAny_dictEpoch B C ?_);refine wpAny_bind ?_;rw[Std.Legacy.Range.forIn_eq_forIn_range'];simp only[Std.Legacy.Range.size,Nat.sub_zero,Nat.add_sub_cancel,Nat.div_one];refine wpAny_forIn_list _ (fun rest q s'=>s'=s/\q=(none,())/\∃i,rest=List.range' i (g.size-i)/\i<=g.size/\∀j,j<i->e j=true) _ ?_ ?_ _ _ ⟨rfl,rfl,0,by simp,Nat.zero_le _,fun j M=>absurd M (Nat.not_lt_zero _)⟩
  ·rintro x rest q s' ⟨rfl,rfl,i,f,hi,n⟩;have o:i<g.size:=by
    rcases Nat.lt_or_ge i g.size with h|h
    ·exact h
    ·rw[Nat.sub_eq_zero_of_le h]at f;simp at f
   obtain⟨rfl,N⟩:x=i/\rest=List.range' (i+1) (g.size-(i+1)):=by
    have e:g.size-i=(g.size-(i+1))+1:=by lia
    rw[e,List.range'_succ]at f;injection f with h1 h2;exact⟨h1,h2⟩
   have H:x<t.length:=by rw[K];exact o
   obtain⟨k,u,lY⟩:∃k u,t[x]=(k,u):=⟨_,_,rfl⟩;have gk:t[x]?=some (k,u):=by rw[rW H,lY]
   have hh:=he S x k u gk;refine wpAny_bind (wpAny_dictEntries B C ?_);rw[Array.getElem?_eq_getElem o];obtain⟨I,U⟩:=P.get? (i:=x) (e:=g[x]) (k:=k) (v:=u) (by rw[Array.getElem?_toList];exact Array.getElem?_eq_getElem o) gk;obtain⟨k2,bN,V⟩:=Wf g[x] (Array.getElem_mem o);have lZ:k2=k:=knd.inj _ _ _ bN I;rw[lZ]at V;show wpAny _ _ (holding [g[x].key,g[x].val] _>>=_) _ _ _;rw[V];refine wpAny_bind (wpAny_holding (wpAny_bind (wpAny_dictFind_of I D G R ?_)));have d:findBy knd.is m k=valueAt y k:=by
    rw[<-J.find k];clear L J R G D;obtain⟨l⟩:=m;simp[findBy]
   have rf:e x=false->false=r:=fun O=>by
    cases f:r with
    |false=>rfl
    |true=>have:=(hr.mp f).2 x H;rw[O]at this;cases this
   cases M:m.findIdx? fun e=>knd.is k e.key with
   |none=>
    rw[findBy_of_findIdx?,M]at d;have hn:valueAt y k=none:=d.symm;rcases hh with⟨_,O⟩|⟨v,X,_⟩
    ·refine wpAny_pure ?_;show wpAny _ _ (if(!false)=true then _ else _) _ _ _;rw[if_pos (by decide)];exact wpAny_pure (wpAny_pure (wpAny_pure (fin false (rf O))))
    ·rw[hn]at X;cases X
   |some j=>
    obtain⟨p,_,_⟩:=Array.findIdx?_eq_some_iff_getElem.mp M;rw[findBy_of_findIdx?,M]at d;rcases hh with⟨hn,_⟩|⟨v,X,hq⟩
    ·rw[hn]at d;simp[Array.getElem?_eq_getElem p]at d
    have lh:m[j].val=v:=by
     rw[X]at d;simpa[Array.getElem?_eq_getElem p]using d
    refine wpAny_bind (wpAny_dictEntries D G ?_);rw[Array.getElem?_eq_getElem p];refine wpAny_holding ?_;rw[lh,U];refine hq _ _ ?_;cases O:e x with
    |true=>
     show wpAny _ _ (if(!true)=true then _ else _) _ _ _;rw[if_neg (by decide)];refine wpAny_bind (wpAny_dictEpoch B C ?_);rw[if_neg (by simp)];refine wpAny_pure ⟨rfl,rfl,x+1,N,o,fun j M=>?_⟩;rcases Nat.lt_or_ge j x with z|z
     ·exact n j z
     ·rw[show j=x by lia];exact O
    |false=>
     show wpAny _ _ (if(!false)=true then _ else _) _ _ _;rw[if_pos (by decide)];exact wpAny_pure (wpAny_pure (wpAny_pure (fin false (rf O))))
  ·rintro q s' ⟨rfl,rfl,i,f,hi,n⟩;have qh:i=g.size:=by
    rcases Nat.lt_or_ge i g.size with h|h
    ·have e:g.size-i=(g.size-(i+1))+1:=by lia
     rw[e,List.range'_succ]at f;cases f
    ·lia
   exact wpAny_pure (wpAny_pure (fin true (hr.mpr ⟨S,fun j M=>n j (by lia)⟩).symm))
 ·rw[if_pos (by rw[<-K,<-L];simpa using S)];have ly:false=r:=by
   cases f:r with
   |false=>rfl
   |true=>exact absurd (hr.mp f).1 S
  exact wpAny_bind (wpAny_rule (wpAny_pure (wpAny_pure (fin false ly))))
end
namespace Pt
theorem Rz{y k:Str}{r:List Str}{z:Pt}{a:List Pt}:look (y::r) (z::a) k=if k=y then some z else look r a k:=Cw
theorem GC{ls:List Str}{ys:List Pt}:∀{ks:List Str}{xs:List Pt},Ro ks xs ls ys=true↔∀(j:Nat) k x,ks[j]?=some k->xs[j]?=some x->∃y,look ls ys k=some y/\CJ x y=true
 |[],xs=>by simp[Ro]
 |_::_,[]=>by simp[Ro]
 |k::ks,x::xs=>by
  simp only[Ro,Bool.and_eq_true,GC (ks:=ks) (xs:=xs)];constructor
  ·intro⟨a,d⟩ j e f b c;cases j with
   |zero=>
    simp at b c;subst b c;cases g:look ls ys k with
    |none=>rw[g]at a;cases a
    |some y=>rw[g]at a;exact⟨y,rfl,a⟩
   |succ j=>exact d j e f (by simpa using b) (by simpa using c)
  ·intro h;refine⟨?_,fun j e f b c=>h (j+1) e f (by simpa using b) (by simpa using c)⟩;obtain⟨y,a,d⟩:=h 0 k x rfl rfl;rw[a];exact d
theorem Qc:∀{ks:List Str}{xs:List Pt}{j:Nat}{k:Str}{x:Pt},ks.Nodup->ks[j]?=some k->xs[j]?=some x->look ks xs k=some x
 |[],_,_,_,_=>fun _ h _=>by simp at h
 |_::_,[],_,_,_=>fun _ _ h=>by simp at h
 |y::ks,z::g,j,k,x=>fun nd b c=>by
  obtain⟨d,f⟩:=List.nodup_cons.mp nd;rw[Rz];cases j with
  |zero=>simp at b c;rw[if_pos b.symm,c]
  |succ j=>
   have a:ks[j]?=some k:=by simpa using b
   rw[if_neg (fun e=>d (by rw[<-e];exact rZ a))];exact Qc f a (by simpa using c)
mutual
def OD:Pt->Prop
 |int _|str _|bl _|Ai=>True
 |lst xs|tup xs=>KX xs
 |BI ks xs=>ks.Nodup/\KX xs
def KX:List Pt->Prop
 |[]=>True
 |x::r=>OD x/\KX r
end
mutual
theorem Up:∀t:Pt,t.nice->t.OD
 |int _,_=>trivial
 |str _,_=>trivial
 |bl _,_=>trivial
 |Ai,_=>trivial
 |lst xs,d=>by simp only[nice]at d;exact IU xs d.2
 |tup xs,d=>by simp only[nice]at d;exact IU xs d.2
 |BI ks xs,d=>by simp only[nice]at d;exact⟨d.2.1,IU xs d.2.2.2⟩
theorem IU:∀xs:List Pt,Cu xs->KX xs
 |[],_=>trivial
 |x::r,d=>by simp only[Cu]at d;exact⟨Up x d.1,IU r d.2⟩
end
mutual
theorem Qd:∀t:Pt,t.doc->t.OD
 |int _,_=>trivial
 |str _,_=>trivial
 |bl _,_=>trivial
 |Ai,_=>trivial
 |tup _,d=>by simp[doc]at d
 |lst xs,d=>by simp only[doc]at d;exact Po xs d
 |BI ks xs,d=>by simp only[doc]at d;exact⟨d.2.1,Po xs d.2.2.2.2⟩
theorem Po:∀xs:List Pt,Bl xs->KX xs
 |[],_=>trivial
 |x::r,d=>by simp only[Bl]at d;exact⟨Qd x d.1,Po r d.2⟩
end
mutual
theorem GD:∀t:Pt,t.OD->CJ t t=true
 |int _,_=>by simp[CJ]
 |str _,_=>by simp[CJ]
 |bl _,_=>by simp[CJ]
 |Ai,_=>by simp[CJ]
 |lst xs,d=>by simp only[OD]at d;simp only[CJ];exact Ep xs d
 |tup xs,d=>by simp only[OD]at d;simp only[CJ];exact Ep xs d
 |BI ks xs,d=>by
  simp only[OD]at d;simp only[CJ,beq_self_eq_true,Bool.true_and];refine GC.mpr fun j k x b a=>⟨x,Qc d.1 b a,?_⟩;have:=Ep xs d.2;exact Qe xs this j x a
theorem Ep:∀xs:List Pt,KX xs->EX xs xs=true
 |[],_=>by simp[EX]
 |x::r,d=>by simp only[KX]at d;simp only[EX,Bool.and_eq_true];exact⟨GD x d.1,Ep r d.2⟩
theorem Qe:∀xs:List Pt,EX xs xs=true->∀(j:Nat) x,xs[j]?=some x->CJ x x=true
 |[],_,j,x,h=>by simp at h
 |y::r,h,0,x,a=>by
  simp only[EX,Bool.and_eq_true]at h;simp at a;subst a;exact h.1
 |y::r,h,j+1,x,a=>by
  simp only[EX,Bool.and_eq_true]at h;exact Qe r h.2 j x (by simpa using a)
end
end Pt
variable{ts:List Pt}{ks:List Str}{x:Pt}
section
variable{K:rg} [Bb K]
theorem Rd.one{a:Addr}{u v:HO}(h:Rd H a u)(h':Rd H a v)(b:∀o z,u≠.BP o z)(c:∀o z,v≠.BP o z):u=v:=by
 rcases h with h|⟨o,h⟩<;>rcases h' with h'|⟨d,h'⟩<;>rw[h]at h'
 ·exact rY h'
 ·exact absurd (rY h') (b _ _)
 ·exact absurd (rY h').symm (c _ _)
 ·have:=rY h';injection this
theorem MU:∀{ks ls:List Str},ks.map (Sum.inr:Str->Key)=ls.map Sum.inr->ks=ls
 |[],[],_=>rfl
 |[],_::_,h=>by simp at h
 |_::_,[],h=>by simp at h
 |k::ks,l::ls,h=>by
  simp only[List.map_cons,List.cons.injEq]at h;rw[Sum.inr.inj h.1,MU h.2]
mutual
theorem Val.one{H:Hp}:∀(s:Pt){v:V}{t:Pt},Val H v s->Val H v t->s.doc->t.doc->s=t
 | .int _=>fun h g _ _=>by cases h;cases g;rfl
 | .str _=>fun h g _ _=>by cases h;cases g;rfl
 | .bl _=>fun _ _ d _=>by simp[Pt.doc]at d
 | .Ai=>fun _ _ d _=>by simp[Pt.doc]at d
 | .tup _=>fun _ _ d _=>by simp[Pt.doc]at d
 | .lst ts=>fun g h d d'=>by
  cases g with
  |lst b c=>
   cases h with
   |lst a f=>
    cases Rd.one b a (fun o z e=>by cases e) (fun o z e=>by cases e);simp only[Pt.doc]at d d';rw[AQ.one ts c f d d']
   |tup _ _=>simp[Pt.doc]at d'
   |BI a _ _=>cases Rd.one b a (fun o z e=>by cases e) (fun o z e=>by cases e)
 | .BI ks ts=>fun g h d d'=>by
  cases g with
  |BI b j c=>
   cases h with
   |BI a i f=>
    cases Rd.one b a (fun o z e=>by cases e) (fun o z e=>by cases e);simp only[Pt.doc]at d d';rw[AQ.one ts c f d.2.2.2.2 d'.2.2.2.2];congr 1;rw[j]at i;exact MU i
   |tup _ _=>simp[Pt.doc]at d'
   |lst a _=>cases Rd.one b a (fun o z e=>by cases e) (fun o z e=>by cases e)
theorem AQ.one{H:Hp}:∀(ss:List Pt){vs:List V}{ts:List Pt},AQ H vs ss->AQ H vs ts->Pt.Bl ss->Pt.Bl ts->ss=ts
 |[]=>fun g h _ _=>by cases g;cases h;rfl
 |s::ss=>fun g h' d d'=>by
  cases g with
  |cons h r=>
   cases h' with
   |cons g q=>
    simp only[Pt.Bl]at d d';rw[Val.one s h g d.1 d'.1,AQ.one ss r q d.2 d'.2]
end
def cY(s t:Pt):Prop:=(s.doc/\t.doc)∨Pt.CJ s t=true
def Ky(ls:List Str)(ts:List Pt)(k:Str)(x:Pt):Bool:=match Pt.look ls ts k with
 |some y=>Pt.CJ x y
 |none=>false
theorem FW{ls:List Str}{k:Str}{y:Pt}(h:Pt.look ls ts k=some y):Ky ls ts k x=Pt.CJ x y:=by unfold Ky;rw[h]
theorem Jc{ls:List Str}{k:Str}(h:Pt.look ls ts k=none):Ky ls ts k x=false:=by unfold Ky;rw[h]
def Y_(ks:List Str)(ps:List Pt)(ls:List Str)(ts:List Pt)(j:Nat):Bool:=match ks[j]?,ps[j]? with
 |some k,some x=>Ky ls ts k x
 |_,_=>false
theorem MV{ls:List Str}{ps:List Pt}{j:Nat}{k:Str}(a:ks[j]?=some k)(b:ps[j]?=some x):Y_ ks ps ls ts j=Ky ls ts k x:=by unfold Y_;rw[a,b]
theorem G_{xs:List Pt}(l:xs.length=ys.length):Pt.EX xs ys=true↔∀j,j<xs.length->pairE xs ys j=true:=by
 rw[<-JR l,List.all_eq_true];exact⟨fun h j a=>h j (List.mem_range.mpr a),fun h j a=>h j (List.mem_range.mp a)⟩
end
section
variable{X:Cx} [Bb X.K] {pins:List (Addr×Obj)} {σ:St} {H:Hp} {s:Shared}
theorem Wg{x:V}(h:Val H x t)(d:t≠.Ai)(r:RelV x u):(∃i t,u=.int i t)∨(∃x t,u=.str x t)∨(∃c,u=.bool c)∨∃a,u=.ref a:=by
 cases h with
 |int i=>exact .inl ⟨i,r⟩
 |str x=>exact .inr (.inl ⟨x,r⟩)
 |bl b=>exact .inr (.inr (.inl ⟨b,r⟩))
 |Ai=>exact absurd rfl d
 |@lst a _ _ _ _=>exact .inr (.inr (.inr ⟨a,r⟩))
 |@tup a _ _ _ _=>exact .inr (.inr (.inr ⟨a,r⟩))
 |@BI a _ _ _ _ _ _=>exact .inr (.inr (.inr ⟨a,r⟩))
theorem jD(I:Inv X pins σ H s){p:Pt}(ih:∀p':Pt,p'.deep<p.deep->∀t',cY p' t'->∀{x y:V},Val H x p'->Val H y t'->∀{A:Around} {u v:Value},A.units+p'.deep<cLine->RelV x u->RelV y v->Ve X.prog X.w A s u v (Pt.CJ p' t'))(nb:∀b,p≠.bl b)(c:cY p t){x y:V}(hx:Val H x p)(hy:Val H y t){A:Around}{v:Value}(hu:A.units+p.deep<cLine)(ru:RelV x u)(m:RelV y v):Zp X.prog X.w A s u v (Pt.CJ p t):=by
 have f:A.units<cLine:=by lia
 cases hx with
 |int i=>
  obtain⟨t1,rfl⟩:∃t,u=Value.int i t:=ru;cases hy with
  |int j=>obtain⟨t2,rfl⟩:∃t,v=Value.int j t:=m;simp only[Pt.CJ];exact .of (SeqAt.RcAt.int_int i t1 j t2)
  |str z=>obtain⟨t2,rfl⟩:∃t,v=Value.str z t:=m;simp only[Pt.CJ];exact .of (SeqAt.RcAt.int_str i t1 z t2)
  |bl b=>rcases c with⟨_,d⟩|c;(·simp[Pt.doc]at d);simp[Pt.CJ]at c
  |Ai=>rcases c with⟨_,d⟩|c;(·simp[Pt.doc]at d);simp[Pt.CJ]at c
  |tup _ _=>rcases c with⟨_,d⟩|c;(·simp[Pt.doc]at d);simp[Pt.CJ]at c
  |@lst b M o q B=>
   cases(show v=Value.ref b from m);obtain⟨C,Q,N,_⟩:=I.list (.inl q);simp only[Pt.CJ];exact .of (SeqAt.RcAt.int_list i t1 N.isList f)
  |@BI b kvs O o q R B=>
   cases(show v=Value.ref b from m);obtain⟨_,Z,es,n,sl,F,_⟩:=Gu I q;simp only[Pt.CJ];exact .of (Nj i t1 F f)
 |str x0=>
  obtain⟨t1,rfl⟩:∃t,u=Value.str x0 t:=ru;cases hy with
  |int j=>obtain⟨t2,rfl⟩:∃t,v=Value.int j t:=m;simp only[Pt.CJ];exact .of (SeqAt.RcAt.str_int x0 t1 j t2)
  |str z=>obtain⟨t2,rfl⟩:∃t,v=Value.str z t:=m;simp only[Pt.CJ];exact .of (SeqAt.RcAt.str_str x0 t1 z t2)
  |bl b=>rcases c with⟨_,d⟩|c;(·simp[Pt.doc]at d);simp[Pt.CJ]at c
  |Ai=>rcases c with⟨_,d⟩|c;(·simp[Pt.doc]at d);simp[Pt.CJ]at c
  |tup _ _=>rcases c with⟨_,d⟩|c;(·simp[Pt.doc]at d);simp[Pt.CJ]at c
  |@lst b M o q B=>
   cases(show v=Value.ref b from m);obtain⟨C,Q,N,_⟩:=I.list (.inl q);simp only[Pt.CJ];exact .of (SeqAt.RcAt.str_list x0 t1 N.isList f)
  |@BI b kvs O o q R B=>
   cases(show v=Value.ref b from m);obtain⟨_,Z,es,n,sl,F,_⟩:=Gu I q;simp only[Pt.CJ];exact .of (Nl x0 t1 F f)
 |bl b=>exact absurd rfl (nb b)
 |Ai=>
  cases(show u=Value.none from ru);have c:Pt.CJ .Ai t=true:=by
   rcases c with⟨d,_⟩|c
   ·simp[Pt.doc]at d
   ·exact c
  cases hy with
  |Ai=>cases(show v=Value.none from m);simp only[Pt.CJ];exact .of SeqAt.RcAt.none_none
  |_=>simp[Pt.CJ]at c
 |@lst a l_ r S T=>
  cases(show u=Value.ref a from ru);obtain⟨fQ,r0,p0,_⟩:=I.list (.inl S);have e0:fQ.toArray.size=r.length:=by rw[List.size_toArray,<-r0.length,T.length]
  simp only[Pt.deep]at hu;cases hy with
  |int j=>obtain⟨t2,rfl⟩:∃t,v=Value.int j t:=m;simp only[Pt.CJ];exact .of (SeqAt.RcAt.list_int j t2 p0.isList f)
  |str z=>obtain⟨t2,rfl⟩:∃t,v=Value.str z t:=m;simp only[Pt.CJ];exact .of (SeqAt.RcAt.list_str z t2 p0.isList f)
  |bl b=>rcases c with⟨_,d⟩|c;(·simp[Pt.doc]at d);simp[Pt.CJ]at c
  |Ai=>rcases c with⟨_,d⟩|c;(·simp[Pt.doc]at d);simp[Pt.CJ]at c
  |tup _ _=>rcases c with⟨_,d⟩|c;(·simp[Pt.doc]at d);simp[Pt.CJ]at c
  |@BI b kvs O o q R B=>
   cases(show v=Value.ref b from m);obtain⟨_,Z,es,n,sl,F,_⟩:=Gu I q;simp only[Pt.CJ];exact .of (MB p0.isList F f)
  |@lst b M o q B=>
   cases(show v=Value.ref b from m);obtain⟨C,Q,N,_⟩:=I.list (.inl q);have e1:C.toArray.size=o.length:=by rw[List.size_toArray,<-Q.length,B.length]
   simp only[Pt.CJ];by_cases l:r.length=o.length
   ·refine Um p0.isList N.isList (by rw[e0,e1,l]) f (e:=pairE r o) (fun j E h2=>?_) (by rw[e0];exact G_ l);obtain⟨v1,t1,g1,G,J,D⟩:=T.at r0 E;obtain⟨v2,t2,g3,g4,L,fS⟩:=B.at Q h2;have e:pairE r o j=Pt.CJ t1 t2:=by simp[pairE,G,g4]
    rw[e];have dl:=Pt.Ad (rZ G);refine ih t1 (by simp only[Pt.deep];lia) t2 ?_ J L (by show A.units+1+_<cLine;lia) D fS;rcases c with⟨d,d'⟩|c
    ·simp only[Pt.doc]at d d';exact .inl ⟨Pt.Aw d _ (rZ G),Pt.Aw d' _ (rZ g4)⟩
    ·simp only[Pt.CJ]at c;exact .inr (by rw[<-e];exact(G_ l).mp c j (by rw[<-e0];exact E))
   ·rw[Fy l];exact .of (SeqAt.RcAt.lists_lengths p0.isList N.isList (by rw[e0,e1];simpa using l) f)
 |@tup a l_ r S T=>
  cases(show u=Value.ref a from ru);have U:Pt.CJ (.tup r) t=true:=by
   rcases c with⟨d,_⟩|c
   ·simp[Pt.doc]at d
   ·exact c
  simp only[Pt.deep]at hu;cases hy with
  |@tup b M o q B=>
   cases(show v=Value.ref b from m);simp only[Pt.CJ]at U⊢;have l:r.length=o.length:=by
    rcases Nat.lt_trichotomy r.length o.length with z|z|z
    ·rw[Fy (by lia)]at U;cases U
    ·exact z
    ·rw[Fy (by lia)]at U;cases U
   obtain⟨C,Q,N,_⟩:=I.tuple S;obtain⟨fU,r2,p2,_⟩:=I.tuple q;have e1:C.toArray.size=r.length:=by rw[List.size_toArray,<-Q.length,T.length]
   have e2:fU.toArray.size=o.length:=by rw[List.size_toArray,<-r2.length,B.length]
   rw[U];refine Rm N p2 (by rw[e1,e2,l]) f fun j E h2=>?_;obtain⟨v1,t1,g1,G,J,D⟩:=T.at Q E;obtain⟨v2,t2,g3,g4,L,fS⟩:=B.at r2 h2;have e:pairE r o j=Pt.CJ t1 t2:=by simp[pairE,G,g4]
   have et:Pt.CJ t1 t2=true:=by rw[<-e];exact(G_ l).mp U j (by rw[<-e1];exact E)
   have dl:=Pt.Ad (rZ G);have:=ih t1 (by simp only[Pt.deep];lia) t2 (.inr et) J L (A:=A.in1) (by show A.units+1+_<cLine;lia) D fS;rw[et]at this;exact this
  |_=>simp[Pt.CJ]at U
 |@BI a kvs O r S Wf T=>
  cases(show u=Value.ref a from ru);simp only[Pt.deep]at hu;cases hy with
  |int j=>obtain⟨t2,rfl⟩:∃t,v=Value.int j t:=m;obtain⟨_,Z,es,n,sl,F,_⟩:=Gu I S;simp only[Pt.CJ];exact .of (Nk j t2 F f)
  |str z=>obtain⟨t2,rfl⟩:∃t,v=Value.str z t:=m;obtain⟨_,Z,es,n,sl,F,_⟩:=Gu I S;simp only[Pt.CJ];exact .of (Nm z t2 F f)
  |bl b=>rcases c with⟨_,d⟩|c;(·simp[Pt.doc]at d);simp[Pt.CJ]at c
  |Ai=>rcases c with⟨_,d⟩|c;(·simp[Pt.doc]at d);simp[Pt.CJ]at c
  |tup _ _=>rcases c with⟨_,d⟩|c;(·simp[Pt.doc]at d);simp[Pt.CJ]at c
  |@lst b M o q B=>
   cases(show v=Value.ref b from m);obtain⟨_,Z,es,n,sl,F,_⟩:=Gu I S;obtain⟨C,Q,N,_⟩:=I.list (.inl q);simp only[Pt.CJ];exact .of (MC N.isList F f)
  |@BI b Zj ls o q Zq B=>
   cases(show v=Value.ref b from m);obtain⟨z,hm,M,rel,Z⟩:=DL I.Ap S;obtain⟨z',mB,fW,W,mD⟩:=DL I.Ap q;have k1:M.map (·.1)=O.map Sum.inr:=by rw[<-Wf];exact(KV.keys rel).symm
   have l1:M.length=O.length:=by have:=congrArg List.length k1;simpa using this
   have l2:fW.length=ls.length:=by
    rw[<-W.length];have:=congrArg List.length Zq;simpa using this
   have lp:O.length=r.length:=by
    have E:=T.length;rw[List.length_map]at E;have h2:=congrArg List.length Wf;simp at h2;lia
   refine Uo hm mB Z mD f (e:=Y_ O r ls o) (fun ll j k u g=>?_) ?_
   ·have hj:j<M.length:=(rX g).1;have gv:(M.map (·.2))[j]?=some u:=by rw[List.getElem?_map,g];rfl
    have E:j<(M.map (·.2)).toArray.size:=by rw[List.size_toArray];exact(rX gv).1
    obtain⟨v1,t1,g1,G,J,D⟩:=T.at (WR rel) E;rw[UJ gv E]at D;obtain⟨Y,fX⟩:∃Y,O[j]?=some Y:=⟨_,rW (by lia)⟩;have ek:k=Sum.inr Y:=by
     have:=congrArg (fun z=>z[j]?) k1;simp only[List.getElem?_map,g,fX]at this;simpa using this
    subst ek;rw[MV fX G];have m:=W.val (Sum.inr Y);rcases Val.Fw Zq B Y with⟨w1,t2,q1,q2,L⟩|⟨q1,q2⟩
    ·rw[q1]at m;rw[FW q2];cases P:valueAt fW (Sum.inr Y)with
     |none=>rw[P]at m;exact m.elim
     |some u2=>
      rw[P]at m;have dl:=Pt.Ad (rZ G);refine .inr ⟨u2,rfl,ih t1 (by simp only[Pt.deep];lia) t2 ?_ J L (by show A.units+1+_<cLine;lia) D m⟩;rcases c with⟨d,d'⟩|c
      ·simp only[Pt.doc]at d d';exact .inl ⟨Pt.Aw d.2.2.2.2 _ (rZ G),Pt.Aw d'.2.2.2.2 _ (Pt.UP q2).2⟩
      ·simp only[Pt.CJ,Bool.and_eq_true]at c;obtain⟨y,y1,y2⟩:=Pt.GC.mp c.2 j Y t1 fX G;rw[q2]at y1;cases y1;exact .inr y2
    ·rw[q1]at m;rw[Jc q2];cases P:valueAt fW (Sum.inr Y)with
     |some u2=>rw[P]at m;exact m.elim
     |none=>exact .inl ⟨rfl,rfl⟩
   ·simp only[Pt.CJ,Bool.and_eq_true,beq_iff_eq,Pt.GC];rw[l1,l2];refine and_congr_right fun ll=>⟨fun h j hj=>?_,fun h j k x R hx=>?_⟩
    ·obtain⟨k,R⟩:∃k,O[j]?=some k:=⟨_,rW hj⟩;obtain⟨x,hx⟩:∃x,r[j]?=some x:=⟨_,rW (by lia)⟩;obtain⟨y,E,h2⟩:=h j k x R hx;rw[MV R hx,FW E];exact h2
    ·have:=h j (rX R).1;rw[MV R hx]at this;cases hl:Pt.look ls o k with
     |none=>rw[Jc hl]at this;cases this
     |some y=>rw[FW hl]at this;exact⟨y,rfl,this⟩
theorem Xj(I:Inv X pins σ H s):∀(n:Nat)(p:Pt),p.deep<=n->∀t,cY p t->∀{x y:V},Val H x p->Val H y t->∀{A:Around}{u v:Value},A.units+p.deep<cLine->RelV x u->RelV y v->Ve X.prog X.w A s u v (Pt.CJ p t)
 |0,p,h=>by have:=Pt.CG p;lia
 |n+1,p,h=>fun t c x y a g A u v m f i=>by
  by_cases k:∃b,p=.bl b
  ·obtain⟨b,rfl⟩:=k;rcases c with⟨d,_⟩|c
   ·simp[Pt.doc]at d
   ·cases t with
    |bl o=>
     have e:b=o:=by simpa[Pt.CJ]using c
     subst e;cases a;cases g;cases(show u=Value.bool b from f);cases(show v=Value.bool b from i);rw[c];exact .of (SeqAt.EqAt.same _)
    |_=>simp[Pt.CJ]at c
  ·by_cases l:p=.Ai
   ·subst l;rcases c with⟨d,_⟩|c
    ·simp[Pt.doc]at d
    ·cases t with
     |Ai=>
      cases a;cases g;cases(show u=Value.none from f);cases(show v=Value.none from i);rw[c];exact .of (SeqAt.EqAt.same _)
     |_=>simp[Pt.CJ]at c
   refine Ve.by (fun e=>?_) (Wg a l f) (jD I (fun q B=>Xj I n q (by lia)) (fun b z=>k ⟨b,z⟩) c a g m f i)
   rcases c with⟨d,r⟩|c
   ·subst e;have j:x=y:=f.inj i;subst j;have:=Val.one p a g d r;subst this;exact Pt.GD p (Pt.Qd p d)
   ·exact c
end
inductive Y'{K:rg}[Bb K](x y:V)(H:Hp)(Q:VK):Prop
 |mk(p t:Pt)(a:Val H x p)(e:Val H y t)(f:∀b,p≠.bl b)(c:cY p t)(d:p.deep<=60)(q:Q (.bl (Pt.CJ p t)) H)
section
variable{X:Cx}
theorem Uq(j:X.A.units+64<cLine):ET X (compareOp .Eq) (@Y' X.K ⟨trivial⟩):=by
 haveI:Bb X.K:=⟨trivial⟩;intro pins s k H x y v u Q I a b h;obtain⟨p,t,e,f,g,c,d,q⟩:=h;exact jD I (fun i _=>Xj I _ i (Nat.le_refl _)) g c e f (A:=X.A) (by lia) a b _ _ ⟨.bl _,H,I,rfl,q⟩
end
open PySem.AutoSeq1 (wpAny_loadPart')
open PySem.MeetsSeq3
section
variable{prog:Program} {w:World} {A:Around} {s:Shared}
end
section
variable{X:Cx}
end
variable{xs:List Ak}{m:Bool}
namespace Ak
theorem Qf{c l:Nat} :cnt c l m=true↔c=l∨(m=true/\l<c):=by simp[cnt]
theorem Kz:∀{xs:List Ak}{ys:List Pt},EY xs ys=true↔∀(j:Nat) x y,xs[j]?=some x->ys[j]?=some y->lets x y=true
 |[],_=>by simp[EY]
 |_::_,[]=>by simp[EY]
 |x::xs,y::ys=>by
  simp only[EY,Bool.and_eq_true,Kz (xs:=xs) (ys:=ys)];constructor
  ·intro⟨e,f⟩ j c d a b;cases j with
   |zero=>simp at a b;subst a b;exact e
   |succ j=>exact f j c d (by simpa using a) (by simpa using b)
  ·exact fun h=>⟨h 0 x y rfl rfl,fun j c d a b=>h (j+1) c d (by simpa using a) (by simpa using b)⟩
theorem R_{b:List Str}(l:ks.length=xs.length)(nd:ks.Nodup):JV ks xs b ys=true↔∀k x,lk ks xs k=some x->∃y,lk b ys k=some y/\lets x y=true:=by
 rw[FU,MG _ l nd,List.all_eq_true];constructor
 ·intro h k x a;have:=h k (MD a).1;rw[a]at this;cases c:lk b ys k with
  |none=>rw[c]at this;cases this
  |some y=>rw[c]at this;exact⟨y,rfl,this⟩
 ·intro h k a;obtain⟨x,d⟩:=ME l a;obtain⟨y,e,f⟩:=h k x d;rw[d,e];exact f
theorem MW{ls a:List Str}(l:ks.length=xs.length)(nd:ks.Nodup):lets (.tab ks xs ls m) (.BI a ys)=true↔(∀k∈ks,k∈a)/\(∀k∈ls,k∉a)/\(a.length=ks.length∨(m=true/\ks.length<a.length))/\∀k x,lk ks xs k=some x->∃y,lk a ys k=some y/\lets x y=true:=by
 simp only[lets,Bool.and_eq_true,R_ l nd,Qf,List.all_eq_true,decide_eq_true_eq,Bool.not_eq_true',List.any_eq_false];constructor
 ·intro⟨⟨⟨b,c⟩,d⟩,e⟩;exact⟨b,c,d,e⟩
 ·intro⟨b,c,d,e⟩;exact⟨⟨⟨b,c⟩,d⟩,e⟩
theorem MX:lets (.row xs m) (.lst ys)=true↔(ys.length=xs.length∨(m=true/\xs.length<ys.length))/\∀(j:Nat) x y,xs[j]?=some x->ys[j]?=some y->lets x y=true:=by
 simp only[lets,Bool.and_eq_true,Kz,Qf]
end Ak
namespace Ak
mutual
inductive Pp:Ak->Ak->Prop
 |any:Pp .any .any
 |BC (d:Pt):Pp (.BC d) (.BC d)
 |mE {c:List Pt} {a:List Ak} (h:Jd (c.map BC) a):Pp (.BC (.lst c)) (.row a false)
 |mG {ks b ls:List Str} {c g:List Pt} {a:List Ak} (pm:b.Perm ks) (e:b.map (lk ks c)=g.map some) (h:Jd (g.map BC) a) (lz:b.length<60) (i:ls.length<=100) (j:∀l∈ls,l∉b):Pp (.BC (.BI ks c)) (.tab b a ls false)
 |row {xs a:List Ak} {m:Bool} (h:Jd xs a):Pp (.row xs m) (.row a m)
 |tab {ks b ls f:List Str} {xs as a:List Ak} {m:Bool} (pm:b.Perm ks) (e:b.map (lk ks xs)=as.map some) (h:Jd as a) (i:f.length<=100) (j:∀l∈f,l∉b) (hl:m=true->f=ls):Pp (.tab ks xs ls m) (.tab b a f m)
inductive Jd:List Ak->List Ak->Prop
 |nil:Jd [] []
 |cons {x y:Ak} {xs ys:List Ak} (h:Pp x y) (r:Jd xs ys):Jd (x::xs) (y::ys)
end
end Ak
variable{K:rg} [Bb K]
def GG(n:Nat):Sp:=fun c H Q _=>∃(v y:V)(a:Ak)(t:Pt),c=[v,y]/\Val H v a.pt/\Val H y t/\a.Ct/\t.doc/\a.size<=900/\t.size<=900/\a.dp<=60/\a.deep<=n/\∀b,AG H b->Q (.bl (Ak.lets a t)) b
end L2
namespace L2
open PySem PySem.Spec PyProof.Rows
def HQ(H c:Hp):Hp:=fun b=>match H b with
 |some _=>c b
 |none=>match c b with
  |some (.BP o (.own a))=>some (.BP o (.own a))
  |some (.BP _ u)=>some u
  |x=>x
variable{H:Hp}{b:Addr}
theorem IV{a:Hp}{o:HO}(h:H b=some o):HQ H a b=a b:=by unfold HQ;rw[h]
variable{o:Obj}{u:HO}
theorem Wh{c:Hp}(h:H b=none)(h':c b=some (.BP o u))(n:∀a,u≠.own a):HQ H c b=some u:=by
 unfold HQ;rw[h,h'];cases u<;>first|rfl|exact absurd rfl (n _)
variable{a:Addr}
theorem Wi{c:Hp}(h':c b=some (.BP o (.own a))):HQ H c b=some (.BP o (.own a)):=by
 unfold HQ;rw[h'];cases H b<;>rfl
theorem GH{a:Hp}(h':a b=none):HQ H a b=none:=by
 unfold HQ;rw[h'];cases H b<;>rfl
theorem Je{a:Hp}(h':a b=some u)(n:∀o z,u≠.BP o z):HQ H a b=some u:=by
 unfold HQ;rw[h'];cases H b with
 |some _=>rfl
 |none=>
  cases u<;>first|rfl|exact absurd rfl (n _ _)
def KF(K:rg)(H:Hp):Prop:=∀b o,K.lookup b=some o->H b=none
variable{e:Expr}
section
variable{X:Cx} {pins Xk:List (Addr×Obj)} {σ σ':St} {H H':Hp} {s s':Shared}
theorem Inv.fY(I:Inv X pins σ H s)(a:Inv X Xk σ' H' s'):Inv X Xk σ' (HQ H H') s':=by
 have B:=a.base;refine⟨a.ok,a.os,a.bare,⟨B.keep,B.slot,fun b d q n h=>GH (B.free b d q n h),B.there,fun b f q=>Je (B.FI b f q) (fun _ _ z=>by cases z),fun b d u q=>?_,fun b i q=>?_⟩,a.loc,a.cell,GH a.free,fun x c q=>GH (a.C_ x c q),fun p j=>let⟨k,l,m⟩:=a.pin p j;⟨k,GH l,m⟩,fun b u q=>?_,a.len⟩
 ·rw[IV (I.base.DW b d u q)];exact B.DW b d u q
 ·obtain⟨more,t⟩:=B.FJ b i q;exact⟨more,Je t (fun _ _ z=>by cases z)⟩
 ·have up:∀{v:HO},Aj X.prog X.w H' s'.heap b v->Aj X.prog X.w (HQ H H') s'.heap b v:=fun x=>x.KC (fun c v _ r=>r) (fun c r=>Je r (fun _ _ z=>by cases z)) fun c f r=>Je r (fun _ _ z=>by cases z);unfold HQ at q;cases g:H b with
  |some o=>
   rw[g]at q;exact up (a.Ap b u q)
  |none=>
   rw[g]at q;dsimp only at q;split at q
   ·rename_i e
    cases q;exact up (a.Ap b _ e)
   ·rename_i e
    cases q;exact up (show Aj X.prog X.w H' s'.heap b (.BP _ u)from a.Ap b _ e).2
   ·exact up (a.Ap b u q)
theorem Inv.kf(I:Inv X pins σ H s):KF X.K H:=fun b o e=>(I.bs b o (I.mod.YC b o e)).2
def fZ(K:rg)(t:TE):TE:=fun σ H Q=>t σ H fun v H'=>KF K (HQ H H')->Q v (HQ H H')
theorem ZA{t:TE}(h:PE X e t):PE X e (fZ X.K t):=fun pins s σ H Q I q=>
 BH (h pins s σ H _ I q) fun u d ⟨v,f,a,b,c⟩=>have J:=I.fY a;⟨v,_,J,b,c J.kf⟩
end
variable{G:Hp}{t:Pt}
section
variable{K:rg} [Bb K]
theorem Bm.one{K:rg}{G:Hp}(kf:KF K G){a:Addr}{xs ys:List V}(h:Bm K G a xs)(h':Bm K G a ys):xs=ys:=by
 rcases h with h|⟨o,f,n,e,_,g,_,r⟩<;>rcases h' with h'|⟨j,d,k,c,_,b,_,i⟩
 ·have z:=Rd.one h h' (fun o z e=>by cases e) (fun o z e=>by cases e);cases z;rfl
 ·have:=kf _ _ c;rcases h with r|⟨_,r⟩<;>rw[r]at this<;>cases this
 ·have:=kf _ _ e;rcases h' with r|⟨_,r⟩<;>rw[r]at this<;>cases this
 ·rw[e]at c;cases c;rw[g]at b;cases b;exact r.inj i
theorem Rd.ne(kf:KF K G)(h:Rd G a u)(e:K.lookup a=Option.some o):False:=by
 have:=kf _ _ e;rcases h with r|⟨_,r⟩<;>rw[r]at this<;>cases this
theorem Bm.lst{G:Hp}(kf:KF K G){a:Addr}{xs ys:List V}(h:Bm K G a xs)(h':Rd G a (.lst ys)):False:=by
 rcases h with h|⟨o,_,_,e,_⟩
 ·cases Rd.one h h' (fun o z e=>by cases e) (fun o z e=>by cases e)
 ·exact h'.ne kf e
theorem Bm.dK{G:Hp}(kf:KF K G){a:Addr}{xs:List V}{ys:List (Key×V)}(h:Bm K G a xs)(h':Rd G a (.dK ys)):False:=by
 rcases h with h|⟨o,_,_,e,_⟩
 ·cases Rd.one h h' (fun o z e=>by cases e) (fun o z e=>by cases e)
 ·exact h'.ne kf e
theorem Val.ZC(h:Val G (.ref a) t):(∃vs ts,t=.lst ts/\Rd G a (.lst vs)/\AQ G vs ts)∨(∃vs ts,t=.tup ts/\Bm K G a vs/\AQ G vs ts)∨∃(kvs:List (Key×V))(ks:List Str)(ts:List Pt),t=.BI ks ts/\Rd G a (.dK kvs)/\kvs.map (·.1)=ks.map Sum.inr/\AQ G (kvs.map (·.2)) ts:=by
 cases h with
 |lst h r=>exact .inl ⟨_,_,rfl,h,r⟩
 |tup h r=>exact .inr (.inl ⟨_,_,rfl,h,r⟩)
 |BI h b r=>exact .inr (.inr ⟨_,_,_,rfl,h,b,r⟩)
mutual
theorem Val.Jf{G:Hp}(kf:KF K G):∀{v:V}{s:Pt},Val G v s->∀{t:Pt},Val G v t->s=t
 |_,_,.int i,_,h=>by cases h;rfl
 |_,_,.str x,_,h=>by cases h;rfl
 |_,_,.bl x,_,h=>by cases h;rfl
 |_,_,.Ai,_,h=>by cases h;rfl
 |_,_,.lst b d,_,h=>by
  rcases h.ZC with⟨_,_,rfl,a,c⟩|⟨_,_,rfl,a,c⟩|⟨_,_,_,rfl,a,f,c⟩
  ·cases Rd.one b a (fun o z e=>by cases e) (fun o z e=>by cases e);rw[AQ.Jf kf d c]
  ·exact(a.lst kf b).elim
  ·cases Rd.one b a (fun o z e=>by cases e) (fun o z e=>by cases e)
 |_,_,.tup b d,_,h=>by
  rcases h.ZC with⟨_,_,rfl,a,c⟩|⟨_,_,rfl,a,c⟩|⟨_,_,_,rfl,a,f,c⟩
  ·exact(b.lst kf a).elim
  ·cases Bm.one kf b a;rw[AQ.Jf kf d c]
  ·exact(b.dK kf a).elim
 |_,_,.BI b g d,_,h=>by
  rcases h.ZC with⟨_,_,rfl,a,c⟩|⟨_,_,rfl,a,c⟩|⟨_,_,_,rfl,a,f,c⟩
  ·cases Rd.one b a (fun o z e=>by cases e) (fun o z e=>by cases e)
  ·exact(a.dK kf b).elim
  ·cases Rd.one b a (fun o z e=>by cases e) (fun o z e=>by cases e);rw[AQ.Jf kf d c,MU (g.symm.trans f)]
theorem AQ.Jf{G:Hp}(kf:KF K G):∀{vs:List V}{ss:List Pt},AQ G vs ss->∀{ts:List Pt},AQ G vs ts->ss=ts
 |_,_,.nil,_,h=>by cases h;rfl
 |_,_,.cons h r,_,h'=>by
  cases h' with
  |cons g q=>rw[Val.Jf kf h g,AQ.Jf kf r q]
end
theorem Val.ZD(kf:KF K G)(s:Pt){v:V}(h:Val G v s)(h':Val G v t):s=t:=Val.Jf kf h h'
end
variable{i:Nat}
namespace Pt
mutual
noncomputable def IA:Pt->Nat
 |int _|str _|bl _|Ai=>0
 |lst xs=>1+BD xs
 |tup xs=>BD xs
 |BI _ xs=>BD xs
noncomputable def BD:List Pt->Nat
 |[]=>0
 |x::r=>IA x+BD r
end
mutual
theorem K_:∀t:Pt,t.IA<=t.size
 |int _|str _|bl _|Ai=>by simp only[IA];lia
 |lst xs|tup xs|BI _ xs=>by have:=FX xs;simp only[IA,size];lia
theorem FX:∀xs:List Pt,BD xs<=AI xs
 |[]=>Nat.le_refl _
 |x::r=>by have:=K_ x;have:=FX r;simp only[BD,AI];lia
end
mutual
noncomputable def EK:Pt->Nat
 |int _|str _|bl _|Ai=>0
 |lst xs|tup xs=>1+EZ xs
 |BI _ xs=>1+EZ xs
noncomputable def EZ:List Pt->Nat
 |[]=>0
 |x::r=>max (EK x) (EZ r)
end
theorem OE:∀{xs:List Pt}{x:Pt},x∈xs->x.EK<=EZ xs
 |y::r,x,h=>by
  simp only[EZ];rcases List.mem_cons.mp h with rfl|h
  ·lia
  ·have:=OE h;lia
mutual
theorem OF:∀t:Pt,t.EK<=t.deep
 |int _|str _|bl _|Ai=>by simp only[EK];lia
 |lst xs|tup xs|BI _ xs=>by have:=K' xs;simp only[EK,deep];lia
theorem K':∀xs:List Pt,EZ xs<=AS xs
 |[]=>Nat.le_refl _
 |x::r=>by have:=OF x;have:=K' r;simp only[EZ,AS];lia
end
theorem GK:∀(a b:List Pt),BD (a++b)=BD a+BD b
 |[],b=>by simp[BD]
 |x::a,b=>by simp only[List.cons_append,BD,GK a b];lia
theorem DH:∀(xs:List Pt)(i:Nat),BD (xs.take i)<=BD xs
 |[],i=>by simp
 |x::r,0=>by simp[BD]
 |x::r,i+1=>by have:=DH r i;simp only[List.take_succ_cons,BD];lia
theorem FY{xs:List Pt}{x:Pt}(h:xs[i]?=some x):BD (xs.take (i+1))=BD (xs.take i)+x.IA:=by
 rw[List.take_add_one,h,GK];simp[BD]
end Pt
def R':Key:=Sum.inr "zzzzzzzz"
structure Wd(kvs ZE:List (Key×V)):Prop where
 at_:∀(i:Nat) k v,ZE[i]?=some (k,v)->kvs[i]?=some (k,v)∨v=.int 77
 keys:ZE.map (·.1)=kvs.map (·.1)∨(R'∉kvs.map (·.1)/\ZE.map (·.1)=kvs.map (·.1)++[R'])
theorem Wd.refl(kvs:List (Key×V)):Wd kvs kvs:=⟨fun _ _ _ h=>.inl h,.inl rfl⟩
theorem Wd.nd{kvs c:List (Key×V)}(h:Wd kvs c)(nd:(kvs.map (·.1)).Nodup):(c.map (·.1)).Nodup:=by
 rcases h.keys with e|⟨n,e⟩
 ·rw[e];exact nd
 ·rw[e];refine List.nodup_append.mpr ⟨nd,by simp,fun a f b d z=>?_⟩;rw[List.mem_singleton]at d;subst d;subst z;exact n f
theorem Wd.len{kvs a:List (Key×V)}(h:Wd kvs a):a.length<=kvs.length+1:=by
 rcases h.keys with e|⟨n,e⟩
 ·have:=congrArg List.length e;simp at this;lia
 ·have:=congrArg List.length e;simp at this;lia
theorem Wd.put{kvs a:List (Key×V)}(h:Wd kvs a):Wd kvs (putK a R' (.int 77)):=by
 unfold putK;by_cases c:(a.any fun d=>decide (d.1=R'))=true
 ·rw[if_pos c];refine⟨fun i k v e=>?_,?_⟩
  ·rw[List.getElem?_map]at e;cases g:a[i]? with
   |none=>rw[g]at e;cases e
   |some p=>
    rw[g]at e;simp only[Option.map_some,Option.some.injEq]at e;by_cases z:p.1=R'
    ·rw[if_pos z]at e;cases e;exact .inr rfl
    ·rw[if_neg z]at e;subst e;exact h.at_ i k v g
  ·have e:(a.map fun d=>if d.1=R' then(d.1,V.int 77)else d).map (·.1)=a.map (·.1):=by
    rw[List.map_map];refine List.map_congr_left fun p _=>?_;show(if p.1=R' then(p.1,V.int 77)else p).1=p.1;split<;>rfl
   rw[e];exact h.keys
 ·rw[if_neg c];have b:R'∉a.map (·.1):=fun z=>by
   obtain⟨p,j,e⟩:=List.mem_map.mp z;exact c (List.any_eq_true.mpr ⟨p,j,decide_eq_true e⟩)
  rcases h.keys with e|⟨n,e⟩
  ·rw[e]at b;refine⟨fun i k v g=>?_,.inr ⟨b,by rw[List.map_append,e];rfl⟩⟩;rcases Nat.lt_or_ge i a.length with f|f
   ·rw[List.getElem?_append_left f]at g;exact h.at_ i k v g
   ·rw[List.getElem?_append_right f]at g;have:=rZ g;rw[List.mem_singleton]at this;cases this;exact .inr rfl
  ·rw[e]at b;exact absurd (List.mem_append_right _ (List.mem_singleton.mpr rfl)) b
inductive Wo(c:Nat):HO->HO->Prop
 |lst (xs:List V) (k:Nat) (b:k<=c):Wo c (.lst xs) (.lst (xs++List.replicate k (.int 77)))
 |tup (xs:List V):Wo c (.tup xs) (.tup xs)
 |BI (kvs a:List (Key×V)) (h:Wd kvs a):Wo c (.dK kvs) (.dK a)
theorem Wo.mono{c b:Nat}{u':HO}(h:Wo c u u')(l:c<=b):Wo b u u':=by
 cases h with
 |lst a k d=>exact .lst a k (by lia)
 |tup a=>exact .tup a
 |BI _ _ h=>exact .BI _ _ h
def Plain:HO->Prop
 | .lst _| .tup _| .dK _=>True
 |_=>False
variable{d n:Nat}{us ts:List Pt}
section
variable{K:rg} [Bb K]
def Wn(G:Hp)(d c:Nat)(H:Hp):Prop:=∀b u t,Plain u->Rd G b u->Val G (.ref b) t->t.EK<=d->∃a,H b=some a/\Wo c u a
def HG(G:Hp)(d:Nat)(H a:Hp):Prop:=∀b o,H b=some o->a b=some o∨∃u t,Plain u/\Rd G b u/\Val G (.ref b) t/\t.EK<=d
theorem HG.refl:HG G d H H:=fun b o e=>.inl e
theorem HG.of{a:Hp}(s:AG H a):HG G d H a:=fun b o e=>.inl (s b o e)
theorem HG.trans{a H2:Hp}(h:HG G d H a)(h':HG G d a H2):HG G d H H2:=fun b o e=>by
 rcases h b o e with h|h
 ·exact h' b o h
 ·exact .inr h
theorem HG.mono{a:Hp}{d':Nat}(h:HG G d H a)(l:d<=d'):HG G d' H a:=fun b o e=>(h b o e).imp id fun⟨u,t,p,r,v,z⟩=>⟨u,t,p,r,v,by lia⟩
theorem Wn.mono{G H:Hp}{d d' c a:Nat}(h:Wn G d c H)(l:d'<=d)(f:c<=a):Wn G d' a H:=fun b u t p r v z=>
 let⟨g,e,w⟩:=h b u t p r v (by lia)
 ⟨g,e,w.mono f⟩
theorem Wn.up{a:Hp}{c:Nat}(h:Wn G d c H)(s:AG H a):Wn G d c a:=fun b u t p r v z=>
 let⟨f,e,w⟩:=h b u t p r v z
 ⟨f,s _ _ e,w⟩
theorem Wn.next{a:Hp}(kf:KF K G){d' c g:Nat}(h:Wn G d c H)(h':Wn G d' g a)(f:HG G d' H a)(l:c<=g):Wn G d g a:=fun b u t p r v z=>by
 rcases Nat.lt_or_ge d' t.EK with i|i
 ·obtain⟨j,e,w⟩:=h b u t p r v z;rcases f b j e with k|⟨_,t2,_,_,m,z2⟩
  ·exact⟨j,k,w.mono l⟩
  ·rw[Val.ZD kf t v m]at i;lia
 ·exact h' b u t p r v i
theorem HG.at_{a:Hp}(kf:KF K G)(f:HG G d H a){o:HO}(v:Val G (.ref b) t)(l:d<t.EK)(e:H b=some o):a b=some o:=by
 rcases f b o e with c|⟨_,t2,_,_,g,z2⟩
 ·exact c
 ·rw[Val.ZD kf t v g]at l;lia
def Wt(ts us:List Pt):Prop:=∀(i:Nat) u,us[i]?=some u->ts[i]?=some u∨u=.int 77
theorem Wt.take:∀{ts us:List Pt},Wt ts us->∀i:Nat,Pt.BD (us.take i)<=Pt.BD (ts.take i)
 |ts,[],h,i=>by simp[Pt.BD]
 |ts,u::us,h,0=>by simp[Pt.BD]
 |[],u::us,h,i+1=>by
  have e:u=.int 77:=by
   rcases h 0 u rfl with z|z
   ·simp at z
   ·exact z
  have:=Wt.take (ts:=[]) (us:=us) (fun j x a=>.inr (by
   rcases h (j+1) x (by simpa using a)with z|z
   ·simp at z
   ·exact z)) i
  simp only[List.take_succ_cons,List.take_nil,Pt.BD,e,Pt.IA]at this⊢;lia
 |t::ts,u::us,h,i+1=>by
  have:=Wt.take (ts:=ts) (us:=us) (fun j x a=>by
   have:=h (j+1) x (by simpa using a);simpa using this) i
  simp only[List.take_succ_cons,Pt.BD];rcases h 0 u rfl with z|z
  ·simp at z;rw[z];lia
  ·rw[z];simp only[Pt.IA];lia
theorem Pt.size_take{u:Pt}(h:ts[i]?=some u):u.size+Pt.BD (ts.take i)<=Pt.AI ts:=by
 induction ts generalizing i with
 |nil=>simp at h
 |cons t r a=>
  cases i with
  |zero=>
   simp at h;subst h;simp[Pt.BD,Pt.AI]
  |succ i=>
   have:=a (by simpa using h);have:=Pt.K_ t;simp only[List.take_succ_cons,Pt.BD,Pt.AI];lia
theorem Wt.size{ts us:List Pt}(h:Wt ts us){i:Nat}{u:Pt}(b:us[i]?=some u):u.size+Pt.BD (us.take i)<=1+Pt.AI ts:=by
 have a:=h.take i;rcases h i u b with e|rfl
 ·have:=Pt.size_take e;lia
 ·have:=Pt.DH ts i;have:=Pt.FX ts;simp only[Pt.size];lia
theorem Wt.EK{ts us:List Pt}(h:Wt ts us){i:Nat}{u:Pt}(a:us[i]?=some u):u.EK<=Pt.EZ ts:=by
 rcases h i u a with e|rfl
 ·exact Pt.OE (rZ e)
 ·simp only[Pt.EK];lia
theorem Pt.OG:∀{xs:List Pt},Pt.KX xs->∀x∈xs,x.OD
 |y::r,h,x,a=>by
  simp only[Pt.KX]at h;rcases List.mem_cons.mp a with rfl|a
  ·exact h.1
  ·exact Pt.OG h.2 x a
theorem Wt.OD(h:Wt ts us)(o:Pt.KX ts){u:Pt}(a:us[i]?=some u):u.OD:=by
 rcases h i u a with e|rfl
 ·exact Pt.OG o u (rZ e)
 ·trivial
theorem Wt.lst{G:Hp}{vs:List V}{ts:List Pt}(r:AQ G vs ts)(k:Nat):∃us,AQ G (vs++List.replicate k (.int 77)) us/\Wt ts us:=by
 refine⟨ts++List.replicate k (.int 77),r.append (.of (by simp) fun i v t b c=>?_),fun i u h=>?_⟩
 ·have d:=List.eq_of_mem_replicate (rZ b);have e:=List.eq_of_mem_replicate (rZ c);rw[d,e];exact .int 77
 ·rcases Nat.lt_or_ge i ts.length with a|a
  ·rw[List.getElem?_append_left a]at h;exact .inl h
  ·rw[List.getElem?_append_right a]at h;exact .inr (List.eq_of_mem_replicate (rZ h))
theorem Wt.BI{G:Hp}{kvs a:List (Key×V)}{ts:List Pt}(r:AQ G (kvs.map (·.2)) ts)(w:Wd kvs a):∃us,AQ G (a.map (·.2)) us/\Wt ts us:=by
 suffices gen:∀n,n<=a.length->∃us,AQ G ((a.map (·.2)).take n) us/\us.length=n/\Wt ts us by
  obtain⟨us,b,_,c⟩:=gen a.length (Nat.le_refl _);refine⟨us,?_,c⟩;rw[List.take_of_length_le (by simp)]at b;exact b
 intro n
 induction n with
 |zero=>exact fun _=>⟨[],by simp;exact .nil,rfl,fun i u h=>by simp at h⟩
 |succ n k=>
  intro x;obtain⟨us,b,c,l⟩:=k (by lia);obtain⟨p,f⟩:∃p,a[n]?=some p:=⟨_,rW (by lia)⟩;have m:(a.map (·.2))[n]?=some p.2:=by rw[List.getElem?_map,f];rfl
  have g:∀{t:Pt},Val G p.2 t->(ts[n]?=some t∨t=.int 77)->∃us,AQ G ((a.map (·.2)).take (n+1)) us/\us.length=n+1/\Wt ts us:=fun{t} o q=>by
   refine⟨us++[t],?_,by simp[c],fun i u h=>?_⟩
   ·rw[List.take_add_one,m];exact b.append (.cons o .nil)
   ·rcases Nat.lt_or_ge i us.length with j|j
    ·rw[List.getElem?_append_left j]at h;exact l i u h
    ·have d:i=us.length:=by
      have:=(rX h).1;simp at this;lia
     subst d;simp at h;subst h;rw[c];exact q
  rcases w.at_ n p.1 p.2 f with e|e
  ·have:(kvs.map (·.2))[n]?=some p.2:=by rw[List.getElem?_map,e];rfl
   obtain⟨t,s,v⟩:=r.get this;exact g v (.inl s)
  ·exact g (t:=.int 77) (by rw[e];exact .int 77) (.inr rfl)
theorem GN:∀{kvs:List (Key×V)}{i:Nat}{k:Key}{v:V},(kvs.map (·.1)).Nodup->kvs[i]?=some (k,v)->Av kvs k=some v
 |[],i,k,v=>fun _ h=>by simp at h
 |p::r,0,k,v=>fun nd h=>by
  simp at h;subst h;exact BZ rfl
 |p::r,i+1,k,v=>fun nd h=>by
  simp only[List.getElem?_cons_succ]at h;simp only[List.map_cons,List.nodup_cons]at nd;have a:k∈r.map (·.1):=List.mem_map.mpr ⟨_,rZ h,rfl⟩;rw[BS (fun e=>nd.1 (e▸a))];exact GN nd.2 h
theorem Val.kinds{v:V}(h:Val G v t):(∃T:String,(∀H,Xc K H v T)/\Tg T "dict"=false/\UN T=false/\Tg T "list"=false/\t.IA=0)∨(∃a vs ts,v=.ref a/\t=.lst ts/\Rd G a (.lst vs)/\AQ G vs ts)∨(∃a vs ts,v=.ref a/\t=.tup ts/\Bm K G a vs/\AQ G vs ts)∨∃a kvs ks ts,v=.ref a/\t=.BI ks ts/\Rd G a (.dK kvs)/\kvs.map (·.1)=ks.map Sum.inr/\AQ G (kvs.map (·.2)) ts:=by
 cases h with
 |int i=>exact .inl ⟨"int",fun H=>.n (.int i),rfl,rfl,rfl,rfl⟩
 |str i=>exact .inl ⟨"str",fun H=>.n (.str i),rfl,rfl,rfl,rfl⟩
 |bl i=>exact .inl ⟨"bool",fun H=>.n (.bl i),rfl,rfl,rfl,rfl⟩
 |Ai=>exact .inl ⟨"NoneType",fun H=>.n .Ai,rfl,rfl,rfl,rfl⟩
 |lst h r=>exact .inr (.inl ⟨_,_,_,rfl,rfl,h,r⟩)
 |tup h r=>exact .inr (.inr (.inl ⟨_,_,_,rfl,rfl,h,r⟩))
 |BI h b r=>exact .inr (.inr (.inr ⟨_,_,_,_,rfl,rfl,h,b,r⟩))
theorem Wn.change{c:Nat}(h:Wn G d c H){u':HO}(p:Plain u)(r:Rd G a u)(w:Wo c u u'):Wn G d c (upd H a u'):=fun b j t f g v z=>by
 by_cases i:b=a
 ·subst i;have nf:∀{x:HO},Plain x->∀o z,x≠.BP o z:=fun k o z e=>by subst e;exact k
  rw[Rd.one g r (nf f) (nf p)];exact⟨u',AB,w⟩
 ·rw[AH i];exact h b j t f g v z
theorem HG.change{c:Hp}(h:HG G d H c){u':HO}(p:Plain u)(r:Rd G a u)(v:Val G (.ref a) t)(l:t.EK<=d):HG G d H (upd c a u'):=fun b o e=>by
 by_cases f:b=a
 ·subst f;exact .inr ⟨u,t,p,r,v,l⟩
 ·rw[AH f];exact h b o e
theorem Ur(h:n<=16000100):n<sizeLine:=by rw[sizeLine_eq];lia
inductive Wj{K:rg}[Bb K](n:Nat)(vs:List V)(H:Hp)(Q:VK)(b:XK):Prop
 |mk(G:Hp)(v:V)(t:Pt)(c:Nat)(d:vs=[v])(e:KF K G)(f:Val G v t)(g:t.OD)(h:t.EK<n)(i:t.size+c<=16000000)(j:Wn G t.EK c H)(k:∀(a:Hp),Wn G t.EK (c+t.IA) a->HG G t.EK H a->Q .Ai a)
def IW(n:Nat):Sp:=fun a H Q E=>Wj n a H Q E
end
section
variable{X:Cx} {tg:Expr}
end
namespace Ak
mutual
noncomputable def jw:Ak->Nat
 |any=>0
 |BC d=>d.wide
 |row xs _=>fe xs
 |tab _ xs _ _=>fe xs
noncomputable def fe:List Ak->Nat
 |[]=>0
 |x::r=>max (jw x) (fe r)
end
end Ak
section
variable{K:rg} [Bb K]
end
namespace Ak
mutual
def ff:Ak->Prop
 |any=>True
 |BC _=>True
 |row xs _=>ZF xs
 |tab _ xs ls m=>(m=true->ls.length<=60/\ls.Nodup/\sortedS ls=true)/\ZF xs
def ZF:List Ak->Prop
 |[]=>True
 |x::r=>ff x/\ZF r
end
mutual
def mH:Ak->Prop
 |any=>True
 |BC _=>True
 |row xs m=>(m=true∨Ud xs=none)/\ZG xs
 |tab ks xs ls m=>((m=true/\ls.length<=60/\ls.Nodup/\sortedS ls=true)∨(m=false/\ls=[]/\Ud xs=none))/\(∀l∈ls,l∉ks)/\ZG xs
def ZG:List Ak->Prop
 |[]=>True
 |x::r=>mH x/\ZG r
end
end Ak
section
variable{K:rg} [Bb K]
mutual
theorem Val.ZH{G H:Hp}(s:∀b u,Plain u->Rd G b u->Rd H b u):∀{v:V}{t:Pt},Val G v t->Val H v t
 |_,_,.int i=>.int i
 |_,_,.str i=>.str i
 |_,_,.bl i=>.bl i
 |_,_,.Ai=>.Ai
 |_,_,.lst h r=>.lst (s _ _ trivial h) (AQ.ZH s r)
 |_,_,.tup h r=>.tup (h.imp (s _ _ trivial) id) (AQ.ZH s r)
 |_,_,.BI h a r=>.BI (s _ _ trivial h) a (AQ.ZH s r)
theorem AQ.ZH{G H:Hp}(s:∀b u,Plain u->Rd G b u->Rd H b u):∀{vs:List V}{ts:List Pt},AQ G vs ts->AQ H vs ts
 |_,_,.nil=>.nil
 |_,_,.cons h r=>.cons (Val.ZH s h) (AQ.ZH s r)
end
def Vf(G H:Hp):Prop:=∀b u,Plain u->Rd G b u->H b=some u
theorem Vf.up{a:Hp}(p:Vf G H)(s:AG H a):Vf G a:=fun b u c r=>s _ _ (p b u c r)
theorem Vf.val(p:Vf G H){v:V}(h:Val G v t):Val H v t:=h.ZH fun b u a r=>.inl (p b u a r)
theorem Plain.nf(h:Plain u):∀o z,u≠.BP o z:=fun o z e=>by subst e;exact h
theorem Vf.HQ{e:Hp}:Vf (nw H e) (L2.HQ H e):=fun b u c r=>by
 cases d:H b with
 |some o=>
  rcases r with r|⟨f,r⟩<;>(rw[D' d]at r;cases r)
 |none=>
  rcases r with r|⟨f,r⟩<;>rw[Ax d]at r
  ·exact Je r c.nf
  ·exact Wh d r fun a z=>by rw[z]at c;exact c
theorem Wn.of(p:Vf G H)(d:Nat):Wn G d 0 H:=fun b u t e r v z=>⟨u,p b u e r,by
 cases u with
 |lst a=>have:=Wo.lst (c:=0) a 0 (Nat.le_refl _);simpa using this
 |tup a=>exact .tup a
 |dK kvs=>exact .BI _ _ (.refl kvs)
 |_=>exact absurd e id⟩
theorem HG.out{a c:Hp}(f:HG G d H c)(s:AG a H)(o:∀b x,a b=some x->G b=none):AG a c:=fun b x e=>by
 rcases f b x (s b x e)with h|⟨u,t,_,r,_⟩
 ·exact h
 ·have:=o b x e;rcases r with r|⟨_,r⟩<;>rw[this]at r<;>cases r
end
section
variable{X:Cx}
def GO(v d:Addr):HO:=.ext fun h=>h.IsValuesView v d
inductive SA(x:V)(vs:List V)(H:Hp)(Q:VK):Prop
 |mk(d:Addr)(kvs:List (Key×V))(a:x=.ref d)(b:vs=[])(c:Rd H d (.dK kvs))(e:∀v,H v=none->Q (.ref v) (upd H v (GO v d)))
def Us:V->List V->Hp->VK->Prop:=fun x a H Q=>SA x a H Q
theorem Pq:aU X "dict.values" Us:=by
 intro pins s r H x t v u Q I g i h;obtain⟨l,kvs,rfl,rfl,j,q⟩:=h;cases g;have a:=i.zero;subst a;obtain⟨z,m,n,p,c⟩:=(show Aj X.prog X.w H s.heap l (.dK kvs)from j.ok I.Ap);refine call_meetsIn PySem.F.slot_dict_values c.typeIs PySem.F.entry_dict_values (PySem.F.args_dict_values_1 _) (meets_dict_values (AZ X.prog X.w) l m) ⟨⟨n,c⟩,?_⟩;have d:(s.heap.push {cls:=.type "dict_values",data:=.fields #[.ref l]}).get? s.heap.objs.size=some {cls:=.type "dict_values",data:=.fields #[.ref l]}:=Heap.get?_push_size _ rfl;exact⟨.ref s.heap.objs.size,_,I.laid (o:=GO s.heap.objs.size l) (t':=s.toks) (fun b o e=>Heap.get?_push_of_some _ e) (Nat.le_refl _) ⟨⟨_,d,rfl,rfl⟩,⟨_,d⟩,fun y A ⟨f,z1,z2⟩ k=>⟨f,k f z1,z2⟩⟩,rfl,q _ I.fresh⟩
inductive Ut(xs:List V)(H:Hp)(Q:VK):Prop
 |mk(r d:Addr)(kvs:List (Key×V))(a:xs=[.ref r])(b:H r=some (GO r d))(c:Rd H d (.dK kvs))(e:∀l,H l=none->Q (.ref l) (upd H l (.lst (kvs.map (·.2)))))
def Wk:List V->Hp->VK->Prop:=fun a H Q=>Ut a H Q
theorem KV.fg{kvs:List (Key×V)}{vs:List (Key×Value)}(r:KV kvs vs):Vals (kvs.map (·.2)) (vs.map (·.2)):=by
 induction r with
 |nil=>exact .nil
 |cons h _ a=>exact .cons h.2 a
theorem IB(k:X.calm=true):BE X (.type "list") Wk:=by
 intro pins s E H F G Q I r h;obtain⟨e,d,kvs,rfl,l,m,q⟩:=h;obtain⟨u,rfl,n⟩:=vals1 r;cases n;obtain⟨a,_⟩:=(show Aj X.prog X.w H s.heap e (GO e d)from I.Ap e _ l);obtain⟨z,hd,g,c,o⟩:=(show Aj X.prog X.w H s.heap d (.dK kvs)from m.ok I.Ap);obtain⟨ep,f⟩:=o.dictAt;refine PySem.W.kdl_call (PySem.W.kdl_values (knd:=AZ X.prog X.w) (kvs:=g) (ep:=ep)) (I.ok.hd k) ⟨a,f⟩ (by rw[<-c.length];exact z) fun p t b x y A i=>?_;have B:(kvs.map (·.2)).length<=sizeLine:=by rw[List.length_map];exact z
 have C:b.toList=g.map (·.2):=PySem.W.kdl_vals_eq b.toList (by rw[Array.length_toList];exact i.1) fun j v D=>i.2 j v (by rw[<-Array.getElem?_toList];exact D);refine⟨.ref s.heap.objs.size,_,I.laid (t':=t) y (Nat.le_refl _) (show Aj X.prog X.w _ p _ (.lst _)from⟨B,b.toList,x,?_,by rw[Array.toArray_toList];exact A⟩),rfl,q _ I.fresh⟩;rw[C];exact c.fg
end
namespace Ak
end Ak
theorem Wl{a:Hp}(h:L2.HQ H a b=none):a b=none:=by
 cases e:a b with
 |none=>rfl
 |some u=>
  unfold L2.HQ at h;rw[e]at h;cases c:H b with
  |some o=>rw[c]at h;cases h
  |none=>
   rw[c]at h;cases u with
   |BP o z=>cases z<;>simp at h
   |_=>simp at h
theorem KF.nw{K:rg}{H a:Hp}(k:KF K (L2.HQ H a)):KF K (L2.nw H a):=fun b o e=>by
 have:=Wl (k b o e);unfold L2.nw;cases H b with
 |none=>exact this
 |some _=>rfl
section
variable{K:rg} [Bb K]
end
namespace Pt
end Pt
namespace Ak
def nK(n:Nat):List Key:=(List.range n).map fun(j:Nat)=>Sum.inl (j:Int)
theorem FZ:∀{a b:List Ak},Dm (a++b)=Dm a+Dm b
 |[],b=>by simp only[List.nil_append,Dm];lia
 |x::r,b=>by simp only[List.cons_append,Dm,FZ (a:=r)];lia
theorem GP{bs:List Ak}{b:Ak}(h:bs[i]?=some b):Dm (bs.take (i+1))=Dm (bs.take i)+b.wt/\Dm (bs.take (i+1))<=Dm bs:=by
 constructor
 ·rw[List.take_add_one,h,FZ];simp only[Option.toList,Dm];lia
 ·conv=>rhs;rw[<-List.take_append_drop (i+1) bs,FZ]
  lia
end Ak
variable{xs:List Ak}{ks:List Str}
namespace Ak
def LP(xs:List Ak)(us:List Pt):Prop:=∀(j:Nat) x y,xs[j]?=some x->us[j]?=some y->lets x y=true
theorem LP.row{xs:List Ak}{us ur:List Pt}{m:Bool}(h:LP xs us)(c:us.length=xs.length)(e:ur=[]∨m=true):lets (.row xs m) (.lst (us++ur))=true:=by
 refine MX.mpr ⟨?_,fun j x y a b=>?_⟩
 ·rw[List.length_append];rcases e with rfl|e
  ·exact .inl (by simp[c])
  ·by_cases z:ur.length=0
   ·exact .inl (by lia)
   ·exact .inr ⟨e,by lia⟩
 ·have z:=(rX a).1;rw[List.getElem?_append_left (by lia)]at b;exact h j x y a b
structure LT(ks:List Str)(xs:List Ak)(ls:List Str)(m:Bool)(ns:List Str)(us:List Pt):Prop where
 a:∀k∈ls,k∉ns
 l:ns.length=ks.length∨(m=true/\ks.length<ns.length)
 e:∀k x,lk ks xs k=some x->∃y,lk ns us k=some y/\lets x y=true
theorem LT.lets{ls b:List Str}{m:Bool}(h:LT ks xs ls m b us)(l:ks.length=xs.length)(nd:ks.Nodup):Ak.lets (.tab ks xs ls m) (.BI b us)=true:= (MW l nd).mpr ⟨fun k c=>by
  obtain⟨x,d⟩:=ME l c;obtain⟨y,f,_⟩:=h.e k x d;exact(MD f).1,h.a,h.l,h.e⟩
theorem LT.of{ls ss:List Str}{as:List Ak}{m:Bool}(l:ks.length=xs.length)(nd:ks.Nodup)(pm:ss.Perm ks)(e:ss.map (lk ks xs)=as.map some)(p:us.length=as.length)(h:LP as us)(dj:∀k∈ls,k∉ks):LT ks xs ls m ss us:=by
 have f:as.length=ss.length:=by have:=congrArg List.length e;simpa using this.symm
 refine⟨fun k g z=>dj k g (pm.mem_iff.mp z),.inl pm.length_eq,fun k x b=>?_⟩;obtain⟨j,a⟩:=List.getElem?_of_mem (pm.mem_iff.mpr (MD b).1);have i:=(rX a).1;obtain⟨y,c⟩:∃y,us[j]?=some y:=⟨_,rW (by lia)⟩;have n:as[j]?=some x:=by
  have:=congrArg (fun z=>z[j]?) e;simp only[List.getElem?_map,a,Option.map_some,b]at this;cases d:as[j]? with
  |none=>rw[d]at this;cases this
  |some w=>rw[d]at this;cases this;rfl
 have o:lk ss us k=some y:=by
  have:=congrArg (fun z=>z[j]?) (MI (ks:=ss) (xs:=us) (by lia) (pm.nodup_iff.mpr nd));simp only[List.getElem?_map,a,c,Option.map_some]at this;exact rY this
 exact⟨y,o,h j x y n c⟩
end Ak
section
variable{K:rg} [Bb K]
end
namespace Ak
mutual
inductive Pr:Ak->Pt->List Int->Prop
 |any (i:Int):Pr any (.int i) [i]
 |BC (d:Pt):Pr (BC d) d []
 |row {xs:List Ak} {m:Bool} {ys:List Pt} {fs:List (List Int)} (h:Ey xs ys fs):Pr (row xs m) (.lst ys) fs.flatten
 |tab {ks ls ss:List Str} {xs as:List Ak} {m:Bool} {ys:List Pt} {fs:List (List Int)} (pm:ss.Perm ks) (a:sortedS ss=true) (e:ss.map (lk ks xs)=as.map some) (h:Ey as ys fs):Pr (tab ks xs ls m) (.BI ss ys) fs.flatten
inductive Ey:List Ak->List Pt->List (List Int)->Prop
 |nil:Ey [] [] []
 |cons {a:Ak} {as:List Ak} {y:Pt} {ys:List Pt} {f:List Int} {fs:List (List Int)} (h:Pr a y f) (t:Ey as ys fs):Ey (a::as) (y::ys) (f::fs)
end
theorem Ey.len:∀{as:List Ak}{ys:List Pt}{fs:List (List Int)},Ey as ys fs->ys.length=as.length
 |_,_,_,.nil=>rfl
 |_,_,_,.cons _ t=>by rw[List.length_cons,List.length_cons,t.len]
theorem Ey.get:∀{as:List Ak}{ys:List Pt}{fs:List (List Int)},Ey as ys fs->∀{j:Nat}{a:Ak}{y:Pt},as[j]?=some a->ys[j]?=some y->∃f,Pr a y f
 |_,_,_,.cons h _,0,_,_,b,c=>by cases b;cases c;exact⟨_,h⟩
 |_,_,_,.cons _ t,j+1,_,_,b,c=>t.get (by simpa using b) (by simpa using c)
structure mJ(a:Ak)(b:Pt):Prop where
 doc:b.doc
 txt:b.txt
 size:b.size=a.wt
 deep:b.deep<=a.dp
 lets:a.lets b=true
mutual
theorem Pr.is:∀{a:Ak}{b:Pt}{f:List Int},Pr a b f->a.Ct->a.Mp->mJ a b
 |_,_,_,.any i,_,_=>⟨trivial,trivial,rfl,Nat.le_refl _,rfl⟩
 |_,_,_,.BC d,o,w=>⟨o,w,rfl,Nat.le_refl _,by simp only[lets];exact Pt.GD d (Pt.Qd d o)⟩
 |_,_,_,.row (xs:=xs) (m:=m) (ys:=ys) h,o,w=>by
  simp only[Ct]at o;simp only[Mp]at w;obtain⟨j,l,q,r,n⟩:=h.is (Bi o) (JU w);refine⟨j,l,by simp only[Pt.size,wt];lia,by simp only[Pt.deep,dp];lia,?_⟩;have:=LP.row (m:=m) (ur:=[]) n h.len (.inl rfl);rwa [List.append_nil]at this
 |_,_,_,.tab (ks:=ks) (ls:=ls) (ss:=ss) (xs:=xs) (as:=as) (m:=m) (ys:=ys) c u e h,o,w=>by
  simp only[Ct]at o;simp only[Mp]at w;have g:=Ci o.1 o.2.1 c e;have s:as.length=ss.length:=by have:=congrArg List.length e;simpa using this.symm
  obtain⟨j,l,q,r,n⟩:=h.is (fun x p=>Bi o.2.2.2.2.2.2 x (g.mem_iff.mp p)) (fun x p=>JU w.2 x (g.mem_iff.mp p));have l2:=h.len;refine⟨⟨by lia,c.nodup_iff.mpr o.2.1,fun k t=>o.2.2.1 k (c.mem_iff.mp t),by rw[c.length_eq];lia,j⟩,l,?_,?_,?_⟩
  ·simp only[Pt.size,wt];rw[<-JZ g];lia
  ·simp only[Pt.deep,dp];rw[<-Ub g];lia
  ·exact(LT.of o.1 o.2.1 c e l2 n o.2.2.2.2.2.1).lets o.1 o.2.1
theorem Ey.is:∀{as:List Ak}{ys:List Pt}{fs:List (List Int)},Ey as ys fs->(∀a∈as,a.Ct)->(∀a∈as,a.Mp)->Pt.Bl ys/\Pt.Rn ys/\Pt.AI ys=Dm as/\Pt.AS ys<=Mr as/\LP as ys
 |_,_,_,.nil,_,_=>⟨trivial,trivial,rfl,Nat.le_refl _,fun j x y h=>by simp at h⟩
 |_,_,_,.cons h t,o,w=>by
  obtain⟨e,f,m,n,g⟩:=h.is (o _ List.mem_cons_self) (w _ List.mem_cons_self);obtain⟨i,k,p,q,l⟩:=t.is (fun a b=>o a (List.mem_cons_of_mem _ b)) (fun a b=>w a (List.mem_cons_of_mem _ b));refine⟨⟨e,i⟩,⟨f,k⟩,by simp only[Pt.AI,Dm];lia,by simp only[Pt.AS,Mr];lia,fun j x y c d=>?_⟩;cases j with
  |zero=>cases c;cases d;exact g
  |succ j=>exact l j x y (by simpa using c) (by simpa using d)
end
mutual
noncomputable def free:Ak->Pt->List Pt
 |any,t=>[t]
 |row xs _,.lst ys=>DN xs ys
 |tab ks xs _ _,.BI a ys=>DI ks xs a ys
 |_,_=>[]
termination_by _ t=>(sizeOf t,0)
noncomputable def DN:List Ak->List Pt->List Pt
 |x::xs,y::ys=>free x y++DN xs ys
 |_,_=>[]
termination_by _ ys=>(sizeOf ys,0)
noncomputable def DI(ks:List Str)(xs:List Ak):List Str->List Pt->List Pt
 |n::a,y::ys=>(match lk ks xs n with|some x=>free x y|none=>[y])++DI ks xs a ys
 |_,_=>[]
termination_by _ ys=>(sizeOf ys,0)
end
theorem OH(t:Pt):free any t=[t]:=by simp only[free]
theorem LA(d t:Pt):free (BC d) t=[]:=by simp only[free]
mutual
theorem Pr.free:∀{a:Ak}{b:Pt}{f:List Int},Pr a b f->(free a b).Perm (f.map Pt.int)
 |_,_,_,.any i=>by rw[OH];exact .refl _
 |_,_,_,.BC d=>by rw[LA];exact .refl _
 |_,_,_,.row h=>by simp only[Ak.free];exact h.DN
 |_,_,_,.tab (ks:=ks) (ss:=ss) (xs:=xs) c g e h=>by simp only[Ak.free];exact h.DI ks xs ss e
theorem Ey.DN:∀{as:List Ak}{ys:List Pt}{fs:List (List Int)},Ey as ys fs->(DN as ys).Perm (fs.flatten.map Pt.int)
 |_,_,_,.nil=>by simp only[Ak.DN];exact .refl _
 |_,_,_,.cons h t=>by
  simp only[Ak.DN,List.flatten_cons,List.map_append];exact h.free.append t.DN
theorem Ey.DI:∀{as:List Ak}{ys:List Pt}{fs:List (List Int)},Ey as ys fs->∀(ks:List Str)(xs:List Ak)(ss:List Str),ss.map (lk ks xs)=as.map some->(DI ks xs ss ys).Perm (fs.flatten.map Pt.int)
 |_,_,_,.nil,_,_,ss,e=>by
  cases ss with
  |nil=>simp only[Ak.DI];exact .refl _
  |cons n r=>simp at e
 |_,_,_,.cons h t,ks,xs,ss,e=>by
  cases ss with
  |nil=>simp at e
  |cons n r=>
   simp only[List.map_cons,List.cons.injEq]at e;simp only[Ak.DI,List.flatten_cons,List.map_append];rw[e.1];exact h.free.append (t.DI ks xs r e.2)
end
mutual
noncomputable def BV:Ak->List Pt
 |any=>[]
 |BC d=>[d]
 |row xs _=>Bj xs
 |tab _ xs _ _=>Bj xs
noncomputable def Bj:List Ak->List Pt
 |[]=>[]
 |x::r=>BV x++Bj r
end
theorem Fb{d:Pt}:∀{xs:List Ak},d∈Bj xs↔∃x∈xs,d∈BV x
 |[]=>by simp[Bj]
 |x::r=>by simp only[Bj,List.mem_append,Fb (xs:=r),List.mem_cons,exists_eq_or_imp]
theorem Kd.BV{a:Ak}{as:List Ak}(h:Kd a as)(o:a.Ct){d:Pt}(b:d∈a.BV):a=.BC d∨∃x∈as,d∈x.BV:=by
 cases a with
 |any=>simp[Ak.BV]at b
 |BC e=>simp only[Ak.BV,List.mem_singleton]at b;rw[b];exact .inl rfl
 |row c m=>rw[show as=c from h];exact .inr (Fb.mp b)
 |tab j c ls m=>
  simp only[Ct]at o;obtain⟨k,f,l,g⟩:=h;obtain⟨x,i,b⟩:=Fb.mp b;exact .inr ⟨x,(Ci o.1 o.2.1 f g).mem_iff.mpr i,b⟩
theorem LB{root:Ak}(o:root.Ct):∀{n:Nat}{l:List Pt}{g:List (List Pt)},Pn root.pt n l g->∀d∈root.BV,(∃j,j<n/\l[j]?=some (BC d).pt)∨∃(j:Nat)(a:Ak),n<=j/\l[j]?=some a.pt/\a.Ct/\d∈a.BV
 |_,_,_,.start=>fun d h=>.inr ⟨0,root,Nat.le_refl _,rfl,o,h⟩
 |_,_,_,.next (n:=n) (l:=l) (us:=us) b m k=>fun d h=>by
  have t:=(rX m).1;rcases LB o b d h with⟨j,u,c⟩|⟨j,a,u,c,f,q⟩
  ·exact .inl ⟨j,by lia,by rw[List.getElem?_append_left (by lia)];exact c⟩
  ·have v:=(rX c).1;by_cases e:j=n
   ·subst e;rw[m]at c;cases c;obtain⟨y,r,rfl⟩:=OA f k;rcases r.BV f q with rfl|⟨x,s,p⟩
    ·exact .inl ⟨j,by lia,by rw[List.getElem?_append_left t];exact m⟩
    ·obtain⟨i,w⟩:=List.getElem?_of_mem s;refine .inr ⟨l.length+i,x,by lia,?_,r.ok f x s,p⟩;rw[List.getElem?_append_right (by lia),Nat.add_sub_cancel_left,List.getElem?_map,w];rfl
   ·exact .inr ⟨j,a,by lia,by rw[List.getElem?_append_left v];exact c,f,q⟩
end Ak
namespace Pt
mutual
noncomputable def KA:Pt->List Pt
 |lst xs|tup xs=>EL xs
 |BI _ xs=>EL xs
 |t=>[t]
noncomputable def EL:List Pt->List Pt
 |[]=>[]
 |x::r=>KA x++EL r
end
theorem Ea{d:Pt}:∀{xs:List Pt},d∈EL xs↔∃x∈xs,d∈KA x
 |[]=>by simp[EL]
 |x::r=>by simp only[EL,List.mem_append,Ea (xs:=r),List.mem_cons,exists_eq_or_imp]
noncomputable def ZI:Pt->Bool
 |lst _|tup _|BI _ _=>false
 |_=>true
theorem Uu(d:t.doc)(k:D_ t us){x:Pt}(a:x∈t.KA):(t=x/\t.ZI=true)∨∃u∈us,x∈u.KA:=by
 cases t with
 |int i=>simp only[KA,List.mem_singleton]at a;exact .inl ⟨a.symm,rfl⟩
 |str s=>simp only[KA,List.mem_singleton]at a;exact .inl ⟨a.symm,rfl⟩
 |bl b=>simp[doc]at d
 |Ai=>simp[doc]at d
 |tup c=>simp[doc]at d
 |lst c=>rw[show us=c from k];exact .inr (Ea.mp a)
 |BI g c=>
  simp only[doc]at d;obtain⟨f,j,m,e⟩:=(show∃f:List Str,f.Perm g/\sortedS f=true/\f.map (lk g c)=us.map some from k);obtain⟨y,l,h⟩:=Ea.mp a;exact .inr ⟨y,(Ci d.1 d.2.1 j e).mem_iff.mpr l,h⟩
theorem Uv(d:t.doc)(k:D_ t us):Bl us/\t.size=1+AI us:=by
 cases t with
 |int i=>rw[show us=[]from k];exact⟨trivial,rfl⟩
 |str s=>rw[show us=[]from k];exact⟨trivial,rfl⟩
 |bl b=>simp[doc]at d
 |Ai=>simp[doc]at d
 |tup c=>simp[doc]at d
 |lst c=>rw[show us=c from k];exact⟨d,rfl⟩
 |BI g c=>
  simp only[doc]at d;obtain⟨f,h,q,e⟩:=(show∃f:List Str,f.Perm g/\sortedS f=true/\f.map (lk g c)=us.map some from k);have p:=Ci d.1 d.2.1 h e;refine⟨Dz fun x j=>Aw d.2.2.2.2 x (p.mem_iff.mp j),?_⟩;simp only[size];have:∀{a b:List Pt},a.Perm b->AI a=AI b:=fun{a b} p=>by
   induction p with
   |nil=>rfl
   |cons x _ m=>simp only[AI,m]
   |swap x y l=>simp only[AI];lia
   |trans _ _ n o=>exact n.trans o
  rw[this p]
theorem SD(d:t.doc)(z:t.size<=900):JS t:=by
 cases t with
 |int i=>trivial
 |str s=>trivial
 |bl b=>simp[doc]at d
 |Ai=>simp[doc]at d
 |tup a=>simp[doc]at d
 |lst a=>have:=CL a;simp only[size]at z;show a.length<=900;lia
 |BI c a=>simp only[doc]at d;exact⟨d.1,d.2.2.2.1⟩
end Pt
variable{Z:List Addr}{fr:List Int}
section
variable{K:rg} [Bb K]
inductive Uw(c:Addr)(vs:List V)(H:Hp)(Q:VK):Prop
 |mk(G:Hp)(v:V)(t:Pt)(d:vs=[v,.ref c])(e:AG G H)(f:Val G v t)(g:t.doc)(h:t.size<=900)(i:∀(p:Addr) (b:List V) (l:List Pt) (a:Hp),AG H a->H p=none->a p=some (.lst b)->AQ G b l->l.length=t.size->Pt.Bl l->(∀x∈t.KA,x∈l)->Q (.ref p) a)
def MY(a:Addr):Sp:=fun b H Q _=>Uw (K:=K) a b H Q
inductive Ux(vs:List V)(H:Hp)(Q:VK):Prop
 |mk(v:V)(t:Pt)(b:vs=[v])(c:Val H v t)(d:t.doc)(e:t.size<=900)(f:∀a,AG H a->Q (.int (t.size:Int)) a)
def Qg:Sp:=fun a H Q _=>Ux (K:=K) a H Q
inductive Jg(R:Pt->Pt->List Int->Prop):List Pt->List Pt->List (List Int)->Prop
 |nil:Jg R [] [] []
 |cons {x b:Pt} {f:List Int} {xs bs:List Pt} {fs:List (List Int)} (h:R x b f) (t:Jg R xs bs fs):Jg R (x::xs) (b::bs) (f::fs)
structure Wm(R:Pt->Pt->List Int->Prop)(H0 Hi:Hp)(as:List Pt)(ts:List V)(fs:List (List Int))(at_:Nat):Prop where
 len:ts.length=as.length
 Zr:fs.length=as.length
 val:∀(j:Nat) x,at_<=j->as[j]?=some x->∃w b f,ts[j]?=some w/\fs[j]?=some f/\R x b f/\Val (nw H0 Hi) w b
variable{R:Pt->Pt->List Int->Prop}
theorem Wm.up{a c d:Hp}{as:List Pt}{ts:List V}{fs:List (List Int)}{n:Nat}(f:Wm R a c as ts fs n)(s:∀b o,a b=none->c b=some o->d b=some o):Wm R a d as ts fs n:=⟨f.len,f.Zr,fun j x e g=>let⟨w,b,q,i,k,l,m⟩:=f.val j x e g;⟨w,b,q,i,k,l,m.up (Bs (fun _ h=>h) s)⟩⟩
theorem Wm.slice{c d:Hp}{as:List Pt}{ts:List V}{fs:List (List Int)}{n:Nat}(f:Wm R c d as ts fs n):∀(k s:Nat),n<=s->s+k<=as.length->∃a,Jg R ((as.drop s).take k) a ((fs.drop s).take k)/\AQ (nw c d) ((ts.drop s).take k) a
 |0,s=>fun _ _=>⟨[],by rw[List.take_zero,List.take_zero];exact .nil,by rw[List.take_zero];exact .nil⟩
 |k+1,s=>fun h o=>by
  obtain⟨a,i,j⟩:=f.slice k (s+1) (by lia) (by lia);have l1:s<as.length:=by lia
  have l2:s<ts.length:=by rw[f.len];exact l1
  have l3:s<fs.length:=by rw[f.Zr];exact l1
  obtain⟨w,b,q,e,g,l,m⟩:=f.val s as[s] h (rW l1);rw[rW l2]at e;rw[rW l3]at g;refine⟨b::a,?_,?_⟩
  ·rw[List.drop_eq_getElem_cons l1,List.take_succ_cons,List.drop_eq_getElem_cons l3,List.take_succ_cons,rY g];exact .cons l i
  ·rw[List.drop_eq_getElem_cons l2,List.take_succ_cons,rY e];exact .cons m j
theorem Wm.set{a h c:Hp}{as:List Pt}{ts:List V}{fs:List (List Int)}(f:Wm R a h as ts fs (n+1))(s:∀b o,a b=none->h b=some o->c b=some o){x:Pt}(i:as[n]?=some x){w:V}{b:Pt}(g:R x b fr)(hw:Val (nw a c) w b):Wm R a c as (ts.set n w) (fs.set n fr) n:=by
 refine⟨by rw[List.length_set,f.len],by rw[List.length_set,f.Zr],fun j y v d=>?_⟩;have k:=(rX i).1;by_cases e:j=n
 ·subst e;rw[i]at d;cases d;exact⟨w,b,fr,by rw[List.getElem?_set_self (by rw[f.len];exact k)],by rw[List.getElem?_set_self (by rw[f.Zr];exact k)],g,hw⟩
 ·obtain⟨l,m,p,q,r,t,u⟩:=(f.up s).val j y (by lia) d;exact⟨l,m,p,by rw[List.getElem?_set_ne (Ne.symm e)];exact q,by rw[List.getElem?_set_ne (Ne.symm e)];exact r,t,u⟩
def live(fs:List (List Int))(i e:Nat):List Int:=((fs.drop i).take (e-i)).flatten
theorem Pu{fs:List (List Int)}{e k:Nat}(h:i+1<=e)(hl:e+k<=fs.length):live fs (i+1) (e+k)=live fs (i+1) e++((fs.drop e).take k).flatten:=by
 unfold live;rw[<-List.flatten_append];congr 1;have a:e+k-(i+1)=(e-(i+1))+k:=by lia
 rw[a,List.take_add,List.drop_drop];congr 3;lia
theorem Uy{fs:List (List Int)}{e:Nat}(h:i+1<=e)(hl:i<fs.length):live (fs.set i fr) i e=fr++live fs (i+1) e:=by
 unfold live;have l2:i<(fs.set i fr).length:=by rw[List.length_set];exact hl
 rw[List.drop_eq_getElem_cons l2,show e-i=(e-(i+1))+1 by lia,List.take_succ_cons,List.flatten_cons,List.getElem_set_self];congr 3;rw[List.drop_set,if_pos (Nat.lt_succ_self i)]
structure Bz(Z:List Addr)(H H':Hp):Prop where
 keep:∀b o,b∉Z->H b=some o->H' b=some o
 EJ:∀b,H' b=none->H b=none
theorem Bz.of{a:Hp}(s:AG H a):Bz Z H a:=⟨fun b o _ e=>s _ _ e,fun b h=>s.free h⟩
theorem Bz.trans{d H2:Hp}(a:Bz Z H d)(b:Bz Z d H2):Bz Z H H2:=⟨fun c o n e=>b.keep c o n (a.keep c o n e),fun c h=>a.EJ c (b.EJ c h)⟩
theorem Bz.put{d:Hp}{z:Addr}{o:HO}(a:Bz Z H d)(h:z∈Z):Bz Z H (upd d z o):=⟨fun c u n e=>by rw[AH (fun q=>n (by rw[q];exact h))];exact a.keep c u n e,fun b q=>a.EJ b (Bx q).2⟩
structure bO(Z:List Addr)(Iv:List Int->Hp->Prop):Prop where
 up:∀l H H',(∀b∈Z,H' b=H b)->Iv l H->Iv l H'
 pm:∀l l' H,l.Perm l'->Iv l H->Iv l' H
 EJ:∀l H,Iv l H->∀b∈Z,∃o,H b=some o/\∀vs,o≠.lst vs
inductive OI(R:Pt->Pt->List Int->Prop)(D:Pt->Prop)(Z:List Addr)(d:List Int->Hp->Prop)(G:Hp)(vs:List V)(H:Hp)(Q:VK):Prop
 |mk(a:Hp)(v:V)(t:Pt)(L:Addr)(ws:List V)(us g:List Pt)(fs:List (List Int))(e:List Int)(m:vs=[v,.ref L])(n:AG G H)(o:Val G v t)(p:D t)(q:H L=some (.lst ws))(r:a L=none)(s:∀b,H b=none->a b=none)(u:AG G a)(x:∀b∈Z,a b≠none)(y:D_ t.hold us)(h:Jg R us g fs)(i:AQ (nw a H) ws g)(j:d (e++fs.flatten) H)(k:(e++fs.flatten).length<=20000)(l:∀(w:V) (b:Pt) (f:List Int) (c:Hp),Bz Z H c->Val (nw a c) w b->R t b f->d (e++f) c->f.length<=fs.flatten.length+1->Q w c):OI R D Z d G vs H Q
def IX(R:Pt->Pt->List Int->Prop)(D:Pt->Prop)(Z:List Addr)(a:List Int->Hp->Prop)(G:Hp):Sp:=fun b H Q _=>OI (K:=K) R D Z a G b H Q
inductive OJ(P:Program)(w:World)(K:rg)[Bb K](mg:Str->Option Value)(base:Heap)(g:Addr)(vs:List V)(H:Hp)(Q:VK):Prop
 |mk(R:Pt->Pt->List Int->Prop)(D:Pt->Prop)(Z:List Addr)(c:List Int->Hp->Prop)(G:Hp)(v:V)(t:Pt)(e:Addr)(a:FuncData)(ps:List Str)(k:vs=[v,.ref g,.ref e])(l:AG G H)(h:∀b∈Z,G b=none)(m:Val G v t)(o:D t)(p:∀t,D t->∃n,n<=20000/\Ms n t)(q:∀t us,D t->D_ t.hold us->∀u∈us,D u)(r:fO K H e)(s:Binds K a ps [])(x:Ac P w K mg base Bn 7 e a ps (IX R D Z c G))(y:bO Z c)(i:c [] H)(j:∀(w:V) (b:Pt) (f:List Int) (d:Hp),Bz Z H d->Val (nw H d) w b->R t b f->c f d->Q w d):OJ P w K mg base g vs H Q
def MZ(P:Program)(w:World)(K:rg)[Bb K](mg:Str->Option Value)(base:Heap)(a:Addr):Sp:=fun b H Q _=>OJ P w K mg base a b H Q
end
section
variable{X:Cx}
theorem HS(a:List Int):∀n,n<=a.length->preSum (fun i=>a.getD i 0) n=(a.take n).sum
 |0,_=>rfl
 |n+1,h=>by
  have e:preSum (fun i=>a.getD i 0) (n+1)=preSum (fun i=>a.getD i 0) n+a.getD n 0:=rfl;rw[e,HS a n (by omega),List.take_add_one,rW (by omega),List.sum_append,List.getD_eq_getElem?_getD,rW (by omega)];simp
inductive OK(K:rg)(xs:List V)(H:Hp)(Q:VK):Prop
 |mk(p:Addr)(a:List Int)(b:xs=[.ref p])(c:Aq K H p (a.map V.int))(d:Q (.int a.sum) H)
def Jh(K:rg):List V->Hp->VK->Prop:=fun a H Q=>OK K a H Q
theorem Eb(C:X.calm=true):BE X (.builtin "sum") (Jh X.K):=by
 intro pins s J H L M Q I r h;obtain⟨p,a,rfl,D,q⟩:=h;obtain⟨u,rfl,k⟩:=vals1 r;cases k;obtain⟨c,l,n,N⟩:=I.list D;obtain⟨E,d,f⟩:=id n.isList;have g:p<s.heap.objs.size:=Heap.lt_size d;have m:X.A.in1.handled=none:=I.ok.hd C;have hlen:c.toArray.size=a.length:=by rw[List.size_toArray,<-l.length,List.length_map]
 refine call_sum_walkG (wpAny_pyIter_list n.isList ⟨s.heap.objs.size,_,_,_,_,_,fun i=>a.getD i 0,rfl,Walks.list m s.heap.objs.size p (Nat.ne_of_lt g) c.toArray,⟨⟨_,Heap.get?_push_size _ rfl,rfl,rfl⟩,⟨E,Heap.get?_push_of_some _ d,f⟩⟩,?_,?_,fun O F t' kept=>?_⟩)
 ·intro b w;simp only[List.mem_cons,List.not_mem_nil,or_false]at w;show b<(s.heap.push _).objs.size;have e:∀o,(s.heap.push o).objs.size=s.heap.objs.size+1:=fun o=>by simp[Heap.push]
  rw[e];rcases w with h|h
  ·rw[h];exact Nat.lt_succ_self _
  ·rw[h];exact Nat.lt_succ_of_lt g
 ·intro i v j;have j:c[i]?=some v:=by simpa using j
  have y:i<a.length:=by
   have:=(rX j).1;rw[<-l.length,List.length_map]at this;exact this
  obtain⟨u,B,t,k⟩:=l.get (i:=i) (x:=.int a[i]) (by rw[List.getElem?_map,rW y];rfl);rw[j]at B;cases B;refine⟨t,?_⟩;rw[k];show Value.int a[i] t=Value.int (a.getD i 0) t;rw[List.getD_eq_getElem?_getD,rW y];rfl
 ·refine⟨.int a.sum,H,I.kept (t':=F) fun b o e=>kept b o (fun z=>?_) (Heap.get?_push_of_some _ e),?_,q⟩
  ·have G:b=s.heap.objs.size:=by simpa using z
   exact Nat.ne_of_lt (Heap.lt_size e) G
  ·refine⟨t',?_⟩;rw[hlen,HS a _ (Nat.le_refl _),List.take_length]
end
namespace Dc
end Dc
variable{Q:VK}
theorem Wq{J:It}{r:TT}{s:TE}{fs:List Nat}{j:St}(n:Nat)(item:Nat->V)(P:Addr->Nat->Hp->Prop)(w:∀D,H D=none->P D 0 (upd H D (.lst [])))(k:∀D i H2,i<n->P D i H2->J.go i H2)(x:∀D i H2 v t,i<n->P D i H2->J.Oq i H2 v t->v=item i/\t=H2)(l:∀D H2,P D n H2->J.stop n H2)(z:∀D i H2,H D=none->i<n->P D i H2->r (some (item i)::Bu j fs) H2 fun ok g=>if ok=true then s (some (item i)::Bu j fs) g fun y f=>∃ys,f D=some (.lst ys)/\ys.length<sizeLine/\P D (i+1) (upd f D (.lst (ys++[y])))else P D (i+1) g)(A:∀D H2,H D=none->P D n H2->Q (.ref D) H2):Cc J r s fs j H Q:=by
 intro D o;refine⟨fun i m H2=>m=n-i/\i<=n/\P D i H2,⟨n,rfl,Nat.zero_le _,w D o⟩,?_⟩;rintro i m H2 ⟨rfl,C,p⟩;by_cases d:i<n
 ·refine .inr ⟨k D i H2 d p,fun v u y=>?_⟩;obtain⟨rfl,rfl⟩:=x D i H2 v u d p y;have q:=z D i u o d p;have e:(fun(y:V)(f:Hp)=>∃ys,f D=some (.lst ys)/\ys.length<sizeLine/\∃h,h<n-i/\h=n-(i+1)/\i+1<=n/\P D (i+1) (upd f D (.lst (ys++[y]))))=fun y f=>∃ys,f D=some (.lst ys)/\ys.length<sizeLine/\P D (i+1) (upd f D (.lst (ys++[y]))):=by
   funext y f;refine propext ⟨fun⟨ys,a,b,h,_,_,_,c⟩=>⟨ys,a,b,c⟩,fun⟨ys,a,b,c⟩=>⟨ys,a,b,n-(i+1),by omega,rfl,d,c⟩⟩
  have B:∀g:Hp,(∃h,h<n-i/\h=n-(i+1)/\i+1<=n/\P D (i+1) g)=P D (i+1) g:=fun g=>propext ⟨fun⟨_,_,_,_,c⟩=>c,fun c=>⟨n-(i+1),by omega,rfl,d,c⟩⟩;dsimp only;simp only[e,B];exact q
 ·have e:i=n:=by omega
  subst e;exact .inl ⟨l D H2 p,A D H2 o p⟩
section
variable{X:Cx}
end
section
variable{K:rg} [Bb K]
def fh(t b:Pt)(f:List Int):Prop:=∃a:Ak,t=a.pt/\b=.int (a.wt:Int)/\f=[]
def OL:Sp:=fun a H Q E=>∃G,IX (K:=K) fh Ak.Vd [] (fun _ _=>True) G a H Q E
theorem Qh{H:Hp}:∀{as:List Ak}{b:List Pt}{fs:List (List Int)}{ws:List V},Jg fh (as.map Ak.pt) b fs->AQ H ws b->ws=(as.map fun x=>(x.wt:Int)).map V.int/\fs.flatten=[]
 |[],_,_,_,.nil,h=>by cases h;exact⟨rfl,rfl⟩
 |a::as,_,_,_,.cons ⟨k,e,c,d⟩ t,h=>by
  subst c d;have:=Ak.FV _ _ e;subst this;cases h with
  |cons f g=>
   cases f;obtain⟨i,j⟩:=Qh t g;exact⟨by rw[i];rfl,by rw[List.flatten_cons,j];rfl⟩
theorem Ma:∀as:List Ak,(as.map fun x=>(x.wt:Int)).sum=(Ak.Dm as:Int)
 |[]=>rfl
 |a::as=>by
  simp only[List.map_cons,List.sum_cons,Ak.Dm];rw[Ma as];lia
inductive SE(vs:List V)(H:Hp)(Q:VK):Prop
 |mk(v:V)(a:Ak)(c:vs=[v])(d:Val H v a.pt)(e:a.Ct)(f:a.wt<=900)(g:∀b,AG H b->Q (.int (a.wt:Int)) b)
def OM:Sp:=fun a H Q _=>SE (K:=K) a H Q
theorem bO.none:bO [] (fun _ _=>True):=⟨fun _ _ _ _ _=>trivial,fun _ _ _ _ _=>trivial,fun _ _ _ b a=>nomatch a⟩
inductive Uz(vs:List V)(H:Hp)(Q:VK):Prop
 |mk(v:V)(a:Ak)(f:vs=[v])(g:Val H v a.pt)(h:a.ok)(i:a.size<=80)(j:∀(p:Addr) (e:List V) (b:List Pt) (c:Hp),AG H c->H p=none->c p=some (.lst e)->AQ H e b->b.length<=80->(∀d∈b,d.doc/\d.size<=10)->(∀d∈a.BV,d∈b)->Q (.ref p) c)
def Qi:Sp:=fun a H Q _=>Uz (K:=K) a H Q
def jE(t:Pt)(kvs:List (Key×V)):Prop:=∀i:Int,Pt.int i∈t.KA->(Av kvs (Sum.inl i)).isSome=true
inductive ZJ(vs:List V)(H:Hp)(Q:VK):Prop
 |mk(v:V)(t:Pt)(b:vs=[v])(c:Val H v t)(d:t.doc)(e:t.size<=900)(f:∀(u:Addr) (kvs:List (Key×V)) (a:Hp),AG H a->H u=none->a u=some (.dK kvs)->kvs.length<=900->jE t kvs->Q (.ref u) a)
def Xl:Sp:=fun a H Q _=>ZJ (K:=K) a H Q
end
namespace Ak
theorem Kd.mK{a:Ak}{as:List Ak}(h:Kd a as)(o:a.ok):∀x∈as,x.ok:=by
 have e:∀{c:List Ak},Hv c->∀x∈c,x.ok:=fun{c}=>by
  induction c with
  |nil=>intro _ x b;cases b
  |cons y r f=>
   intro h x b;simp only[Hv]at h;rcases List.mem_cons.mp b with rfl|b
   ·exact h.1
   ·exact f h.2 x b
 cases a with
 |row c m=>simp only[Ak.ok]at o;rw[show as=c from h];exact e o
 |tab j c ls m=>
  simp only[Ak.ok]at o;obtain⟨k,g,l,i⟩:=h;intro x b;exact e o.2.2.2.2.2.2 x ((Ci o.1 o.2.1 g i).mem_iff.mp b)
 |any=>rw[show as=[]from h];exact fun x b=>nomatch b
 |BC d=>rw[show as=[]from h];exact fun x b=>nomatch b
def cZ(t:Pt):Prop:=∃a:Ak,t=a.pt/\a.ok
theorem cZ.We(h:cZ t)(k:D_ t.hold us):∀u∈us,cZ u:=by
 obtain⟨a,rfl,o⟩:=h;obtain⟨e,b,rfl⟩:=OA (Pj a o) k;intro u c;obtain⟨x,d,rfl⟩:=List.mem_map.mp c;exact⟨x,rfl,b.mK o x d⟩
end Ak
structure Lv(C:Addr)(H:Hp)(o u:Addr)(N:Int)(kvs:List (Key×V)):Prop where
 at_:∃dx fs,H o=some (.ins C dx fs)/\fs.lookup ("used":Str)=some (V.ref u)/\fs.lookup ("number":Str)=some (V.int N)/\fs.lookup ("fresh":Str)=none/\fs.length<=100
 ud:H u=some (.dK kvs)
variable{N:Int}{C:Addr}
theorem Lv.up{c:Hp}{o u:Addr}{kvs:List (Key×V)}(h:Lv C H o u N kvs)(d:c o=H o)(e:c u=H u):Lv C c o u N kvs:=by
 obtain⟨⟨f,fs,a,r⟩,b⟩:=h;exact⟨⟨f,fs,d.trans a,r⟩,e.trans b⟩
theorem Lv.ne{o u:Addr}{kvs:List (Key×V)}(h:Lv C H o u N kvs):o≠u:=fun z=>by
 obtain⟨⟨c,fs,a,_⟩,b⟩:=h;rw[z,b]at a;cases a
theorem ON{f:Str}{v w:V}:∀{fs:List (Str×V)},fs.lookup f=some w->(EG f v fs).length=fs.length
 |[],h=>by cases h
 |(g,x)::r,h=>by
  unfold EG;by_cases e:g=f
  ·rw[if_pos e];rfl
  ·rw[if_neg e,List.length_cons,List.length_cons];have a:(f==g)=false:=by simpa using(Ne.symm e)
   rw[List.lookup_cons,a]at h;rw[ON h]
inductive U_{K:rg}[Bb K](C:Addr)(vs:List V)(H:Hp)(Q:VK):Prop
 |mk(o b:Addr)(v:V)(t:Pt)(c:vs=[.ref o,v])(d:H o=some (.ins C b []))(e:Val (Zm o H) v t)(f:t.doc)(g:t.size<=900)(h:∀(u:Addr) (kvs:List (Key×V)) (a:Hp),Bz [o] H a->H u=none->Lv C a o u 0 kvs->kvs.length<=900->jE t kvs->Q .Ai a)
def Qj{K:rg}[Bb K](C:Addr):Sp:=fun a H Q _=>U_ (K:=K) C a H Q
inductive U'(C:Addr)(vs:List V)(H:Hp)(Q:VK):Prop
 |mk(o u:Addr)(N:Int)(kvs:List (Key×V))(b:vs=[.ref o])(c:Lv C H o u N kvs)(d:kvs.length<=30000)(e:∀(k:Int) (a:Hp),Av kvs (Sum.inl k)=none->Bz [o,u] H a->Lv C a o u k (putK kvs (Sum.inl k) (.bl true))->Q (.int k) a)
def Qk(C:Addr):Sp:=fun a H Q _=>U' C a H Q
def HU(N:Int)(kvs:List (Key×V)):Nat:=(kvs.filter fun p=>match p.1 with| .inl k=>decide (N<=k)| .inr _=>false).length
theorem Wr:∀{kvs:List (Key×V)},(Av kvs (Sum.inl N)).isSome=true->HU (N+1) kvs<HU N kvs:=by
 have c:∀kvs:List (Key×V),HU (N+1) kvs<=HU N kvs:=fun kvs=>by
  induction kvs with
  |nil=>exact Nat.le_refl _
  |cons p r a=>
   obtain⟨k,v⟩:=p;unfold HU at a⊢;cases k with
   |inr s=>rw[List.filter_cons_of_neg (by simp),List.filter_cons_of_neg (by simp)];exact a
   |inl k=>
    simp only[List.filter_cons];by_cases b:N+1<=k
    ·rw[if_pos (by simpa using b),if_pos (by simp;lia)];simp only[List.length_cons];lia
    ·rw[if_neg (by simpa using b)];split
     ·simp only[List.length_cons];lia
     ·lia
 intro kvs
 induction kvs with
 |nil=>intro h;cases h
 |cons p r a=>
  obtain⟨k,v⟩:=p;intro h;have l2:=c r;unfold HU at a l2⊢;by_cases e:k=Sum.inl N
  ·subst e;simp only[List.filter_cons];rw[if_neg (by simp;lia),if_pos (by simp)];simp only[List.length_cons];lia
  ·rw[BS e]at h;have:=a h;cases k with
   |inr s=>rw[List.filter_cons_of_neg (by simp),List.filter_cons_of_neg (by simp)];exact this
   |inl k=>
    simp only[List.filter_cons];by_cases b:N+1<=k
    ·rw[if_pos (by simpa using b),if_pos (by simp;lia)];simp only[List.length_cons];lia
    ·rw[if_neg (by simpa using b)];split
     ·simp only[List.length_cons];lia
     ·lia
structure Pw(C o u:Addr)(k0:List (Key×V))(l:List Int)(H:Hp):Prop where
 ex:∃N kvs,Lv C H o u N kvs/\(∀x∈l,(Av kvs (Sum.inl x)).isSome=true)/\(∀k,(Av k0 k).isSome=true->(Av kvs k).isSome=true)/\kvs.length<=k0.length+l.length
 nd:l.Nodup
 no:∀x∈l,Av k0 (Sum.inl x)=none
theorem Pw.st(C o u:Addr)(i:List (Key×V)):bO [o,u] (Pw C o u i):=by
 refine⟨fun l H t e h=>?_,fun l v H p h=>?_,fun l H h b a=>?_⟩
 ·obtain⟨⟨N,kvs,c,r⟩,d,f⟩:=h;exact⟨⟨N,kvs,c.up (e o List.mem_cons_self) (e u (List.mem_cons_of_mem _ (List.mem_singleton.mpr rfl))),r⟩,d,f⟩
 ·obtain⟨⟨N,kvs,c,j,k,m⟩,d,f⟩:=h;exact⟨⟨N,kvs,c,fun x g=>j x (p.mem_iff.mpr g),k,by rw[<-p.length_eq];exact m⟩,p.nodup_iff.mp d,fun x g=>f x (p.mem_iff.mpr g)⟩
 ·obtain⟨⟨N,kvs,⟨⟨w,fs,n,_⟩,q⟩,_⟩,_,_⟩:=h;rcases List.mem_cons.mp a with rfl|a
  ·exact⟨_,n,fun s z=>nomatch z⟩
  ·rw[List.mem_singleton.mp a];exact⟨_,q,fun s z=>nomatch z⟩
theorem Pw.start{o u:Addr}{a:List (Key×V)}(c:Lv C H o u N a):Pw C o u a [] H:=⟨⟨N,a,c,(fun x b=>nomatch b),fun _ h=>h,by simp⟩,.nil,fun x b=>nomatch b⟩
theorem Pw.new{o u:Addr}{d kvs:List (Key×V)}{l:List Int}{H g:Hp}{N k:Int}(nd:l.Nodup)(n:∀x∈l,Av d (Sum.inl x)=none)(i:∀x∈l,(Av kvs (Sum.inl x)).isSome=true)(m:∀k,(Av d k).isSome=true->(Av kvs k).isSome=true)(r:kvs.length<=d.length+l.length)(nk:Av kvs (Sum.inl k)=none)(f:Lv C g o u k (putK kvs (Sum.inl k) (.bl true))):Pw C o u d (l++[k]) g:=by
 have keep:∀j,(Av kvs j).isSome=true->(Av (putK kvs (Sum.inl k) (.bl true)) j).isSome=true:=fun j h=>by
  rw[Fj];split
  ·rfl
  ·exact h
 refine⟨⟨k,_,f,fun x c=>?_,fun j h=>keep _ (m j h),by have:=CP kvs (Sum.inl k) (.bl true);simp;lia⟩,?_,fun x c=>?_⟩
 ·rcases List.mem_append.mp c with c|c
  ·exact keep _ (i x c)
  ·rw[List.mem_singleton.mp c,Fj,if_pos rfl];rfl
 ·refine List.nodup_append.mpr ⟨nd,by simp,fun a p b q e=>?_⟩;rw[List.mem_singleton.mp q]at e;have:=i a p;rw[e,nk]at this;cases this
 ·rcases List.mem_append.mp c with c|c
  ·exact n x c
  ·rw[List.mem_singleton.mp c];cases h:Av d (Sum.inl k)with
   |none=>rfl
   |some z=>
    have:=m (Sum.inl k) (by rw[h];rfl);rw[nk]at this;cases this
def cb(t b:Pt)(f:List Int):Prop:=∃a:Ak,t=a.pt/\Ak.Pr a b f
theorem Ql:∀{as:List Ak}{b:List Pt}{fs:List (List Int)},Jg cb (as.map Ak.pt) b fs->Ak.Ey as b fs
 |[],_,_,.nil=>.nil
 |a::as,_,_,.cons ⟨c,e,h⟩ t=>by
  have:=Ak.FV _ _ e;subst this;exact .cons h (Ql t)
section
variable{K:rg} [Bb K]
def Qm(C:Addr):Sp:=fun b H Q E=>∃(o u:Addr)(a:List (Key×V))(G:Hp)(v:V)(L:Addr),b=[v,.ref L,.ref o]/\a.length<=900/\IX (K:=K) cb Ak.Vd [o,u] (Pw C o u a) G [v,.ref L] H Q E
inductive OO(C T:Addr)(d:Pos)(g:Str)(vs:List V)(H:Hp)(Q:VK):Prop
 |mk(G:Hp)(v:V)(o u:Addr)(h:List (Key×V))(N:Int)(a:Ak)(k:vs=[v,.ref o])(l:AG G H)(m:G T=none)(n:Val G v a.pt)(p:a.Ct)(q:a.wt<=900)(r:G o=none)(s:G u=none)(t:Lv C H o u N h)(y:h.length<=900)(i:DU d g T H)(j:∀(w:V) (b:Pt) (f:List Int) (c:Hp),(∀z e,z≠T->z∉[o,u]->H z=some e->c z=some e)->(∀z,c z=none->H z=none)->DU d g T c->Val (nw H c) w b->Ak.Pr a b f->f.Nodup->(∀x∈f,Av h (Sum.inl x)=none)->Q w c):OO C T d g vs H Q
def Qn(C T:Addr)(a:Pos)(b:Str):Sp:=fun c H Q _=>OO (K:=K) C T a b c H Q
end
section
variable{X:Cx}
inductive VA(K:rg)(xs:List V)(H:Hp)(Q:VK):Prop
 |mk(x:V)(p:Addr)(T:String)(a:List String)(b:Bool)(c:xs=[x,.ref p])(d:H p=some (.tup (a.map V.ty)))(e:Mq H x T)(f:PySem.W.kitAny K (.type T) (a.map Value.type)=some b)(g:Q (.bl b) H)
theorem VB:∀{a:List String}{us:List Value},Vals (a.map V.ty) us->us=a.map Value.type
 |[],_,.nil=>rfl
 |c::a,_,.cons r t=>by
  rw[VB t];cases r;rfl
theorem LC:BE X (.builtin "isinstance") (VA X.K):=by
 intro pins s t H v w Q I r h;obtain⟨x,p,T,y,b,rfl,f,ty,e,q⟩:=h;obtain⟨u,z,rfl,g,a⟩:=vals2 r;cases a;obtain⟨i,j,k,_⟩:=I.tuple (Bm.of f);obtain⟨⟨l,A,data,B⟩,m,c,n,d⟩:=id k;simp only at c d;subst c d;have:=VB j;subst this;exact FT I g ty m e fun o=>⟨.bl _,H,I.tok o,rfl,q⟩
end
section
variable{X:Cx} {o:Expr} {to:TE} {name:Str} {apos Ca:Pos} {id:String} {r:V->List V->Hp->VK->Prop}
def bP(r:V->List V->Hp->VK->Prop)(to:TE):TE:=fun c H Q=>to c H fun x b=>(∃a kvs,x=.ref a/\Rd b a (.dK kvs))/\r x [] b Q
theorem Ws(l:PlainAttrs "dict")(slot:Slot "dict" name id)(d:typeOf (.builtin id)=pure (.type "method_descriptor"))(m:eD X id r)(n:PE X o to)(b:attributeBase o name X.env (eval o X.env)=eval o X.env:=by rfl)(c:(apos.endLine==Ca.line)=true:=by rfl):PE X (.Call (.Attribute o name apos) [] [] Ca) (bP r to):=by
 intro pins s f H Q I h;refine wpAny_Call_method0_late b c (BH (n pins s f H _ I h) fun v p ⟨x,q,g,i,ty,t⟩=>?_);obtain⟨a,kvs,rfl,u⟩:=ty;cases(show v=Value.ref a from i);obtain⟨_,_,_,_,j,_,_,e,k,_⟩:=DL g.Ap u;exact⟨"dict",id,l,slot,d,⟨j,e,k.1⟩,(fun a w=>by cases w;exact⟨j,e,k.2.1⟩),Calls.callWith_builtin rfl (PySem.evalArgs_none (m pins p f q (.ref a) [] (.ref a) [] Q g i .nil t))⟩
end
variable{T:Addr}
theorem Er{x:_}(z:H T=some (.IC x))(a:Addr)(u:HO)(n:IT u=true)(h:Rd H a u):Rd (Bo [T] H) a u:=by
 have b:a∉[T]:=fun m=>by
  rw[List.mem_singleton.mp m]at h;rcases h with h|⟨c,h⟩<;>rw[z]at h<;>cases h<;>cases n
 unfold Rd;rw[Ag b];exact h
theorem DU.IC{pos:Pos}{qual:Str}(h:DU pos qual T H):∃x,H T=some (.IC x):=by
 cases h with
 |new h=>exact⟨_,h⟩
 |old _ _ _ _ h=>exact⟨_,h⟩
namespace Pt
theorem DO{n:Nat}:∀{l:List Pt},(∀d∈l,d.size<=n)->AI l<=n*l.length
 |[],_=>Nat.zero_le _
 |x::r,h=>by
  have:=h x List.mem_cons_self;have:=DO (l:=r) fun d a=>h d (List.mem_cons_of_mem _ a);simp only[AI,List.length_cons,Nat.mul_succ];lia
theorem Ec{n:Nat}:∀{l:List Pt},(∀d∈l,d.deep<=n)->AS l<=n
 |[],_=>Nat.zero_le _
 |x::r,h=>by
  have:=h x List.mem_cons_self;have:=Ec (l:=r) fun d a=>h d (List.mem_cons_of_mem _ a);simp only[AS];lia
theorem Ce:∀{a b:List Pt},AI (a++b)=AI a+AI b
 |[],_=>by simp[AI]
 |x::r,b=>by simp only[List.cons_append,AI,Ce (a:=r)];lia
theorem GQ{a b:List Pt}(c:Bl a)(d:Bl b):Bl (a++b):=Dz fun x e=>by
 rcases List.mem_append.mp e with h|h
 ·exact Aw c x h
 ·exact Aw d x h
end Pt
theorem Qo{Hf Hi:Hp}{D:Addr}(k:EH G Hf)(nD:∀u,¬Rd G D u)(s:∀b e,b≠D->Hf b=some e->Hi b=some e):EH G Hi where
 rd:=fun b u r=>(k.rd b u r).up fun o e=>s b o (fun z=>nD u (by rw[<-z];exact r)) e
 tp:=fun b xs e=>s b _ (fun z=>nD _ (by rw[<-z];exact .inl e)) (k.tp b xs e)
theorem Ak.Ji:∀{a b:List Ak},Ak.Bj (a++b)=Ak.Bj a++Ak.Bj b
 |[],_=>rfl
 |x::r,b=>by simp only[List.cons_append,Ak.Bj,Ak.Ji (a:=r),List.append_assoc]
theorem Ak.HV{b:Ak}(h:xs[i]?=some b):Ak.Bj (xs.take (i+1))=Ak.Bj (xs.take i)++b.BV:=by
 rw[List.take_add_one,h,Ak.Ji];simp only[Option.toList,Ak.Bj,List.append_nil]
theorem Pt.OP:∀{a b:List Pt},Pt.EL (a++b)=Pt.EL a++Pt.EL b
 |[],_=>rfl
 |x::r,b=>by simp only[List.cons_append,Pt.EL,Pt.OP (a:=r),List.append_assoc]
theorem Pt.LF{xs:List Pt}{b:Pt}(h:xs[i]?=some b):Pt.EL (xs.take (i+1))=Pt.EL (xs.take i)++b.KA:=by
 rw[List.take_add_one,h,Pt.OP];simp only[Option.toList,Pt.EL,List.append_nil]
theorem Pt.LG{xs:List Pt}{b:Pt}(h:xs[i]?=some b):Pt.AI (xs.take (i+1))=Pt.AI (xs.take i)+b.size/\Pt.AI (xs.take (i+1))<=Pt.AI xs:=by
 have e:Pt.AI (xs.take (i+1))=Pt.AI (xs.take i)+b.size:=by
  rw[List.take_add_one,h,Pt.Ce];simp only[Option.toList,Pt.AI];lia
 refine⟨e,?_⟩;have:=Pt.Ce (a:=xs.take (i+1)) (b:=xs.drop (i+1));rw[List.take_append_drop]at this;lia
theorem Ak.Jj:∀{xs:List Ak}{ys:List Pt}{i:Nat}{a:Ak}{y:Pt},xs[i]?=some a->ys[i]?=some y->Ak.DN (xs.take (i+1)) (ys.take (i+1))=Ak.DN (xs.take i) (ys.take i)++Ak.free a y
 |x::xs,z::ys,0,a,y=>fun b c=>by
  cases b;cases c;simp only[List.take_succ_cons,List.take_zero,Ak.DN,List.append_nil,List.nil_append]
 |x::xs,z::ys,i+1,a,y=>fun b c=>by
  have d:xs[i]?=some a:=by simpa using b
  have e:ys[i]?=some y:=by simpa using c
  simp only[List.take_succ_cons,Ak.DN,Ak.Jj d e,List.append_assoc]
 |[],_,_,_,_=>fun h=>by simp at h
 |_::_,[],_,_,_=>fun _ h=>by simp at h
theorem Ak.Jk{ks:List Str}{xs:List Ak}:∀{ss:List Str}{ys:List Pt}{i:Nat}{n:Str}{a:Ak}{y:Pt},ss[i]?=some n->ys[i]?=some y->lk ks xs n=some a->Ak.DI ks xs (ss.take (i+1)) (ys.take (i+1))=Ak.DI ks xs (ss.take i) (ys.take i)++Ak.free a y
 |s::ss,z::ys,0,n,a,y=>fun b c d=>by
  cases b;cases c;simp only[List.take_succ_cons,List.take_zero,Ak.DI,List.append_nil,List.nil_append,d]
 |s::ss,z::ys,i+1,n,a,y=>fun b c d=>by
  have e:ss[i]?=some n:=by simpa using b
  have f:ys[i]?=some y:=by simpa using c
  simp only[List.take_succ_cons];rw[Ak.DI,Ak.Jk e f d,Ak.DI,List.append_assoc]
 |[],_,_,_,_,_=>fun h=>by simp at h
 |_::_,[],_,_,_,_=>fun _ h=>by simp at h
theorem Pt.Es:∀{a b:List Pt},Pt.AS (a++b)=max (Pt.AS a) (Pt.AS b)
 |[],_=>by simp[Pt.AS]
 |x::r,b=>by simp only[List.cons_append,Pt.AS,Pt.Es (a:=r)];lia
namespace Ak
mutual
theorem Qp:∀a:Ak,a.Ct->Pt.Bl a.BV/\Pt.AI a.BV<=a.wt/\Pt.AS a.BV<=a.dp
 |any,_=>⟨trivial,Nat.zero_le _,Nat.zero_le _⟩
 |BC d,o=>⟨⟨o,trivial⟩,by simp[BV,Pt.AI,wt],by simp[BV,Pt.AS,dp]⟩
 |row xs m,o=>by
  simp only[Ct]at o;obtain⟨b,c,e⟩:=Jl xs o;exact⟨b,by simp only[BV,wt];lia,by simp only[BV,dp];lia⟩
 |tab f xs ls m,o=>by
  simp only[Ct]at o;obtain⟨b,c,e⟩:=Jl xs o.2.2.2.2.2.2;exact⟨b,by simp only[BV,wt];lia,by simp only[BV,dp];lia⟩
theorem Jl:∀xs:List Ak,H_ xs->Pt.Bl (Bj xs)/\Pt.AI (Bj xs)<=Dm xs/\Pt.AS (Bj xs)<=Mr xs
 |[],_=>⟨trivial,Nat.zero_le _,Nat.zero_le _⟩
 |x::r,o=>by
  simp only[H_]at o;obtain⟨a,c,d⟩:=Qp x o.1;obtain⟨b,e,f⟩:=Jl r o.2;refine⟨Pt.GQ a b,?_,?_⟩
  ·simp only[Bj,Dm,Pt.Ce];lia
  ·simp only[Bj,Mr,Pt.Es];lia
end
end Ak
namespace Pt
def flat:Pt->Prop
 |int _|str _=>True
 |_=>False
mutual
theorem VC:∀t:Pt,t.doc->∀x∈t.KA,x.flat
 |int i,_,x,a=>by simp only[KA,List.mem_singleton]at a;subst a;trivial
 |str i,_,x,a=>by simp only[KA,List.mem_singleton]at a;subst a;trivial
 |bl _,d,_,_=>by simp[doc]at d
 |Ai,d,_,_=>by simp[doc]at d
 |tup _,d,_,_=>by simp[doc]at d
 |lst xs,d,x,a=>by simp only[doc]at d;simp only[KA]at a;exact Et xs d x a
 |BI ks xs,d,x,a=>by simp only[doc]at d;simp only[KA]at a;exact Et xs d.2.2.2.2 x a
theorem Et:∀xs:List Pt,Bl xs->∀x∈EL xs,x.flat
 |[],_,x,a=>nomatch a
 |y::r,d,x,a=>by
  simp only[Bl]at d;rcases List.mem_append.mp a with h|h
  ·exact VC y d.1 x h
  ·exact Et r d.2 x h
end
end Pt
theorem Qq{K:rg}[Bb K]{H:Hp}:∀{ws:List V}{ts:List Pt},AQ H ws ts->(∀t∈ts,t.flat)->ws.all E_=true/\∀x:Int,Pt.int x∉ts->Sg (.int x) ws=false
 |_,_,.nil,_=>⟨rfl,fun _ _=>rfl⟩
 |_,_,.cons (t:=t) h r,f=>by
  obtain⟨d,g⟩:=Qq r fun t j=>f t (List.mem_cons_of_mem _ j);have a:=f t List.mem_cons_self;cases h with
  |int i=>
   refine⟨by rw[List.all_cons,d];rfl,fun x b=>?_⟩;have k:i≠x:=fun e=>b (by rw[e];exact List.mem_cons_self);have:=g x fun c=>b (List.mem_cons_of_mem _ c);unfold Sg at this⊢;rw[List.any_cons,this];simp[Sf,k]
  |str s=>
   refine⟨by rw[List.all_cons,d];rfl,fun x b=>?_⟩;have:=g x fun c=>b (List.mem_cons_of_mem _ c);unfold Sg at this⊢;rw[List.any_cons,this];rfl
  |bl _=>exact a.elim
  |Ai=>exact a.elim
  |lst _ _=>exact a.elim
  |tup _ _=>exact a.elim
  |BI _ _ _=>exact a.elim
theorem SG:∀{l:List Pt}{f:List Int},l.Perm (f.map Pt.int)->∃g:List Int,l=g.map Pt.int/\(f.Nodup->g.Nodup)/\∀x∈g,x∈f:=fun{l f} p=>by
 have:∀l:List Pt,(∀t∈l,∃i∈f,t=Pt.int i)->∃g:List Int,l=g.map Pt.int/\∀x∈g,x∈f:=fun l=>by
  induction l with
  |nil=>exact fun _=>⟨[],rfl,fun x a=>nomatch a⟩
  |cons t r k=>
   intro h;obtain⟨i,b,rfl⟩:=h t List.mem_cons_self;obtain⟨g,rfl,c⟩:=k fun t d=>h t (List.mem_cons_of_mem _ d);exact⟨i::g,rfl,fun x a=>by rcases List.mem_cons.mp a with rfl|a;exact b;exact c x a⟩
 obtain⟨g,e,c⟩:=this l fun t d=>by
  obtain⟨i,b,e⟩:=List.mem_map.mp (p.mem_iff.mp d);exact⟨i,b,e.symm⟩
 refine⟨g,e,fun nd=>?_,c⟩;have m:(f.map Pt.int).Nodup:=List.pairwise_map.mpr (nd.imp fun h e=>h (Pt.int.inj e));have j:=p.nodup_iff.mpr m;rw[e]at j;exact(List.pairwise_map.mp j).imp fun h e=>h (by rw[e])
theorem OQ{K:rg}[Bb K]{H:Hp}:∀{ws:List V}{g:List Int},AQ H ws (g.map Pt.int)->ws=g.map V.int
 |_,[],.nil=>rfl
 |_,i::g,.cons h r=>by cases h;rw[OQ r];rfl
theorem SH(g:List Int):(g.map V.int).all E_=true:=by rw[List.all_map];exact List.all_eq_true.mpr fun _ _=>rfl
theorem ints_in{g:List Int}{x:Int}(h:x∉g):Sg (.int x) (g.map V.int)=false:=by
 unfold Sg;rw[List.any_map];refine List.any_eq_false.mpr fun y a=>?_;simp only[Function.comp,Sf,beq_iff_eq];exact fun e=>h (by rw[<-e];exact a)
theorem DU.fj{a:Pos}{b:Str}{e:Hp}(g:DU a b T e)(i:H T≠none):DU a b T (L2.HQ H e):=by
 obtain⟨o,f⟩:=Option.ne_none_iff_exists'.mp i;cases g with
 |new h=>exact .new (by rw[IV f];exact h)
 |old c j k t h l d n=>exact .old c j k t (by rw[IV f];exact h) (Wi l) d n
variable{K:rg}
theorem DU.bQ [Bb K] {g:Pos} {i:Str} {a:Hp} (k:DU g i T H) (f:HG (K:=K) G d H a) (p:Vf G H):DU g i T a:=by
 have st:∀b o,H b=some o->(¬Plain o)->a b=some o:=fun b o e l=>by
  rcases f b o e with h|⟨u,t,j,r,_⟩
  ·exact h
  ·have:=p b u j r;rw[e]at this;cases this;exact absurd j l
 cases k with
 |new h=>exact .new (st _ _ h fun z=>z)
 |old c m q t h s d n=>exact .old c m q t (st _ _ h fun z=>z) (st _ _ s fun z=>z) d n
variable{vs:List V}
theorem IY{a:Type}{ps:List a}{g:a->V}(h:vs.length=ps.length)(o:∀(i:Nat) v,vs[i]?=some v->∃p,ps[i]?=some p/\v=g p):vs=ps.map g:=by
 refine List.ext_getElem (by simpa using h) fun i b f=>?_;obtain⟨p,e,c⟩:=o i _ (rW b);rw[List.getElem_map];have d:i<ps.length:=by lia
 rw[rW d]at e;rw[c,rY e]
section
variable{K:rg} [Bb K]
theorem LI{j:TE}{fs:List Nat}{l:St}(g:Pt->V)(h:Rd H a (.lst vs))(r:AQ H vs ts)(q:vs.length<=sizeLine)(s:∀(i:Nat) x t H2 (R:VK),vs[i]?=some x->ts[i]?=some t->Val H x t->AG H H2->(∀c,AG H2 c->R (g t) c)->j (some x::Bu l fs) H2 R)(u:∀D H2,H D=none->AG H H2->H2 D=some (.lst (ts.map g))->Q (.ref D) H2):Cc (YH K a) Gn j fs l H Q:=by
 have B:=r.length;refine CU (n:=vs.length) (fun i=>vs.getD i .Ai) (fun i v=>∃p,ts[i]?=some p/\v=g p) q (fun i H2 d b=>⟨_,_,.inl (h.up (b _)),rW d⟩) (fun i H2 v C d b y=>?_) (fun H2 b=>⟨_,.inl (h.up (b _)),Nat.le_refl _⟩) (fun i H2 R d b k=>?_) (fun D H2 E w b m F or=>?_)
 ·obtain⟨e,y⟩:=y;refine⟨?_,e⟩;have:=y _ (.inl (h.up (b _)));rw[List.getD_eq_getElem?_getD,this];rfl
 ·obtain⟨x,f⟩:∃x,vs[i]?=some x:=⟨_,rW d⟩;obtain⟨t,o,z⟩:=r.get f;rw[show vs.getD i .Ai=x by rw[List.getD_eq_getElem?_getD,f];rfl];exact s i x t H2 R f o z b fun c A=>k _ c A ⟨t,o,rfl⟩
 ·rw[IY (by lia) or]at m;exact u D H2 w b m
theorem Jm{kvs:List (Key×V)}{j:TE}{fs:List Nat}{l:St}{m:Hp}(g:Pt->V)(F:Nd a o kvs H m)(f:kvs.map (·.1)=ks.map Sum.inr)(r:AQ H (kvs.map (·.2)) ts)(nd:ks.Nodup)(z:ks.length<=sizeLine)(A:∀(i:Nat) k x t H2 (R:VK),ks[i]?=some k->ts[i]?=some t->Av kvs (Sum.inr k)=some x->Val H x t->EH H H2->(∀c,AG H2 c->R (g t) c)->j (some (.str k)::Bu l fs) H2 R)(B:∀D H2,H D=none->AG H (back a H H2)->H2 a=some (.BP o (.dK kvs))->back a H H2 D=some (.lst (ts.map g))->Q (.ref D) H2):Cc (XZ a o kvs) Gn j fs l m Q:=by
 have lk:kvs.length=ks.length:=by have:=congrArg List.length f;simpa using this
 have lt:ts.length=ks.length:=by have:=r.length;simp only[List.length_map]at this;lia
 refine CU (n:=ks.length) (fun i=>.str (ks.getD i "")) (fun i v=>∃p,ts[i]?=some p/\v=g p) z (fun i H2 d b=>⟨b _ _ F.at_,by lia⟩) (fun i H2 v J d b y=>?_) (fun H2 b=>⟨b _ _ F.at_,by lia⟩) (fun i H2 R d b k=>?_) (fun D H2 L q b s M or=>?_)
 ·obtain⟨e,k,N,C,u⟩:=y;rw[(Gw f C).2]at u;exact⟨u,e⟩
 ·obtain⟨x,t,E,w,G⟩:=JX f r nd d;have h:ks[i]?=some (ks.getD i ""):=by rw[List.getD_eq_getElem?_getD,rW d];rfl
  exact A i _ x t H2 R h w E G ((EH.BP F).trans (.of b)) fun c I=>k _ c I ⟨t,w,rfl⟩
 ·rw[IY (by lia) or]at s;have Da:D≠a:=(F.free q).2;exact B D H2 (F.free q).1 (F.back b) (b _ _ F.at_) (by rw[CI Da];exact s)
theorem Px{m:TE}{fs:List Nat}{o:St}(g:Ak->V)(h:Rd H a (.lst vs))(r:AQ H vs (xs.map Ak.pt))(u:vs.length<=sizeLine)(w:∀(i:Nat) x b H2 (R:VK),vs[i]?=some x->xs[i]?=some b->Val H x b.pt->AG H H2->(∀d,AG H2 d->R (g b) d)->m (some x::Bu o fs) H2 R)(z:∀D H2,H D=none->AG H H2->H2 D=some (.lst (xs.map g))->Q (.ref D) H2):Cc (YH K a) Gn m fs o H Q:=by
 have A:=r.length;rw[List.length_map]at A;refine CU (n:=vs.length) (fun i=>vs.getD i .Ai) (fun i v=>∃p,xs[i]?=some p/\v=g p) u (fun i H2 f c=>⟨_,_,.inl (h.up (c _)),rW f⟩) (fun i H2 v F f c y=>?_) (fun H2 c=>⟨_,.inl (h.up (c _)),Nat.le_refl _⟩) (fun i H2 R f c k=>?_) (fun D H2 G B c q I or=>?_)
 ·obtain⟨e,y⟩:=y;refine⟨?_,e⟩;have:=y _ (.inl (h.up (c _)));rw[List.getD_eq_getElem?_getD,this];rfl
 ·obtain⟨x,j⟩:∃x,vs[i]?=some x:=⟨_,rW f⟩;obtain⟨t,s,C⟩:=r.get j;obtain⟨b,l⟩:∃b,xs[i]?=some b:=⟨_,rW (by lia)⟩;rw[List.getElem?_map,l]at s;cases s;rw[show vs.getD i .Ai=x by rw[List.getD_eq_getElem?_getD,j];rfl];exact w i x b H2 R j l C c fun d E=>k _ d E ⟨b,l,rfl⟩
 ·rw[IY (by lia) or]at q;exact z D H2 B c q
theorem OR{kvs:List (Key×V)}{m:TE}{fs:List Nat}{q:St}{s:Hp}(g:Ak->V)(F:Nd a o kvs H s)(h:kvs.map (·.1)=ks.map Sum.inr)(r:AQ H (kvs.map (·.2)) (xs.map Ak.pt))(nd:ks.Nodup)(B:ks.length<=sizeLine)(C:∀(i:Nat) k x b H2 (R:VK),ks[i]?=some k->xs[i]?=some b->Av kvs (Sum.inr k)=some x->Val H x b.pt->EH H H2->(∀d,AG H2 d->R (g b) d)->m (some (.str k)::Bu q fs) H2 R)(E:∀D H2,H D=none->AG H (back a H H2)->H2 a=some (.BP o (.dK kvs))->back a H H2 D=some (.lst (xs.map g))->Q (.ref D) H2):Cc (XZ a o kvs) Gn m fs q s Q:=by
 have lk:kvs.length=ks.length:=by have:=congrArg List.length h;simpa using this
 have lt:xs.length=ks.length:=by have:=r.length;simp only[List.length_map]at this;lia
 refine CU (n:=ks.length) (fun i=>.str (ks.getD i "")) (fun i v=>∃p,xs[i]?=some p/\v=g p) B (fun i H2 f c=>⟨c _ _ F.at_,by lia⟩) (fun i H2 v M f c y=>?_) (fun H2 c=>⟨c _ _ F.at_,by lia⟩) (fun i H2 R f c k=>?_) (fun D H2 N u c w O or=>?_)
 ·obtain⟨e,k,P,G,z⟩:=y;rw[(Gw h G).2]at z;exact⟨z,e⟩
 ·obtain⟨x,t,I,A,J⟩:=JX h r nd f;obtain⟨b,j⟩:∃b,xs[i]?=some b:=⟨_,rW (by lia)⟩;rw[List.getElem?_map,j]at A;cases A;have l:ks[i]?=some (ks.getD i ""):=by rw[List.getD_eq_getElem?_getD,rW f];rfl
  exact C i _ x b H2 R l j I J ((EH.BP F).trans (.of c)) fun d L=>k _ d L ⟨b,j,rfl⟩
 ·rw[IY (by lia) or]at w;have Da:D≠a:=(F.free u).2;exact E D H2 (F.free u).1 (F.back c) (c _ _ F.at_) (by rw[CI Da];exact w)
theorem Jn:∀ts:List Pt,(ts.map fun x=>(x.size:Int)).sum=(Pt.AI ts:Int)
 |[]=>rfl
 |t::r=>by
  simp only[List.map_cons,List.sum_cons,Pt.AI];rw[Jn r];lia
section
variable{J:It} {te:TE} {fs:List Nat} {σ:St} {H:Hp} {Q:VK}
theorem SJ(o:Option Addr)(n:Nat)(item:Nat->V)(a:Nat->List Pt->Hp->Prop)(P:n<=1000)(F:∀D,H D=none->a 0 [] (upd H D (.lst [])))(fr:∀i us H2 D ws,Bt o H H2->H D=none->a i us H2->a i us (upd H2 D (.lst ws)))(hl:∀l,o=some l->H l≠none)(x:∀i us H2,i<n->Bt o H H2->a i us H2->J.go i H2)(G:∀i us H2 v p,i<n->Bt o H H2->a i us H2->J.Oq i H2 v p->v=item i/\p=H2)(A:∀us H2,Bt o H H2->a n us H2->J.stop n H2)(I:∀i us H2 (R:VK),i<n->Bt o H H2->a i us H2->us.length=i->(∀w u f,Bt o H2 f->Val (nw H2 f) w u->a (i+1) (us++[u]) f->R w f)->te (some (item i)::Bu σ fs) H2 R)(L:∀D H2 ws us,H D=none->Bt o H H2->H2 D=some (.lst ws)->us.length=n->AQ (nw (upd H D (.lst [])) H2) ws us->a n us H2->Q (.ref D) H2):Cc J Gn te fs σ H Q:=by
 refine Lz n item (fun D i H2=>H D=none/\Bt o H H2/\∃ws us,H2 D=some (.lst ws)/\us.length=i/\AQ (nw (upd H D (.lst [])) H2) ws us/\a i us H2) (fun D c=>⟨c,.new .refl c,[],[],AB,rfl,.nil,F D c⟩) (fun D i H2 g ⟨_,s,ws,us,_,_,_,d⟩=>x i us H2 g s d) (fun D i H2 v p g ⟨_,s,ws,us,_,_,_,d⟩ y=>G i us H2 v p g s d y) (fun D H2 ⟨_,s,ws,us,_,_,_,d⟩=>A us H2 s d) (fun D i H2 _ g ⟨c,s,ws,us,j,q,r,d⟩=>?_) (fun D H2 _ ⟨c,s,ws,us,j,q,r,d⟩=>?_)
 ·refine I i us H2 _ g s d q fun w u f t M B=>?_;have N:o≠some D:=fun z=>hl D z c;have O:=t.keep D _ N j;have S:=r.length;have E:∀b,upd H D (.lst []) b=none->b≠D/\H b=none:=fun b h=>Bx h;refine⟨ws,O,Nat.lt_of_le_of_lt (by lia) (Am (Nat.le_refl 1000)),c,(s.trans t).new c,ws++[w],us++[u],AB,by simp[q],AQ.snoc (r.up (Bs (fun b h=>h) fun b e k C=>?_)) (M.up (Bs (fun b h=>?_) fun b e k C=>?_)),fr _ _ _ _ _ (s.trans t) c B⟩
  ·have m:=(E b k).1;rw[AH m];refine t.keep b e (fun z=>?_) C;exact hl b z (E b k).2
  ·have m:b≠D:=fun z=>by rw[z,j]at h;cases h
   rw[AH m];exact s.EJ b h
  ·have m:b≠D:=fun z=>by rw[z,j]at k;cases k
   rw[AH m];exact C
 ·exact L D H2 ws us c s j q r d
end
inductive Qr(T:Addr)(h:Pos)(i:Str)(vs:List V)(H:Hp)(Q:VK):Prop
 |mk(v:V)(a:Ak)(l:Addr)(ws:List V)(c:List Pt)(j:vs=[v,.ref l])(k:Val H v a.pt)(m:a.ok)(n:a.size<=80)(o:H l=some (.lst ws))(p:AQ H ws c)(q:Pt.Bl c)(r:Pt.AI c<=60)(s:DU h i T H)(t:∀(w:V) (b:Pt) (f:List Int) (g:Hp),(∀z e,z≠T->H z=some e->g z=some e)->DU h i T g->Val (nw H g) w b->Ak.Pr a b f->f.Nodup->(∀x∈f,∀d,d∈a.BV∨d∈c->Pt.int x∉d.KA)->Q w g):Qr T h i vs H Q
def VD(T:Addr)(a:Pos)(b:Str):Sp:=fun c H Q _=>Qr (K:=K) T a b c H Q
inductive SK(n:Nat)(vs:List V)(H:Hp)(Q:VK):Prop
 |mk(G:Hp)(v:V)(a:Ak)(d:vs=[v])(e:EH G H)(f:Val G v a.pt)(g:a.Ct)(h:a.wt<=900)(i:a.deep<=n)(j:∀(p:Addr) (b:List V) (c:Hp),AG H c->H p=none->c p=some (.lst b)->AQ G b a.BV->b.length<=a.wt->Q (.ref p) c)
def GR(n:Nat):Sp:=fun a H Q _=>SK (K:=K) n a H Q
inductive Py(n:Nat)(vs:List V)(H:Hp)(Q:VK):Prop
 |mk(G:Hp)(v:V)(t:Pt)(c:vs=[v])(d:EH G H)(e:Val G v t)(f:t.doc)(g:t.size<=900)(h:t.deep<=n)(i:∀(p:Addr) (a:List V) (b:Hp),AG H b->H p=none->b p=some (.lst a)->AQ G a t.KA->a.length<=t.size->Q (.ref p) b)
def Dp(n:Nat):Sp:=fun a H Q _=>Py (K:=K) n a H Q
inductive VE(n:Nat)(vs:List V)(H:Hp)(Q:VK):Prop
 |mk(v:V)(t:Pt)(b:vs=[v])(c:Val H v t)(d:t.doc)(e:t.size<=900)(f:t.deep<=n)(g:∀(a:Hp),AG H a->Q (.int (t.size:Int)) a)
def Eu(n:Nat):Sp:=fun a H Q _=>VE (K:=K) n a H Q
inductive SM(n:Nat)(vs:List V)(H:Hp)(Q:VK):Prop
 |mk(v:V)(a:Ak)(c:vs=[v])(d:Val H v a.pt)(e:a.Ct)(f:a.wt<=900)(g:a.dp<=25)(h:a.deep+26<=n)(i:∀(b:Hp),AG H b->Q (.int (a.wt:Int)) b)
def GS(n:Nat):Sp:=fun a H Q _=>SM (K:=K) n a H Q
inductive VF(n:Nat)(vs:List V)(H:Hp)(Q:VK):Prop
 |mk(G:Hp)(v y:V)(a:Ak)(b:Pt)(f:List Int)(e:vs=[v,y])(g:EH G H)(h:Val G v a.pt)(i:Val G y b)(j:a.Ct)(k:a.wt<=900)(l:Ak.Pr a b f)(m:a.deep<=n)(o:∀(p:Addr) (c:List V) (d:Hp),AG H d->H p=none->d p=some (.lst c)->AQ G c (Ak.free a b)->c.length<=a.wt->Q (.ref p) d)
def IZ(n:Nat):Sp:=fun a H Q _=>VF (K:=K) n a H Q
inductive LJ(vs:List V)(H:Hp)(Q:VK):Prop
 |mk(v y:V)(a:Ak)(b:Pt)(f:List Int)(l:Addr)(ws:List V)(c:List Pt)(m:vs=[v,y,.ref l])(n:Val H v a.pt)(o:Val H y b)(p:a.ok)(q:a.size<=80)(r:Ak.Pr a b f)(s:a.deep<=20)(t:H l=some (.lst ws))(u:AQ H ws c)(w:Pt.Bl c)(g:Pt.AI c<=60)(h:Pt.AS c<=20)(i:f.Nodup)(j:∀x∈f,∀d,d∈a.BV∨d∈c->Pt.int x∉d.KA)(k:∀(e:Hp),AG H e->Q (.bl true) e):LJ vs H Q
def OS:Sp:=fun a H Q _=>LJ (K:=K) a H Q
inductive SN(vs:List V)(H:Hp)(Q:VK):Prop
 |mk(s:Str)(lo a:Nat)(d:vs=[.str s,.int (lo:Int),.int (a:Int)])(e:lo<=s.length)(f:s.length<=a)(g:(sgn s).all Sh=true)(c:a<=100)(h:∀(b:Hp),AG H b->Q (.bl true) b)
def Jo:Sp:=fun a H Q _=>SN a H Q
inductive SO(n:Nat)(vs:List V)(H:Hp)(Q:VK):Prop
 |mk(v:V)(t:Pt)(b:vs=[v])(c:Val H v t)(d:t.doc)(e:t.txt)(f:t.size<=900)(g:t.deep+2<=n)(h:∀(a:Hp),AG H a->Q (.bl true) a)
def GU(n:Nat):Sp:=fun a H Q _=>SO (K:=K) n a H Q
inductive Jp(T:Addr)(c:Pos)(d:Str)(vs:List V)(H:Hp)(Q:VK):Prop
 |mk(v:V)(a:Ak)(l:Addr)(ws:List V)(b:List Pt)(j:vs=[v,.ref l])(k:Val H v a.pt)(m:a.ok)(n:a.size<=80)(g:a.deep<=18)(h:a.Mp)(o:H l=some (.lst ws))(p:AQ H ws b)(q:Pt.Bl b)(r:Pt.AI b<=60)(i:Pt.AS b<=20)(s:DU c d T H)(t:∀(f:Hp),(∀z e,z≠T->H z=some e->f z=some e)->DU c d T f->Q (.bl true) f):Jp T c d vs H Q
def LK(T:Addr)(a:Pos)(b:Str):Sp:=fun c H Q _=>Jp (K:=K) T a b c H Q
def OT:Sp:=fun f H Q _=>∃(v:V)(a:Ak)(c:Int)(e:Addr)(g:List Str),f=[v,.int c,.ref e]/\Val H v a.pt/\a.ok/\a.size<=65/\a.deep<=5/\a.Mp/\Vc H e g/\
 ∀(w:V)(b:Ak)(d:Hp),AG H d->Val d w b.pt->b.ok->b.size<=78->b.deep<=15->b.Mp->Q w d
end
def VG(o:Obj):Bool:=match o.data with
 | .fields a=>a.isEmpty
 |_=>false
def tabOf(o:Obj):Option Addr:=match o.data with
 | .fields a=>(match(a[11]?:Option Value)with|some (.ref T)=>some T|_=>none)
 |_=>none
def Ia(K:rg):rg:=K.filter fun p=> !VG p.2
variable{x:Str}{v:Option Value}{c:Value}{f:Addr}
section
variable{K:rg}
theorem DJ:∀{K:rg}{a:Addr}{o:Obj},K.lookup a=some o->VG o=false->(Ia K).lookup a=some o
 |[],_,_=>fun h _=>by cases h
 |(b,x)::r,a,o=>fun h t=>by
  unfold Ia;rw[List.lookup_cons]at h;rw[List.filter_cons];cases c:a==b with
  |true=>
   rw[c]at h;cases h;simp only[t,Bool.not_false,if_true,List.lookup_cons,c]
  |false=>
   rw[c]at h;have d:=DJ (K:=r) h t;unfold Ia at d;split
   ·rw[List.lookup_cons,c];exact d
   ·exact d
theorem Ba(h:PySem.W.nsIn K a x=some v):PySem.W.nsIn (Ia K) a x=some v:=by
 unfold PySem.W.nsIn at h⊢;split at h
 ·rename_i e
  rw[DJ e rfl];exact h
 ·cases h
theorem Jq{q:Str}(h:PySem.W.codeIn K c q=true):PySem.W.codeIn (Ia K) c q=true:=by
 unfold PySem.W.codeIn at h⊢;split at h
 ·split at h
  ·rename_i a _ e
   rw[DJ e (by
    show a.isEmpty=false;cases b:a.isEmpty with
    |false=>rfl
    |true=>
     rw[Array.isEmpty_iff]at b;rw[b]at h;cases h)]
   exact h
  ·cases h
 ·cases h
theorem Jr{a:Value}{b:Option Addr}{c:FuncData}{d:Array (Option Value)}(h:K.lookup f=some ⟨a,b,.func c,d⟩):PySem.W.keepIn (Ia K) (.ref f)=true:=by
 unfold PySem.W.keepIn;simp only[DJ h rfl]
theorem ZK{h:Heap}(A:PySem.W.X.AllIn h K):(Ia K).In h:=fun a o e=>by
 have m:=PySem.W.mem_of_lookupK e;have b:(a,o)∈K:=(List.mem_filter.mp m).1;clear m e
 induction K with
 |nil=>cases b
 |cons p r c=>
  rcases List.mem_cons.mp b with rfl|b
  ·exact A.1
  ·exact c A.2 b
theorem ZL(e:(Ia K).lookup a=some o):VG o=false:=by
 have m:=(List.mem_filter.mp (PySem.W.mem_of_lookupK e)).2;simpa using m
end
inductive Wu(K:rg)(T:Addr)(vs:List V)(H:Hp)(Q:VK)(c:XK):Prop
 |mk(a:Addr)(b:List Int)(e:vs=[.ref a])(f:Aq K H a (b.map V.int))(g:b.length<=63)(h:H T=some (.IC #[]))(i:∀d,Q (.bl true) d)
def Js(K:rg)(T:Addr):Sp:=fun b H Q a=>Wu K T b H Q a
theorem SQ{P:Program}{w:World}{mg X:Str->Option Value}{k:Nat}{fa c:Addr}{fd:FuncData}{f:Shared}{vs:List Value}{t:List Int}(Y:K.In f.heap)(G:f.heap.Ns mainGlobals mg)(i:f.heap.Ns builtinsNs X)(Z:∀x:Str,x≠"__name__"->X x=bootBuiltins x)(I:f.heap.NoLimit)(mL:BM mg f.heap)(hg:f.gens= #[])(D:f.heap.get? a=some {cls:=.type "list",data:=.seq vs.toArray})(hi:IntsAre vs t)(hl:t.length<=63)(hr:BQ k callerA)(E:f.heap.get? T=some (PySem.W.tabObj #[]))(hC:PySem.W.codeHdIn K c T=true)(mM:∀o,K.lookup T≠some o)(F:∀base:Heap,K.In base->base.Ns mainGlobals mg->BM mg base->Ac P w K mg base Bn k fa fd [x] (Js K T))(A:∀(s:Shared) (u:Value),BindsTo s fd ⟨[u],[]⟩ [(x,u)]):
  codeAny (model P w) callerA (.call (.ref fa) ⟨[.ref a],[]⟩) (fun r l=>r=.ok (.ret (.bool true))/\OldK f.heap l.heap/\l.os=f.os/\AllBare l.gens) f:=by
 have rv:=RV hi;have J:=hi.length;have L:t.length<=sizeLine:=Nat.le_trans hl (by decide);have aT:a≠T:=fun z=>by rw[z,E]at D;cases D
 have core:∀H:Hp,Aq K H a (t.map V.int)->DV P w H f.heap->H T=some (.IC #[])->(∀b,H b=none∨b=T∨(b=a/\∃o u,H b=some (.BP o u)))->(H a≠none->K.lookup a=none)->
   codeAny (model P w) callerA (.call (.ref fa) ⟨[.ref a],[]⟩) (fun r l=>r=.ok (.ret (.bool true))/\OldK f.heap l.heap/\l.os=f.os/\AllBare l.gens) f:=by
  intro H hS M N hA hK;have g:∀{b:Addr}{o:Obj},f.heap.get? b=some o->H b=none->(KD f.heap H).get? b=some o:=fun e n=>Si e n;have O:∀{b:Addr}{o:Obj},f.heap.get? b=some o->(∀B n,o.data≠.seq B n)->(∀B,o.data≠.fields B)->H b=none:=fun{b o} e R d2=>by
   rcases hA b with z|rfl|⟨rfl,_⟩
   ·exact z
   ·rw[E]at e;cases e;exact absurd rfl (d2 #[])
   ·rw[D]at e;cases e;exact absurd rfl (R _ _)
  have mN:∀{b:Addr}{o:Obj}{S:Array DictEntry}{U:Nat},f.heap.get? b=some o->o.data=.dict S U->H b=none:=fun{b o S U} e d=>O e (fun B n q=>by rw[d]at q;cases q) fun B q=>by rw[d]at q;cases q
  have p:∀{b:Addr}{m:Str->Option Value},f.heap.Ns b m->(KD f.heap H).Ns b m:=fun{b m} ⟨o,S,U,e,d,r⟩=>⟨o,S,U,g e (mN e d),d,r⟩;have Q:K.In (KD f.heap H):=fun b o e=>g (Y b o e) (by
   rcases hA b with z|rfl|⟨rfl,o2,u2,z⟩
   ·exact z
   ·exact absurd e (mM o)
   ·rw[hK (by rw[z];simp)]at e;cases e)
  have hM:Mod K mg (KD f.heap H):=⟨Q,p G,⟨X,p i,Z⟩,let⟨mc,h1,h2⟩:=I;⟨mc,p h1,h2⟩⟩;have mP:BM mg (KD f.heap H):=by
   obtain⟨bm,ob,b1,b2,b3,b4,b5,b6⟩:=mL;exact⟨bm,ob,b1,b2,g b3 (O b3 (fun B n q=>by rw[b6]at q;cases q) fun B q=>by rw[b6]at q;cases q),b4,b5,b6⟩
  have e0:M_ P w K mg (KD f.heap H) callerA [] f H:=⟨rfl,hM,fun b o e=>Vi e,Nat.le_of_eq (RH _ _),trivial,fun b i=>absurd (show b∈([]:List Addr)from i) (by simp),M,.of_eq hg⟩;refine codeAny_mono ((F _ Q (p G) mP).run callerA [] f H ⟨[.ref a],[]⟩ [.ref a] [.ref a] (fun v _=>v=.bl true) (fun _ _ _=>False) hr e0 (A f (.ref a)) (.cons rfl .nil) ⟨a,t,rfl,hS,hl,N,fun _=>rfl⟩) fun r l h=>?_;cases r with
  |error e=>exact False.elim h
  |ok fl=>
   cases fl with
   |next=>exact False.elim h
   |brk=>exact False.elim h
   |cont=>exact False.elim h
   |ret u=>
    obtain⟨v,H',os,bare,un,y,r',q⟩:=h;have q':v=.bl true:=q;subst q';obtain rfl:u=Value.bool true:=r';obtain⟨more,eT⟩:=un.FJ T #[] N;have gT:l.heap.get? T=some (PySem.W.tabObj (#[]++more)):=y T _ eT;have kp:∀b o,b≠T->f.heap.get? b=some o->l.heap.get? b=some o:=fun b o n e=>by
     rcases hA b with z|z|⟨rfl,ob,u,z⟩
     ·exact un.keep b o e z (by intro z;exact absurd (show b∈([]:List Addr)from z) (by simp)) (by simp)
     ·exact absurd z n
     ·have z2:=un.DW b ob _ z;obtain⟨e1,_⟩:=M b _ z;obtain⟨e2,_⟩:=y b _ z2;rw[e]at e1;cases e1;exact e2
    refine⟨rfl,⟨fun b o e=>?_,fun b o e=>?_⟩,os,bare⟩
    ·by_cases z:b=T
     ·subst z;rw[E]at e;cases e;exact .inr (.inl ⟨((PySem.W.codeHd_of_K Y hC).tab E).isCodeTable,rfl, #[],more,rfl,gT⟩)
     ·exact .inl (kp b o z e)
    ·by_cases z:b=T
     ·exact⟨_,by rw[z];exact gT⟩
     ·exact⟨o,kp b o z e⟩
 cases hk:K.lookup a with
 |some o=>
  have e:=Y a o hk;rw[D]at e;cases e;refine core (fun b=>if b=T then some (.IC #[])else none) (.inr ⟨_,vs.toArray,_,hk,rfl,rfl,rfl,by rw[List.size_toArray,J];exact L,by simpa using rv⟩) (fun b u z=>?_) (if_pos rfl) (fun b=>?_) fun z=>absurd (if_neg aT) z
  ·by_cases i:b=T
   ·have j:=(if_pos i).symm.trans z;cases j;subst i;exact E
   ·have j:=(if_neg i).symm.trans z;cases j
  ·by_cases i:b=T
   ·exact .inr (.inl i)
   ·exact .inl (if_neg i)
 |none=>
  have R:(fun b=>if b=T then some (.IC #[])else if b=a then some (HO.BP {cls:=.type "list",data:=.seq vs.toArray} (.lst (t.map V.int)))else none:Hp) a=some (HO.BP {cls:=.type "list",data:=.seq vs.toArray} (.lst (t.map V.int))):=by
   show(if a=T then _ else if a=a then _ else _)=_;rw[if_neg aT,if_pos rfl]
  refine core (fun b=>if b=T then some (.IC #[])else if b=a then some (.BP {cls:=.type "list",data:=.seq vs.toArray} (.lst (t.map V.int)))else none) (.inl (.inr ⟨{cls:=.type "list",data:=.seq vs.toArray},R⟩)) (fun b u z=>?_) (if_pos rfl) (fun b=>?_) fun _=>hk
  ·by_cases i:b=T
   ·have j:=(if_pos i).symm.trans z;cases j;subst i;exact E
   ·have j:=(if_neg i).symm.trans z;by_cases i:b=a
    ·have j:=(if_pos i).symm.trans j;cases j;subst i;exact⟨D,by rw[List.length_map];exact L,vs,_,rv,D⟩
    ·have j:=(if_neg i).symm.trans j;cases j
  ·by_cases i:b=T
   ·exact .inr (.inl i)
   ·by_cases C:b=a
    ·exact .inr (.inr ⟨C,_,_,by rw[C];exact R⟩)
    ·exact .inl (by show(if b=T then _ else if b=a then _ else _)=_;rw[if_neg i,if_neg C])
theorem VH{l:PySem.W.OpenLaw}{k:Nat}{q:Program}{loose:List Str}{M:(Str->Option Value)->Heap->Prop}{d:DefRec}{K:Params->rg}{as:List Addr}{t:Nat}(e:∀P:Params,as=List.map (fun x=>x.fst) (K P))(N:l.most=some 63)(p:d.params.defaults=[])(O:BQ k callerA)(F:∀(w:World) (mg:Str->Option Value) (fa:Addr) (h:Heap),(Ia (K w.params)).In h->h.Ns mainGlobals mg->mg d.name=some (.ref fa)->
   ∃(r:FuncData) (c T:Addr),(K w.params).lookup T=some (PySem.W.tabObj #[])/\PySem.W.codeHdIn (Ia (K w.params)) c T=true/\(∀(s:Shared) (u:Value),BindsTo s r ⟨[u],[]⟩ [(x,u)])/\
    ∀base:Heap,(Ia (K w.params)).In base->base.Ns mainGlobals mg->BM mg base->Ac l.prog w (Ia (K w.params)) mg base Bn k fa r [x] (Js (Ia (K w.params)) T)):
  PySem.W.WalkX q loose M (PySem.W.X.obsZ as) (PySem.W.X.valZ K n t) l.row.toRowW d [] (fun f vs=>PySem.call f vs):=by
 intro w j i mg E G y a o H I doc Q kV R S U V Z h6 args vals v L p1 p2 p3 p4 p5;have AK:=(PySem.W.X.z_facts e y).1;have A:(K w.params).In i.heap:=(show(K w.params).In j.heap from(PySem.W.X.z_facts e y).2.1).keeps L.keeps;have B:(Ia (K w.params)).In i.heap:=(ZK AK).keeps L.keeps;refine jA.NK (l:=l) (YP:=fun w h=>(K w.params).In h/\(Ia (K w.params)).In h) N p (fun w j i mg E fa o H I doc a vs ns G Y ho hd jF C m hints hlen hg=>?_) w j i mg E G ⟨A,B⟩ a o H I doc Q kV R S U V Z h6 args vals v p1 p2 p3 p4 p5;obtain⟨KF,D⟩:=Y;obtain⟨r,c,T,hT,hC,hb,hF⟩:=F w mg fa _ D G.T.g C;have J:=KF _ _ hT;exact SQ D G.T.g G.T.b G.T.builtins G.T.nolimit G.T.bmain hg m hints hlen O J hC (fun o z=>by
  have:=D _ _ z;rw[J]at this;cases this;have:=ZL z;cases this) hF hb
section
variable{K:rg}
theorem Qs(h:PySem.W.ownIn K x c=some v):PySem.W.ownIn (Ia K) x c=some v:=by
 cases c with
 |ref a=>
  unfold PySem.W.ownIn at h⊢;dsimp only at h⊢;split at h
  ·rename_i e
   rw[DJ e rfl];exact Ba h
  ·cases h
 |_=>exact h
theorem LL{x:Str}:∀{l:List Value}{v:Option Value},PySem.W.alongIn K x l=some v->PySem.W.alongIn (Ia K) x l=some v
 |[],v=>fun h=>h
 |c::r,v=>fun h=>by
  unfold PySem.W.alongIn at h⊢;split at h
  ·rename_i e
   rw[Qs e];exact h
  ·rename_i e
   rw[Qs e];exact LL h
  ·cases h
theorem VI(h:PySem.W.findIn K c x=some v):PySem.W.findIn (Ia K) c x=some v:=by
 cases c with
 |ref a=>
  unfold PySem.W.findIn at h⊢;dsimp only at h⊢;split at h
  ·rename_i e
   rw[DJ e rfl];exact LL h
  ·cases h
 |_=>exact h
end
theorem CA{p:Addr}{o:HO}(h:H p=none):∃a,upd H p o=a/\AG H a/\a p=some o:=⟨_,rfl,AG.new h,AB⟩
theorem BQ.mm{j k:Nat}{A:Around}(r:BQ k A)(h:j<=k:=by first|decide|omega):BQ j A:=r.mono h
variable{X:Cx}
theorem DP(K:rg){j:Int}(i:Nat){y:_}{b c pos:Pos}(d:X.N[i]?=some x:=by rfl)(f:cN X.env.scope x:=by first|exact Or.inl rfl|exact Or.inr (Or.inl rfl)|exact Or.inr (Or.inr rfl))(g:(x==("__debug__":Str))=false:=by decide)(a:(x==("__classdict__":Str))=false:=by decide)(e:X.K=K:=by rfl):PE X (.Subscript (.Name x b) (.Constant (.int j) y c) pos) (Sx (Vv K) (Ge i) (tC (.int j))):=by
 subst e;exact NB YR (pv i d f g a) AE (fun _ _=>rfl)
theorem Af(i:Nat){a:TE}{pos pos':Pos}(b:X.N.Nodup)(c:PE X e a)(d:X.N[i]?=some x:=by rfl)(f:Loc X.env.scope x:=by exact Or.inl rfl)(g:swapsWith e (some (.Name x pos')) pos.line X.env=pure false:=by rfl)(h:X.fn x=true∨X.env.scope.names.lookup x=some .local:=by first|exact .inl rfl|exact .inr rfl|assumption):
  PS X (.Assign [.Name x pos'] e pos) (Vl a (BR i)):=ER b d f c g h
theorem Qt{x y z:V}:[x,y,z].length<=sizeLine:=An (show 3<=1000 by decide)
theorem CY(i:Nat){pos:Pos}(a:X.N.Nodup)(b:X.N[i]?=some x:=by rfl)(c:Loc X.env.scope x:=by exact Or.inl rfl)(d:X.fn x=true∨X.env.scope.names.lookup x=some .local:=by first|exact .inl rfl|exact .inr rfl|assumption):PG X (.Name x pos) (BR i):=LW a b c d
section
variable{P:Program} {w:World} {K:rg} {mg:Str->Option Value} {base:Heap}
theorem CD.oq{qual:Str}{st:Stmt}{c:FuncData}{N ps:List Str}{k:Nat}{sp:Sp}(F:CD K x qual st f c)(S:AW N ps (AJ st))(a:∀(b:Value) (A:Around) (outer:List Env) (s:Shared) (H:Hp) (vs:List V) (Q:VK) (E:XK),BQ k (A.deeper (envOfC qual (AJ st) s.heap.objs.size f b))->sp vs H Q E->
   ∃t,Om (Lb Bn P w K mg base N qual (AJ st) f b A outer s H E).XI (Br st) t/\t {nx:=fun _ d=>Q .Ai d,rt:=Q} (start N vs) H)(len:∀vs H Q E,sp vs H Q E->vs.length=ps.length:=by intro _ _ _ _ h;first|(obtain⟨⟩:=h;subst_vars;rfl)|(obtain⟨_,⟨⟩⟩:=h;subst_vars;rfl)|(obtain⟨_,_,_,_,_,_,rfl,_⟩:=h;rfl)|(repeat obtain⟨_,h⟩:=h);subst_vars;rfl):Ac P w K mg base Bn (k+1) f c ps sp:=F.ok S len a
end
theorem Bg{k:Nat}{ps:List Str}{sp:Sp}{p pos:Pos}{a:List Expr}{t:TA}(D:Df X.prog X.w X.K X.mg X.base x ps k sp)(g:BQ k X.A)(h:PA X (e::a) t)(i:Gl X x:=by rfl)(c:(x==("__debug__":Str))=false:=by decide)(j:starEach (e::a) X.env=(false,eval e X.env)::starEach a X.env:=by rfl)(d:(backTo pos (starEach a X.env)).any (·.1)=false:=by rfl):PE X (.Call (.Name x p) (e::a) [] pos) (Ke sp [] E0 t):=by
 obtain⟨f,l,k,b,m,G⟩:=D.ex;exact QK G g i m k b .nil HJ h c j d
theorem AX{a:TE}(h:PE X e a)(b:starEach [e] X.env=(false,eval e X.env)::starEach [] X.env:=by rfl):PA X [e] (EU a Hh):=AA h Be b
theorem GV(K:rg){a b:Expr}{c d:TE}{pos:Pos}(f:PE X a c)(g:PE X b d)(h:QL b:=by exact fun _ _=>rfl)(e:X.K=K:=by rfl):PE X (.Subscript a b pos) (Sx (Vu K) c d):=by
 subst e;exact NB Vw f g h
theorem SR{o i:Expr}{a ty:TE}{pos:Pos}(b:X.A.units+1<cLine)(c:PE X o a)(d:PE X i ty)(e:Ya i:=by exact fun _ _=>rfl):PE X (.Subscript o i pos) (XT a ty):=WD b c d e
theorem cmp{b pos:Pos}{iter a:Expr}{c:TI}{d:TE}{scope:Scope}(fv:List Str)(fs:List Nat)(e:PI X (.Name x b) iter c)(f:∀C g h i,PE (NM X (x::fv) scope C g h i) a d)(j:X.calm=true:=by rfl)(ok:Cb X scope x fv fs:=by exact .of (by rfl))(k:∀x,foldedSetIterable iter X.env x=pure x:=by intro _;rfl):PE X (.ListComp a [⟨.Name x b,iter,[],0⟩] scope pos) (Kn c Gn d fs):=IK j ok e (fun _ _ _ _=>Lm) f k
theorem EM{a:TE}{p pos:Pos}(c:X.mg "len"=none)(h:PE X e a)(d:Gl X "len":=by rfl)(b:starEach [e] X.env=(false,eval e X.env)::starEach [] X.env:=by rfl):PE X (.Call (.Name "len" p) [e] [] pos) (Zk (DA X.K) (EU a Hh)):=AR Lh d c PySem.boot_len (AA h Be b) (by decide) (by decide) b
theorem Mt{a iter:Expr}{body:List Stmt}{b:TI}{g:TG}{c:TS}{pos:Pos}(d:PI X a iter b)(e:PG X a g)(f:Om X body c)(h:PassesOwn (model X.prog X.w) X.A X.env X.xe:=by exact PassesOwn.never)(i:X.calm=true:=by rfl)(j:∀x,foldedSetIterable iter X.env x=pure x:=by intro _;rfl):PS X (.For a iter body [] pos) (YI b g c):=YJ h i d e f j
theorem Bp{c:Bool}{A B:Prop}(h:B)(a:c=false:=by decide+kernel):if c=true then A else B:=Cp a h
theorem Ez{c:Bool}{A B:Prop}(h:A)(a:c=true:=by decide+kernel):if c=true then A else B:=FC a h
inductive FA(K:rg)(x:Str)(st:Stmt):Prop
 |mk(f:Addr)(b:FuncData)(F:CD K x x st f b)(a:PySem.W.nsIn K mainGlobals x=some (some (.ref f)))
theorem fa{st:Stmt}{e:Value}{g h:Option Addr}{d:Array (Option Value)}{kV doc pm b ct:Value}(a:PySem.W.nsIn K mainGlobals x=some (some (.ref f)))(l:K.lookup f=some ⟨e,g,.func (PySem.W.fnOf x x (CT st) (Br st) (AJ st) .none kV doc pm h b ct),d⟩)(c:PySem.W.codeIn K b x=true):FA (Ia K) x st:=⟨_,_,Ir (DJ l rfl) (Jq c) (Jr l),Ba a⟩
end L2
namespace ZM
open PySem L2
def top(i:Nat):Stmt:=PySem.Challenge.pw_patchbough_k44_a_least_document.main.body.getD i (.Pass ⟨0,0,0,0⟩)
abbrev Ew:Stmt:=top 1
abbrev Mb:Stmt:=top 2
abbrev GW:Stmt:=top 4
abbrev Jt:Stmt:=top 5
abbrev Mc:Stmt:=top 6
abbrev Fc:Stmt:=top 7
abbrev Md:Stmt:=top 8
abbrev HH:Stmt:=top 10
abbrev Ed:Stmt:=top 11
abbrev Me:Stmt:=top 12
abbrev Fd:Stmt:=top 14
abbrev Fe:Stmt:=top 15
abbrev Ju:Stmt:=top 16
abbrev HI:Stmt:=top 17
abbrev Mf:Stmt:=top 19
abbrev Cf:Stmt:=top 20
abbrev Ee:Stmt:=top 21
abbrev VJ:Stmt:=top 23
abbrev Wv:Stmt:=top 24
abbrev Pz:Stmt:=top 25
abbrev ZN:Stmt:=top 26
abbrev Qu:Stmt:=top 27
abbrev Qv:Stmt:=top 28
abbrev Qw:Stmt:=top 29
abbrev Qx:Stmt:=top 30
abbrev Mg:Stmt:=top 31
abbrev GX:Stmt:=top 32
abbrev Qy:Stmt:=top 33
abbrev Mh:Stmt:=top 34
abbrev Qz:Stmt:=top 35
abbrev P_:Stmt:=top 36
abbrev Mi:Stmt:=top 37
abbrev Ib:Stmt:=top 38
abbrev P':Stmt:=top 39
abbrev QA:Stmt:=top 40
abbrev Mj:Stmt:=top 41
abbrev CQ:Stmt:=inClass (top 18) 0
abbrev CB:Stmt:=inClass (top 18) 1
inductive bR{a:Type}(c d:a->Prop):Prop
 |mk(b:a)(e:c b)(f:d b)
inductive bS{c d:Type}(e f g h i j k l m:c->d->Prop):Prop
 |mk(a:c)(b:d)(n:e a b)(o:f a b)(p:g a b)(q:h a b)(h4:i a b)(r:j a b)(s:k a b)(t:l a b)(u:m a b)
inductive ZO{d e f:Type}(h i j k l m n o p q g:d->e->f->Prop):Prop
 |mk(a:d)(b:e)(c:f)(s:h a b c)(t:i a b c)(u:j a b c)(v:k a b c)(h4:l a b c)(w:m a b c)(x:n a b c)(y:o a b c)(z:p a b c)(A:q a b c)(r:g a b c)
inductive bT{a b c d:Type}(i j k l:a->b->c->d->Prop):Prop
 |mk(e:a)(f:b)(g:c)(h:d)(m:i e f g h)(n:j e f g h)(o:k e f g h)(p:l e f g h)
abbrev Xm:Pos:=⟨85,37,85,87⟩
abbrev Xn:Str:="sample_of"++".<locals>."++"<lambda>"
end ZM
namespace ZM
open PySem L2
variable{f C:Addr}{fd c Y a M:FuncData}{n:Nat}
section
variable{P:Program} {w:World} {K:rg} [Bb K] {mg:Str->Option Value} {base:Heap}
theorem ED:AW ["root","inner","found","at"] ["root","inner"] (AJ Ew):={}
theorem OU{u:Addr}{g:FuncData}(F:CD K "gathered" "gathered" Ew f Y)(T:Txt mg)(kI:PySem.W.keepIn K (.ref u)=true)(bI:Binds K g ["node"] [])(GI:Ac P w K mg base Bn 3 u g ["node"] Ja):Ac P w K mg base Bn 4 f Y ["root","inner"] (MR u):=by
 refine F.oq ED fun II A outer s H vs Q E Z h=>?_
 ·obtain⟨G,v,t,n,rfl,sG,hv,C,i,q⟩:=h;have nd:=ED.nd;have hu:=Az Z;have D:BQ 3 _:=Z.mono (by decide);refine⟨_,(AD (Af 2 nd (Ah (AX (pv 0)))) (AD (Af 3 nd AE) (AD (Ff PassesOwn.never (AU Ih (pv 3) (EM T.len (pv 2)) (AY _)) (AD (Bh (DZ PySem.F.plainAttrs_list PySem.F.slot_list_extend PySem.F.type_list_extend CO (pv 2) (AX (JO (pv 1) GI D kI bI .nil HJ (AX (GV K (pv 2) (pv 3))))))) (AF (Af 3 nd (AM BU (pv 3) AE))))) (AF (AL (pv 2)))))),?_⟩;refine⟨_,rfl,BA,fun L I=>?_⟩;have s0:=AG.new (o:=.lst [v]) I;dsimp only[BR,KH];refine IL (fun m J y=>∃(c:List V)(l:List Pt)(b:List (List Pt))(k:Nat),J=[some v,some (.ref u),some (.ref L),some (.int (k:Int))]/\AG H y/\y L=some (.lst c)/\AQ G c l/\Pn t k l b/\k<=l.length/\Dn m (l.drop k)/\k+m=n) (n+0) ⟨[v],[t],[],0,rfl,s0,AB,.cons hv .nil,.start,by simp,.cons C .nil,by simp⟩ ?_ (fun J H Q Q' h ⟨v1,e1,v2,e2,a1,n1,e3,l1,i1,j1,e4,e5,b1,e6,q⟩=>⟨v1,e1,v2,e2,a1,n1,e3,l1,i1,j1,e4,e5,b1,e6,h _ _ q⟩);rintro m J y ⟨c,l,b,k,rfl,M,a,B,bf,mQ,N,hk⟩;have le:=B.length;refine⟨_,rfl,_,rfl,L,_,rfl,.inl (Aq.of a),_,_,rfl,rfl,_,rfl,?_⟩;have ld:=N.len;rw[List.length_drop]at ld;refine RW (fun O=>?_) (fun O=>?_)
  ·have R:k<c.length:=by
    have:=of_decide_eq_true O;omega
   obtain⟨x,hx⟩:∃x,c[k]?=some x:=⟨_,rW R⟩;obtain⟨tx,d,vx⟩:=B.get hx;obtain⟨n',iy,nx⟩:=bK N hk d i;refine⟨_,rfl,.inl ⟨rfl,_,Aq.of a⟩,_,rfl,rfl,_,rfl,_,rfl,L,_,_,_,rfl,rfl,Aq.of a,Ao hx,G,x,tx,n',rfl,sG.trans M,vx,nx,fun p S us H2 s2 np hp j kd=>?_⟩;obtain⟨_,lu,m',U,r,ek⟩:=Wb N hk d kd i;have jG:=j.length;have X:=r.len;rw[List.length_drop,List.length_append]at X;refine⟨L,p,_,_,rfl,rfl,s2 _ _ a,hp,Bd (by omega),_,rfl,_,_,rfl,rfl,m',U,c++S,l++us,b++[us],k+1,rfl,(M.trans s2).put I,AB,B.append j,.next bf d kd,by rw[List.length_append];omega,r,by omega⟩
  ·have mR:c.length<=k:=by
    refine Nat.le_of_not_lt fun z=>O (decide_eq_true ?_);omega
   have e:k=l.length:=by omega
   subst e;exact⟨_,rfl,q L c l b y M I a B bf (by omega)⟩
theorem KY{D:Addr}{i:FuncData}(F:CD K "gathered" "gathered" Ew f fd)(T:Txt mg)(kI:PySem.W.keepIn K (.ref D)=true)(bI:Binds K i ["doc"] [])(GI:Ac P w K mg base Bn 2 D i ["doc"] JT):Ac P w K mg base Bn 4 f fd ["root","inner"] (MY D):=by
 refine F.oq ED fun II A outer s H vs Q E hr h=>?_
 ·obtain⟨G,v,t,rfl,sG,hv,hd,j,q⟩:=h;have nd:=ED.nd;have hu:=Az hr;have O:BQ 2 _:=hr.mono (by decide);refine⟨_,(AD (Af 2 nd (Ah (AX (pv 0)))) (AD (Af 3 nd AE) (AD (Ff PassesOwn.never (AU Ih (pv 3) (EM T.len (pv 2)) (AY _)) (AD (Bh (DZ PySem.F.plainAttrs_list PySem.F.slot_list_extend PySem.F.type_list_extend CO (pv 2) (AX (JO (pv 1) GI O kI bI .nil HJ (AX (GV K (pv 2) (pv 3))))))) (AF (Af 3 nd (AM BU (pv 3) AE))))) (AF (AL (pv 2)))))),?_⟩;refine⟨_,rfl,BA,fun L R=>?_⟩;have s0:=AG.new (o:=.lst [v]) R;dsimp only[BR,KH];refine IL (fun m S I=>∃(d:List V)(l:List Pt)(k:Nat),S=[some v,some (.ref D),some (.ref L),some (.int (k:Int))]/\AG H I/\I L=some (.lst d)/\AQ G d l/\Pt.Bl l/\k<=l.length/\Pt.AI (l.drop k)=m/\k+m=t.size/\∀x∈t.KA,x∈l∨∃y∈l.drop k,x∈y.KA)
   t.size ⟨[v],[t],0,rfl,s0,AB,.cons hv .nil,⟨hd,trivial⟩,by simp,by simp[Pt.AI],by simp,fun x g=>.inr ⟨t,by simp,g⟩⟩ ?_ (fun S H Q Q' h ⟨v1,e1,v2,n,a1,n1,e3,l1,i1,j1,e4,e5,b1,e6,q⟩=>⟨v1,e1,v2,n,a1,n1,e3,l1,i1,j1,e4,e5,b1,e6,h _ _ q⟩)
  rintro m S I ⟨d,l,k,rfl,U,a,J,dl,mQ,M,hk,X⟩;have le:=J.length;refine⟨_,rfl,_,rfl,L,_,rfl,.inl (Aq.of a),_,_,rfl,rfl,_,rfl,?_⟩;refine RW (fun Y=>?_) (fun Y=>?_)
  ·have Z:k<d.length:=by
    have:=of_decide_eq_true Y;omega
   obtain⟨x,g⟩:∃x,d[k]?=some x:=⟨_,rW Z⟩;obtain⟨r,b,vx⟩:=J.get g;have B:=(rX b).1;have ed:l.drop k=r::l.drop (k+1):=by
    rw[List.drop_eq_getElem_cons B];rw[rW B]at b;rw[rY b]
   have dx:=Pt.Aw dl r (rZ b);rw[ed]at M;simp only[Pt.AI]at M;refine⟨_,rfl,.inl ⟨rfl,_,Aq.of a⟩,_,rfl,rfl,_,rfl,_,rfl,L,_,_,_,rfl,rfl,Aq.of a,Ao g,G,x,r,rfl,sG.trans U,vx,Pt.SD dx (by omega),fun p fm N H2 s2 np hp C kd=>?_⟩;obtain⟨du,su⟩:=Pt.Uv dx kd;have jG:=C.length;have ll:=Pt.CL N;have l3:=Pt.CL (l.drop (k+1));rw[List.length_drop]at l3;have n:(l++N).drop (k+1)=l.drop (k+1)++N:=List.drop_append_of_le_length (by omega);refine⟨L,p,_,_,rfl,rfl,s2 _ _ a,hp,Bd (by omega),_,rfl,_,_,rfl,rfl,m-1,by have:=Pt.size_pos r;omega,d++fm,l++N,k+1,rfl,(U.trans s2).put R,AB,J.append C,Pt.Dz fun y c=>?_,by rw[List.length_append];omega,?_,by have:=Pt.size_pos r;omega,fun y c=>?_⟩
   ·rcases List.mem_append.mp c with c|c
    ·exact Pt.Aw dl y c
    ·exact Pt.Aw du y c
   ·rw[n,Pt.A_];omega
   ·rcases X y c with h|⟨z,j,h⟩
    ·exact .inl (List.mem_append_left _ h)
    ·rw[ed]at j;rcases List.mem_cons.mp j with rfl|j
     ·rcases Pt.Uu dx kd h with⟨rfl,_⟩|⟨u,hu,h⟩
      ·exact .inl (List.mem_append_left _ (rZ b))
      ·exact .inr ⟨u,by rw[n];exact List.mem_append_right _ hu,h⟩
     ·exact .inr ⟨z,by rw[n];exact List.mem_append_left _ j,h⟩
  ·have mR:d.length<=k:=by
    refine Nat.le_of_not_lt fun z=>Y (decide_eq_true ?_);omega
   have e:k=l.length:=by omega
   subst e;rw[List.drop_length]at M X;simp only[Pt.AI]at M;exact⟨_,rfl,q L d l I U R a J (by omega) dl fun x g=>(X x g).resolve_right fun⟨y,c,_⟩=>nomatch c⟩
theorem OV:AW ["root","inner","join","found","told","end","at","start"] ["root","inner","join"] (AJ Mb):={}
theorem SS{fI:Addr}{jH:FuncData}(F:CD K "folded" "folded" Mb f fd)(T:Txt mg)(d:Df P w K mg base "gathered" ["root","inner"] 4 (MR fI))(kI:PySem.W.keepIn K (.ref fI)=true)(bI:Binds K jH ["node"] [])(GI:Ac P w K mg base Bn 3 fI jH ["node"] Ja):Ac P w K mg base Bn 8 f fd ["root","inner","join"] (MZ P w K mg base fI):=by
 refine F.oq OV fun II A outer s H vs Q E hr h=>?_
 ·obtain⟨R,D,Z,Iv,G,v,t,fJ,qi,qj,rfl,sG,gz,hv,hD,hN,We,kJ,bJ,GJ,U,mS,q⟩:=h;have nd:=OV.nd;have hu:=Az hr;have mT:BQ 3 _:=hr.mono (by decide);have mU:BQ 7 _:=hr.mono (by decide);refine⟨_,(AD (Af 3 nd (Bg d hr.mm (AA (pv 0) (AX (pv 1))))) (AD (Af 4 nd (AM TU (Ah (AX YF)) (EM T.len (pv 3)))) (AD (Af 5 nd (EM T.len (pv 3))) (AD (Mt (Ru rfl T.range (AA (AM Gf (EM T.len (pv 3)) AE) (AA (XO Sy AE) (AX (XO Sy AE))))) (CY 6 nd) (AD (Af 7 nd (AM Gf (pv 5) (EM T.len (JO (pv 1) GI mT kI bI .nil HJ (AX (GV K (pv 3) (pv 6))))))) (AD (Ss (Ui (pv 2) GJ mU kJ bJ .nil HJ (AA (GV K (pv 3) (pv 6)) (AX (DY (r:=YU K) QM (pv 4) (Dv (pv 7)) (Dv (pv 5)))))) (Sr (pv 4) (pv 6) set_list)) (AF (Af 5 nd (pv 7)))))) (AF (AL (GV K (pv 4) AE))))))),?_⟩;obtain⟨n0,mV,Zs⟩:=hN _ hD;refine⟨_,rfl,_,rfl,G,v,t,n0,rfl,sG,hv,Zs,mV,fun p es g c H1 s1 np hp vl bf qk=>?_⟩;have l9:g.length<=20000:=by lia
  have B:=Uk hD We bf;have le:=vl.length;have cc:=B.len;have l0:1<=g.length:=by rw[B.eq];simp
  refine⟨BA,fun p0 Xo=>?_⟩;obtain⟨H2,O,t0,f0⟩:=CA (o:=.lst [.Ai]) Xo;rw[O];clear O;refine⟨_,rfl,p,_,rfl,.inl (Aq.of (t0 _ _ hp)),p0,_,_,rfl,rfl,f0,by lia,by lia,Bd (by simp;lia),fun m u=>?_⟩;have e1:(List.replicate ((es.length:Nat):Int).toNat [V.Ai]).flatten=List.replicate es.length .Ai:=by
   rw[Int.toNat_natCast];generalize es.length=n
   induction n with
   |zero=>rfl
   |succ n ih=>rw[List.replicate_succ,List.flatten_cons,ih];rfl
  rw[e1];obtain⟨X,O,tT,fT⟩:=CA (o:=.lst (List.replicate es.length .Ai)) u;rw[O];clear O;have s13:=t0.trans tT;have S3:=s1.trans s13;have J:=s13 _ _ hp;have Y:H m=none:=(s1.trans t0).free u;refine⟨_,rfl,p,_,rfl,.inl (Aq.of J),?_⟩;refine⟨_,rfl,p,_,rfl,.inl (Aq.of J),_,_,rfl,rfl,_,rfl,_,rfl,g.length,by rw[le],by lia,?_⟩;have jI:∀{l:List Int}{Ha Hb:Hp},AG Ha Hb->Iv l Ha->Iv l Hb:=fun{l Ha Hb} s h=>U.up l Ha Hb (fun b hb=>by obtain⟨o,e,_⟩:=U.EJ l Ha h b hb;rw[e,s _ _ e]) h;have L:=jI S3 mS;have jJ:m∉Z:=fun z=>by obtain⟨o,e,no⟩:=U.EJ _ _ L m z;rw[fT]at e;exact no _ (rY e).symm
  have mW:p∉Z:=fun z=>by obtain⟨o,e,no⟩:=U.EJ _ _ L p z;rw[J]at e;exact no _ (rY e).symm
  have z3:∀b∈Z,X b≠none:=fun b hb=>by obtain⟨o,e,_⟩:=U.EJ _ _ L b hb;rw[e];simp
  have mX:∀b∈Z,b≠m:=fun b hb z=>jJ (by rw[<-z];exact hb);refine UY (n:=g.length) (fun i σ M=>∃(C:List V)(fs:List (List Int))(o6 o7:Option V),σ=[some v,some (.ref fI),some (.ref fJ),some (.ref p),some (.ref m),some (.int ((1+(c.take i).flatten.length:Nat):Int)),o6,o7]/\Bz (m::Z) X M/\M m=some (.lst C)/\Wm R X M g C fs i/\Iv (live fs i (1+(c.take i).flatten.length)) M/\(live fs i (1+(c.take i).flatten.length)).length+i<=g.length) ⟨_,List.replicate g.length [],none,none,?_,.of (AG.refl _),fT,⟨by simp[le],by simp,fun j x h1 h2=>?_⟩,?_,?_⟩ ?_ ?_
  ·rw[<-cc,List.take_length,le,B.eq,List.length_cons,Nat.add_comm];rfl
  ·have:=(rX h2).1;lia
  ·have e0:live (List.replicate g.length ([]:List Int)) g.length (1+(c.take g.length).flatten.length)=[]:=by
    unfold live;rw[List.drop_of_length_le (by simp)];simp
   rw[e0];exact L
  ·have e0:live (List.replicate g.length ([]:List Int)) g.length (1+(c.take g.length).flatten.length)=[]:=by
    unfold live;rw[List.drop_of_length_le (by simp)];simp
   rw[e0];simp
  ·rintro i σ M hi ⟨C,fs,o6,o7,rfl,S,hT,F,iv,lv⟩;obtain⟨x,hx⟩:∃x,g[i]?=some x:=⟨_,rW hi⟩;obtain⟨ks,jK⟩:∃ks,c[i]?=some ks:=⟨_,rW (by lia)⟩;obtain⟨b1,b2,b3,b4⟩:=B.at_ jK;have kd:=B.kids i x ks hx jK;have ox:=B.ok x (rZ hx);obtain⟨nx,ql,mY⟩:=hN _ ox;obtain⟨y,hy,vy⟩:=vl.get' hx;have jL:AG G M:=fun b o e=>S.keep b o (fun z=>by
    rcases List.mem_cons.mp z with rfl|z
    ·rw[sG _ _ e]at Y;cases Y
    ·rw[gz b z]at e;cases e) (S3 _ _ (sG _ _ e))
   have mZ:m≠p:=fun z=>by rw[z]at u;rw[t0 _ _ hp]at u;cases u
   have cf:M p=some (.lst es):=S.keep p _ (fun z=>by
    rcases List.mem_cons.mp z with z|z
    ·exact mZ z.symm
    ·exact mW z) J
   refine⟨_,rfl,_,rfl,rfl,_,rfl,_,rfl,p,_,_,_,rfl,rfl,Aq.of cf,Ao hy,G,y,x,nx,rfl,jL,vy,mY,fun pI fm I H4 s4 nI hI fo ma=>?_⟩;have ek:=ma.one kd;subst ek;have jG:=fo.length;refine⟨pI,_,rfl,.inl (Aq.of hI),_,_,rfl,rfl,?_⟩;have md:(((1+(c.take (i+1)).flatten.length:Nat):Int))-((fm.length:Nat):Int)=((1+(c.take i).flatten.length:Nat):Int):=by lia
   rw[md];have me:=s4 _ _ hT;have cg:=s4 _ _ cf;refine⟨_,rfl,rfl,_,rfl,_,rfl,p,_,_,_,rfl,rfl,Aq.of cg,Ao hy,?_⟩;refine⟨_,rfl,_,rfl,_,rfl,_,rfl,_,rfl,m,C,rfl,Aq.of me,fun pS jM=>?_⟩;rw[Ue C _ _ (by lia) (by rw[F.len];lia),show 1+(c.take (i+1)).flatten.length-(1+(c.take i).flatten.length)=I.length by lia];obtain⟨cs,g1,g2⟩:=F.slice I.length (1+(c.take i).flatten.length) (by lia) b4;rw[b2]at g1;obtain⟨H5,O,t5,f5⟩:=CA (o:=.lst ((C.drop (1+(c.take i).flatten.length)).take I.length)) jM;rw[O];clear O;have s5:=s4.trans t5;have fq:∀b,H5 b=none->X b=none:=fun b h=>S.EJ b (s5.free h);have jN:=Pu (fs:=fs) (i:=i) (e:=1+(c.take i).flatten.length) (k:=I.length) (by lia) (by rw[F.Zr];exact b4);rw[<-b3]at jN;rw[jN]at iv lv;have mf:AG G X:=fun b o e=>S3 _ _ (sG _ _ e);refine⟨X,y,x,pS,_,I,cs,_,live fs (i+1) (1+(c.take i).flatten.length),rfl,jL.trans s5,vy,ox,f5,S.EJ _ (s4.free jM),fq,mf,z3,kd,g1,g2.up (Bs (fun b h=>h) fun b o _ h=>s5 _ _ h),jI s5 iv,by lia,fun w b f H6 N vw gd mh qm=>?_⟩;have mi:=N.keep _ _ jJ (s5 _ _ hT);have tl:i<C.length:=by rw[F.len];exact hi
   refine⟨_,rfl,_,rfl,m,C,_,i,rfl,rfl,mi,by unfold Se;rw[if_pos (by lia),if_pos (by lia),Int.toNat_natCast],?_⟩;refine⟨_,rfl,?_⟩;have jO:X m≠none:=by rw[fT];simp
   have lst:=Uy (fs:=fs) (i:=i) (e:=1+(c.take i).flatten.length) (fr:=f) (by lia) (by rw[F.Zr];exact hi);have mj:Bz (m::Z) H5 H6:=⟨fun b o n e=>N.keep b o (fun z=>n (List.mem_cons_of_mem _ z)) e,N.EJ⟩;refine⟨C.set i w,fs.set i f,_,_,rfl,((S.trans (.of s5)).trans mj).put List.mem_cons_self,AB,F.set (fun b o h1 h2=>?_) hx gd (vw.up (Bs (fun b h=>h) fun b o h1 h2=>?_)),?_,?_⟩
   ·rw[AH (fun z=>jO (by rw[<-z];exact h1))];exact N.keep b o (fun z=>z3 b z h1) (s5 _ _ h2)
   ·rw[AH (fun z=>jO (by rw[<-z];exact h1))];exact h2
   ·rw[lst];exact U.up _ H6 _ (fun b hb=>AH (mX b hb)) (U.pm _ _ _ List.perm_append_comm mh)
   ·rw[lst];simp only[List.length_append]at lv⊢;lia
  ·rintro σ M ⟨C,fs,o6,o7,rfl,S,hT,F,iv,lv⟩;obtain⟨w,b,f,g1,g2,g3,g4⟩:=F.val 0 t (Nat.zero_le _) (by rw[B.eq];rfl);have e0:live fs 0 (1+(c.take 0).flatten.length)=f:=by
    unfold live;cases fs with
    |nil=>cases g2
    |cons a r=>cases g2;simp
   rw[e0]at iv;refine⟨_,rfl,m,C,0,w,rfl,rfl,Aq.of hT,Ao g1,q w b f M ⟨fun b o n e=>S.keep b o (fun z=>?_) (S3 _ _ e),fun b h=>S3.free (S.EJ b h)⟩ (g4.up (Bs (fun b h=>S3.free h) fun b o _ h=>h)) g3 iv⟩;rcases List.mem_cons.mp z with rfl|z
   ·rw[Y]at e;cases e
   ·exact n z
theorem LM:AW ["doc"] ["doc"] (AJ GW):={}
theorem Jv{l:FuncData}(F:CD K "steps_of" "steps_of" GW f l)(T:Txt mg):Ac P w K mg base Bn 1 f l ["doc"] Fz:=by
 refine F.oq LM fun o A outer s H m Q E d h=>?_
 ·obtain⟨v,t,rfl,u,hold,q⟩:=h;have nd:=LM.nd;have B:=Az d;refine⟨_,(AD (Aa (Ar (AR B' rfl T.isinstance AO (AA (pv 0) (AX (Ab (v:=.ty "list") rfl T.list Bw rfl))))) (AF (AL (CN (FF rfl) rfl T.list Bw (AX (NY rfl T.range (AX (EM T.len (pv 0)))))))) AN) (AD (Aa (Ar (AR B' rfl T.isinstance AO (AA (pv 0) (AX (Ab (v:=.ty "dict") rfl T.dict Cd rfl))))) (AF (AL (AR (Lq rfl) rfl T.sorted NU (AX (pv 0))))) AN) (AF (AL (Ah Be))))),?_⟩;cases u with
  |int i=>
   refine⟨_,rfl,_,"list","int",rfl,rfl,.int i,_,rfl,Ay ⟨_,rfl,_,"dict","int",rfl,rfl,.int i,_,rfl,Ay ?_⟩⟩;exact⟨Nat.zero_le _,fun p c=>q p [] _ (AG.new c) c AB rfl⟩
  |str x=>
   refine⟨_,rfl,_,"list","str",rfl,rfl,.str x,_,rfl,Ay ⟨_,rfl,_,"dict","str",rfl,rfl,.str x,_,rfl,Ay ?_⟩⟩;exact⟨Nat.zero_le _,fun p c=>q p [] _ (AG.new c) c AB rfl⟩
  |bl b=>exact hold.elim
  |Ai=>exact hold.elim
  |tup _ _=>exact hold.elim
  |@lst a m j h r=>
   have C:j.length<=900:=hold;have e:=r.length;refine⟨_,rfl,_,"list","list",rfl,rfl,.lst h,_,rfl,Bk ?_⟩;refine⟨_,rfl,a,_,rfl,.inl (.inl h),_,rfl,fun r d=>?_⟩;refine⟨r,m.length,rfl,AB,by omega,fun p c=>?_⟩;exact q p _ _ ((AG.new d).trans (AG.new c)) ((AG.new d).free c) AB (by show _=_;rw[e])
  |@BI a kvs g j h n r=>
   have D:kvs.length=g.length:=by have:=congrArg List.length n;simpa using this
   have G:g.length=j.length/\g.length<64:=hold;refine⟨_,rfl,_,"list","dict",rfl,rfl,.dK h,_,rfl,Ay ?_⟩;refine⟨_,rfl,_,"dict","dict",rfl,rfl,.dK h,_,rfl,Bk ?_⟩;exact⟨_,rfl,a,_,g,rfl,h,n,by omega,fun p k y z s c perm ff=>q p _ y s z c ⟨k,rfl,perm,ff⟩⟩
theorem Ml(F:CD K "steps_of" "steps_of" GW f a)(T:Txt mg):Ac P w K mg base Bn 1 f a ["doc"] Ly:=(Jv F T).imp fun _ _ _ _ h=>Nx h
theorem LN:AW ["doc"] ["doc"] (AJ Jt):={}
theorem Jw(F:CD K "inner_of" "inner_of" Jt f M)(T:Txt mg)(c:Df P w K mg base "steps_of" ["doc"] 1 Fz):Ac P w K mg base Bn 2 f M ["doc"] JT:=by
 refine F.oq LN fun Z A outer s H vs Q E N h=>?_
 ·obtain⟨G,v,t,rfl,O,C,hold,q⟩:=h;have nd:=LN.nd;have hu:=Az N;refine⟨_,(AF (AL (cmp ["doc"] [0] (B_ (Bg c N.mm (AX (pv 0)))) fun _ _ _ _=>(JF (GV K (pv 1) (pv 0)) (SR hu (pv 1) (pv 0)))))),?_⟩;refine⟨_,rfl,v,t,rfl,C.up O,hold,fun p l H1 I np z st=>?_⟩;obtain⟨B,us,vl,kd,S,ae⟩:=C.kids hold st;have qo:l.length<=900:=by
   cases C with
   |int i=>rw[show l=[]from st];decide
   |str i=>rw[show l=[]from st];decide
   |bl b=>exact hold.elim
   |Ai=>exact hold.elim
   |tup _ _=>exact hold.elim
   |@lst a vs ts h r=>rw[show l=_ from st,List.length_map,List.length_range];exact hold
   |@BI a kvs ks ts h hk r=>
    obtain⟨ss,rfl,pm,so⟩:=st;rw[List.length_map,pm.length_eq];have:=hold.2;omega
  have U:∀{i:Nat}{x:V},l[i]?=some x->l.getD i .Ai=x:=fun h=>by rw[List.getD_eq_getElem?_getD,h];rfl
  refine⟨p,rfl,⟨_,Aq.of z⟩,?_⟩;refine Ei (n:=l.length) (fun i=>l.getD i .Ai) (fun i=>B.getD i .Ai) (fun _=>true) (An (by omega)) (fun i D m u d=>⟨_,_,(AG.new d).seq (Aq.of z),rW u⟩) (fun i D m v H' u d y=>?_) (fun D m d=>⟨_,(AG.new d).seq (Aq.of z),Nat.le_refl _⟩) (fun i D m R u d r=>by exact r) (fun i D m R u d _ r=>?_) (fun D d=>?_)
  ·obtain⟨e,y⟩:=y;exact⟨(U (y _ ((AG.new d).seq (Aq.of z)))).symm,e⟩
  ·obtain⟨x,X⟩:∃x,B[i]?=some x:=⟨_,rW (by rw[S];exact u)⟩;have ex:B.getD i .Ai=x:=by rw[List.getD_eq_getElem?_getD,X];rfl
   rw[ex]at r;have Y:=(O.trans I).trans (AG.new (o:=.lst m) d);obtain⟨st,J,g⟩:=ae i x X;rw[U J];rcases g with⟨a,xs,j,rfl,h,rfl,L⟩|⟨a,kvs,k,rfl,h,rfl,L⟩
   ·exact .inl ⟨_,rfl,_,rfl,a,_,_,_,rfl,rfl,.inl (h.up (Y _)),Ao L,r⟩
   ·refine .inr ⟨_,rfl,_,rfl,a,x,rfl,?_,r⟩;rw[<-L];exact .inl ⟨_,Sum.inr k,h.up (Y _),rfl,rfl⟩
  ·refine q D B us _ (I.trans (AG.new d)) (I.free d) ?_ vl kd;rw[AB];congr 2;rw[List.filter_eq_self.mpr fun _ _=>rfl];refine List.ext_getElem (by simp[S]) fun i h1 h2=>?_;simp only[List.getElem_map,List.getElem_range];rw[List.getD_eq_getElem?_getD,rW h2];rfl
theorem OW:AW ["doc"] ["doc"] (AJ Mc):={}
theorem SU{b:Addr}(F:CD K "size_of" "size_of" Mc f c)(T:Txt mg)(a:Df P w K mg base "gathered" ["root","inner"] 4 (MY b))(e:mg "inner_of"=some (.ref b)):Ac P w K mg base Bn 5 f c ["doc"] Qg:=by
 refine F.oq OW fun g A outer s H x Q E d h=>?_
 ·obtain⟨v,t,rfl,i,j,k,q⟩:=h;have nd:=OW.nd;have y:=Az d;refine⟨_,(AF (AL (EM T.len (Bg a d.mm (AA (pv 0) (AX (Ef (v:=.ref b) rfl e rfl))))))),?_⟩;refine⟨_,rfl,H,v,t,rfl,AG.refl _,i,j,k,fun p m l n o z r u B _ _=>?_⟩;have:=u.length;refine⟨p,_,rfl,.inl (Aq.of r),?_⟩;rw[show m.length=t.size by omega];exact q n o
theorem HW:AW ["doc"] ["doc"] (AJ Fc):={}
theorem Mm(F:CD K "outer_copy" "outer_copy" Fc f c)(T:Txt mg):Ac P w K mg base Bn 1 f c ["doc"] QU:=by
 refine F.oq HW fun e A outer s H j Q E g h=>?_
 ·obtain⟨d,rfl,b,q⟩:=h;have nd:=HW.nd;have k:=Az g;refine⟨_,(AD (Aa (Ar (AR B' rfl T.isinstance AO (AA (pv 0) (AX (Ab (v:=.ty "list") rfl T.list Bw rfl))))) (AF (AL (CN Fi rfl T.list Bw (AX (pv 0))))) AN) (AD (Aa (Ar (AR B' rfl T.isinstance AO (AA (pv 0) (AX (Ab (v:=.ty "dict") rfl T.dict Cd rfl))))) (AF (AL (CN JJ rfl T.dict Cd (AX (pv 0))))) AN) (AF (AL (pv 0))))),?_⟩;cases d with
  |leaf v=>
   refine⟨_,rfl,_,"list",Dc.Yk (.leaf v),rfl,rfl,Dc.XX b,_,rfl,Cp (by cases v<;>rfl) ?_⟩;refine⟨_,rfl,_,"dict",Dc.Yk (.leaf v),rfl,rfl,Dc.XX b,_,rfl,Cp (by cases v<;>rfl) ?_⟩;exact⟨_,rfl,q⟩
  |row a i=>
   refine⟨_,rfl,_,"list",_,rfl,rfl,Dc.XX b,_,rfl,FC rfl ?_⟩;simp only[Dc.At]at b;exact⟨_,rfl,a,_,rfl,.inl (.inl b.1),q⟩
  |tab a l i=>
   refine⟨_,rfl,_,"list",_,rfl,rfl,Dc.XX b,_,rfl,Cp rfl ?_⟩;refine⟨_,rfl,_,"dict",_,rfl,rfl,Dc.XX b,_,rfl,FC rfl ?_⟩;simp only[Dc.At]at b;exact⟨_,rfl,a,_,rfl,b.1,q⟩
theorem OX:AW ["doc","told","waiting","part","steps","step"] ["doc"] (AJ Md):={}
theorem SV(F:CD K "copy_of" "copy_of" Md f fd)(T:Txt mg)(VL:Df P w K mg base "steps_of" ["doc"] 1 Ly)(B:Df P w K mg base "outer_copy" ["doc"] 1 QU):Ac P w K mg base Bn 2 f fd ["doc"] JM:=by
 refine F.oq OX fun II A outer s H R Q E hr h=>?_
 ·obtain⟨d,rfl,cj,ml,hsz,q⟩:=h;have nd:=OX.nd;have hu:=Az hr;refine⟨_,(AD (Af 1 nd (Bg B hr.mm (AX (pv 0)))) (AD (Af 2 nd (Ah (AX (pv 1)))) (AD (Ff PassesOwn.never (TB (pv 2) (fun _=>rfl)) (AD (Af 3 nd (YW PySem.F.plainAttrs_list PySem.F.slot_list_pop PySem.F.type_list_pop YX (pv 2))) (AD (Af 4 nd (Bg VL hr.mm (AX (pv 3)))) (AF (Mt (B_ (pv 4)) (CY 5 nd) (AD (UA (Ss (Bg B hr.mm (AX (JF (GV K (pv 3) (pv 5)) (SR hu (pv 3) (pv 5))))) (Sr (pv 3) (pv 5) set_list)) (Fl hu (pv 3) (pv 5) (Bg B hr.mm (AX (JF (GV K (pv 3) (pv 5)) (SR hu (pv 3) (pv 5))))) rfl)) (AF (Bh (DZ PySem.F.plainAttrs_list PySem.F.slot_list_append PySem.F.type_list_append Dd (pv 2) (AX (JF (GV K (pv 3) (pv 5)) (SR hu (pv 3) (pv 5))))))))))))) (AF (AL (pv 1)))))),?_⟩;refine⟨_,rfl,d,rfl,cj,Gs.of (AG.refl H) cj fun tv N si oi fi=>?_⟩;refine⟨_,rfl,BA,fun L hL=>?_⟩;have sL:=AG.new (o:=.lst [tv]) hL;have nL:H L=none:=si.free hL;have jP:tv≠.ref L:=fun z=>(Rk cj oi z) hL;have C0:Dk H (upd N L (.lst [tv])) L tv d [(tv,d)]:=Dk.start (si.trans sL) nL AB (oi.up fun a e u h=>sL _ _ h) cj ml jP;dsimp only[BR,KH];refine IL (fun m σ Hw=>bT (fun(ps:List (V×Dc))(o3 o4 n:Option V)=>σ=[some d.val,some tv,some (.ref L),o3,o4,n]) (fun(ps:List (V×Dc))(o3 o4 n:Option V)=>Dk H Hw L tv d ps) (fun(ps:List (V×Dc))(o3 o4 n:Option V)=>Dc.AI (ps.map (·.2))<=d.size) (fun(ps:List (V×Dc))(o3 o4 n:Option V)=>m=Dc.AI (ps.map (·.2)))) (Dc.AI [d]) ⟨[(tv,d)],none,none,none,rfl,C0,by simp[Dc.AI],rfl⟩ ?_ (fun σ H Q Q' h ⟨v,e,k,t,q⟩=>⟨v,e,k,t,h _ _ q⟩);rintro m σ Hw ⟨ps,o3,o4,n,rfl,C,hm,rfl⟩;refine⟨_,rfl,_,.inl ⟨_,Aq.of C.eL,rfl⟩,?_⟩;by_cases Zl:ps=[]
  ·subst Zl;refine Ay ⟨_,rfl,?_⟩;obtain⟨e,ev,el,ef⟩:=C.done;rw[<-ev];exact q e Hw ef el
  obtain⟨I,p,rfl⟩:∃I p,ps=I++[p]:=⟨ps.dropLast,ps.getLast Zl,(List.dropLast_concat_getLast Zl).symm⟩;obtain⟨v,node⟩:=p;refine FC (by simp) ?_;have ft:Dc.AI ((I++[(v,node)]).map (·.2))=Dc.AI (I.map (·.2))+node.size:=by rw[List.map_append,Dc.A_];simp[Dc.AI]
  have jQ:=C.eL;refine⟨_,rfl,.inl ⟨rfl,_,Aq.of jQ⟩,L,_,v,rfl,rfl,jQ,by simp,?_⟩;have dl:(List.map (·.1) (I++[(v,node)])).dropLast=I.map (·.1):=by rw[List.map_append];simp
  rw[dl];obtain⟨nat,Zt⟩:=C.src (v,node) (by simp);have on:=C.out (v,node) (by simp);have s1:AG H (upd Hw L (.lst (I.map (·.1)))):=C.same.put nL;have lq:I.length<=Dc.AI (I.map (·.2)):=by have:=Dc.CL (I.map (·.2));rw[List.length_map]at this;exact this
  cases node with
  |leaf v'=>
   obtain⟨rfl,lv⟩:=(show v=v'/\Dc.Lf v' from on);refine⟨_,rfl,.leaf v,rfl,lv,trivial,by simp[Dc.size],fun p l H2 s2 np U st=>?_⟩;cases(show l=[]from st);refine⟨_,rfl,p,rfl,⟨_,Aq.of U⟩,Cj (xs:=[]) (fun i σ N=>bR (fun n=>σ=[some d.val,some tv,some (.ref L),some v,some (.ref p),n]) (fun n=>N=H2)) ⟨_,rfl,rfl⟩ (fun i σ N _ ⟨_,_,e⟩=>by rw[e];exact Aq.of U) (fun i x σ N hx=>by simp at hx) ?_⟩;rintro σ N ⟨n,rfl,rfl⟩;refine⟨Dc.AI (I.map (·.2)),by rw[ft];simp only[Dc.size];lia,I,_,_,_,rfl,C.leaf (fun b o hb h=>s2 _ _ (by rw[AH hb];exact h)) (s2 _ _ AB),by lia,rfl⟩
  |row b xs=>
   obtain⟨a,rfl,ea,na⟩:=(show∃a,v=.ref a/\Hw a=some (.lst (xs.map Dc.val))/\H a=none from on);have aL:a≠L:=fun z=>C.Ri (by rw[<-z];exact BN.mpr ⟨(.ref a,.row b xs),by simp,rfl⟩);have ZP:upd Hw L (.lst (I.map (·.1))) a=some (.lst (xs.map Dc.val)):=by rw[AH aL];exact ea
   have S:=nat;simp only[Dc.At]at S;simp only[Dc.slim]at Zt;simp only[Dc.size]at ft;have lx:=Dc.CL xs;refine⟨_,rfl,.row a xs,rfl,?_,by simp only[Dc.slim];exact Zt,by simp only[Dc.size];lia,fun p l H2 s2 np U st=>?_⟩
   ·simp only[Dc.At];exact⟨.inl ZP,Dc.Di xs (fun c _ o e=>s1 c o e) S.2⟩
   cases(show l=(List.range xs.length).map fun(i:Nat)=>V.int (i:Int)from st);have fx:=s1.trans s2;have bU:=s2 _ _ ZP;have ZQ:H2 L=some (.lst (I.map (·.1))):=s2 _ _ AB;have ll:((List.range xs.length).map fun(i:Nat)=>V.int (i:Int)).length=xs.length:=by simp
   have pa:p≠a:=Ne.symm (AV ZP np);have pL:p≠L:=Ne.symm (AV (AB (H:=Hw) (a:=L) (o:=.lst (I.map (·.1)))) np);refine⟨_,rfl,p,rfl,⟨_,Aq.of U⟩,Cj (xs:=(List.range xs.length).map fun(i:Nat)=>V.int (i:Int)) (fun i σ N=>bS (fun(g:List V)(n:Option V)=>σ=[some d.val,some tv,some (.ref L),some (.ref a),some (.ref p),n]) (fun(g:List V)(n:Option V)=>g.length=i) (fun(g:List V)(n:Option V)=>i<=xs.length) (fun(g:List V)(n:Option V)=>N a=some (.lst (g++(xs.drop i).map Dc.val))) (fun(g:List V)(n:Option V)=>N L=some (.lst (I.map (·.1)++g))) (fun(g:List V)(n:Option V)=>(∀(j:Nat) c x,g[j]?=some c->xs[j]?=some x->EW H N c x)) (fun(g:List V)(n:Option V)=>(∀b o,b≠a->b≠L->H2 b=some o->N b=some o)) (fun(g:List V)(n:Option V)=>(roots (g.zip xs)).Nodup) (fun(g:List V)(n:Option V)=>∀c∈roots (g.zip xs),H2 c=none))
    ⟨[],_,rfl,rfl,Nat.zero_le _,by rw[bU];rfl,by rw[ZQ,List.append_nil],fun j c x h=>by simp at h,fun b o _ _ h=>h,by simp[roots],by simp[roots]⟩ (fun i σ N _ ⟨g,n,_,_,_,_,_,_,kp,_,_⟩=>Aq.of (kp p _ pa pL U)) ?_ ?_⟩
   ·rintro i sv σ N ZR ⟨g,n,rfl,lc,fy,D,Y,oc,kp,rn,rf⟩;have hi:i<xs.length:=by have:=(rX ZR).1;rw[ll]at this;exact this
    have f_:sv=.int (i:Int):=by rw[List.getElem?_map,List.getElem?_range hi]at ZR;exact(rY ZR).symm
    subst f_;obtain⟨x,hx⟩:∃x,xs[i]?=some x:=⟨_,rW hi⟩;have gA:=rZ hx;have ZS:AG H N:=fun b o e=>kp b o (AV e na) (AV e nL) (fx b o e);have dr:xs.drop i=x::xs.drop (i+1):=by rw[List.drop_eq_getElem_cons hi];rw[rW hi]at hx;rw[rY hx]
    have bV:x.At N:=Dc.QS ZS (Dc.Ej S.2 x gA);have DK:Oo (g++(xs.drop i).map Dc.val) (i:Int)=some x.val:=Ao (by rw[dr,List.getElem?_append_right (by lia),lc,Nat.sub_self];rfl);refine .inl (.inl ⟨_,rfl,_,rfl,a,_,_,_,rfl,rfl,Aq.of D,DK,x,rfl,bV,Gs.of ZS bV fun c Hc sc gB fc=>?_⟩);have gC:=sc _ _ D;have hlen:(g++(xs.drop i).map Dc.val).length=xs.length:=by rw[List.length_append,List.length_map,List.length_drop];lia
    refine⟨_,rfl,_,rfl,a,_,_,i,rfl,rfl,gC,by unfold Se;rw[if_pos (by lia),if_pos (by rw[hlen];lia),Int.toNat_natCast],?_⟩;have gD:(g++(xs.drop i).map Dc.val).set i c=(g++[c])++(xs.drop (i+1)).map Dc.val:=by
     rw[dr,List.map_cons,List.set_append_right _ _ (by lia),lc,Nat.sub_self,List.set_cons_zero,List.append_assoc];rfl
    rw[gD];have cL:∀J,c=.ref J->J≠a/\J≠L:=fun J e=>⟨(fun z=>by have:=fc J e;rw[z,D]at this;cases this),(fun z=>by have:=fc J e;rw[z,Y]at this;cases this)⟩;have bW:upd Hc a (.lst ((g++[c])++(xs.drop (i+1)).map Dc.val)) L=some (.lst (I.map (·.1)++g)):=by rw[AH (Ne.symm aL)];exact sc _ _ Y
    refine⟨_,rfl,.inl ⟨rfl,_,Aq.of bW⟩,.inl ⟨_,rfl,_,rfl,a,_,_,c,rfl,rfl,Aq.of AB,Ao (by rw[List.getElem?_append_left (by rw[List.length_append,lc];simp),List.getElem?_append_right (by lia),lc,Nat.sub_self];rfl),?_⟩⟩;refine⟨L,_,_,rfl,rfl,bW,Am (by simp only[List.length_append,List.length_map];lia),g++[c],_,rfl,by simp[lc],hi,by rw[AH aL];exact AB,by rw[AB,List.append_assoc],fun j M x' r G=>?_,fun b' o r G h3=>?_,?_,fun M O=>?_⟩
    ·have base:∀{M:V}{x':Dc},EW H Hc M x'->(∀J,M=.ref J->J≠a/\J≠L)->EW H (upd (upd Hc a (.lst ((g++[c])++(xs.drop (i+1)).map Dc.val))) L (.lst ((I.map (·.1)++g)++[c]))) M x':=fun o ZT=>o.up fun J e u h=>by
      obtain⟨g1,Z⟩:=ZT J e;rw[AH Z,AH g1];exact h
     by_cases gE:j<g.length
     ·rw[List.getElem?_append_left gE]at r;refine base ((oc j M x' r G).up fun J e u h=>sc _ _ h) fun J e=>?_;have hz:(g.zip xs)[j]?=some (M,x'):=by rw[List.getElem?_zip_eq_some];exact⟨r,G⟩
      have hr:=rf J (BN.mpr ⟨(M,x'),rZ hz,e⟩);exact⟨(fun z=>by rw[z,bU]at hr;cases hr),(fun z=>by rw[z,ZQ]at hr;cases hr)⟩
     ·have hl:=(rX r).1;rw[List.length_append,List.length_singleton]at hl;have ej:j=i:=by lia
      subst ej;rw[List.getElem?_append_right (by lia),lc,Nat.sub_self]at r;have e1:c=M:=by simpa using r
      subst e1;rw[hx]at G;cases G;exact base gB cL
    ·rw[AH G,AH r];exact sc _ _ (kp b' o r G h3)
    ·have ez:(g++[c]).zip xs=g.zip xs++[(c,x)]:=Fv lc hx;rw[ez,BB];refine List.nodup_append.mpr ⟨rn,by cases c<;>first|exact List.nodup_nil|exact List.nodup_cons.mpr ⟨(fun h=>nomatch h),List.nodup_nil⟩,fun y hy z hz e=>?_⟩;subst e;obtain⟨p',ZU,e'⟩:=BN.mp hz;rw[List.mem_singleton.mp ZU]at e';obtain⟨⟨c2,x2⟩,Xp,e2⟩:=BN.mp hy;obtain⟨j,hj,ej⟩:=List.mem_iff_getElem.mp Xp;have Yr:(g.zip xs)[j]?=some (c2,x2):=by rw[rW hj,ej]
     obtain⟨g1,Z⟩:=List.getElem?_zip_eq_some.mp Yr;exact((oc j c2 x2 g1 Z).root (p:=(c2,x2)) e2).1 (fc y e')
    ·have ez:(g++[c]).zip xs=g.zip xs++[(c,x)]:=Fv lc hx;rw[ez,BB]at O;rcases List.mem_append.mp O with O|O
     ·exact rf M O
     ·obtain⟨p',ZU,e'⟩:=BN.mp O;rw[List.mem_singleton.mp ZU]at e';have h0:=fc M e';cases q2:H2 M with
      |none=>rfl
      |some o=>
       have:=kp M o (cL M e').1 (cL M e').2 q2;rw[h0]at this;cases this
   ·rintro σ N ⟨g,n,rfl,lc,fy,D,Y,oc,kp,rn,rf⟩;rw[ll]at lc D;rw[List.drop_length,List.map_nil,List.append_nil]at D;have mz:(g.zip xs).map (·.1)=g:=List.map_fst_zip (by lia);have bX:(g.zip xs).map (·.2)=xs:=List.map_snd_zip (by lia);have bY:∀p∈g.zip xs,∃j:Nat,g[j]?=some p.1/\xs[j]?=some p.2:=fun p U=>by
     obtain⟨j,hj,e⟩:=List.mem_iff_getElem.mp U;exact⟨j,List.getElem?_zip_eq_some.mp (by rw[rW hj,e])⟩
    have bZ:∀b o,b≠L->Hw b=some o->H2 b=some o:=fun b o hb h=>s2 _ _ (by rw[AH hb];exact h);have C2:=C.step (H2:=N) (g.zip xs) (fun b' o r G h3=>kp b' o r G (bZ b' o G h3)) (by rw[Y,List.map_append,mz]) (fun p U=>let⟨j,g1,Z⟩:=bY p U;oc j _ _ g1 Z) (fun p U=>let⟨j,g1,Z⟩:=bY p U;⟨Dc.Ej S.2 _ (rZ Z),Dc.Gp Zt _ (rZ Z)⟩) rn (fun c hc=>by
      cases q2:Hw c with
      |none=>rfl
      |some o=>
       have h0:=rf c hc;by_cases bb:c=L
       ·rw[bb,ZQ]at h0;cases h0
       ·rw[bZ c o bb q2]at h0;cases h0) (by rw[D];simp) (fun ob u z=>by rw[D]at z;cases z)
     (fun ec H' dn at' gG=>⟨.row a ec,rfl,by simp only[Dc.DR];have:=dn.UD;rw[bX]at this;exact this,by
      simp only[Dc.At];refine⟨.inl ?_,at'⟩;rw[gG,D,dn.vals,mz],by simp only[Dc.addrs];exact .refl _⟩)
    have mn:Dc.AI ((I++g.zip xs).map (·.2))=Dc.AI (I.map (·.2))+Dc.AI xs:=by rw[List.map_append,Dc.A_,bX]
    exact⟨Dc.AI ((I++g.zip xs).map (·.2)),by lia,I++g.zip xs,_,_,_,rfl,C2,by lia,rfl⟩
  |tab b ks xs=>
   obtain⟨a,rfl,ea,na⟩:=(show∃a,v=.ref a/\Hw a=some (.dK (Dc.kvs ks xs))/\H a=none from on);have aL:a≠L:=fun z=>C.Ri (by rw[<-z];exact BN.mpr ⟨(.ref a,.tab b ks xs),by simp,rfl⟩);have ZP:upd Hw L (.lst (I.map (·.1))) a=some (.dK (Dc.kvs ks xs)):=by rw[AH aL];exact ea
   have S:=nat;simp only[Dc.At]at S;simp only[Dc.slim]at Zt;simp only[Dc.size]at ft;obtain⟨_,ck,knd,ZV⟩:=S;have lx:=Dc.CL xs;refine⟨_,rfl,.tab a ks xs,rfl,?_,by simp only[Dc.slim];exact Zt,by simp only[Dc.size];lia,fun p l H2 s2 np U st=>?_⟩
   ·simp only[Dc.At];exact⟨.inl ZP,ck,knd,Dc.Di xs (fun c _ o e=>s1 c o e) ZV⟩
   obtain⟨ss,rfl,perm,_⟩:=(show∃ss:List Str,l=ss.map V.str/\ss.Perm ks/\PyProof.Rows.sortedS ss=true from st);have snd:ss.Nodup:=perm.nodup_iff.mpr knd;have sl:=perm.length_eq;obtain⟨X,yp,yl,jR⟩:=reorder (ks:=ss) (ss:=ks) (ec:=xs) perm.symm knd ck.symm;have fx:=s1.trans s2;have bU:=s2 _ _ ZP;have ZQ:H2 L=some (.lst (I.map (·.1))):=s2 _ _ AB;have ll:(ss.map V.str).length=ss.length:=List.length_map ..;have pa:p≠a:=Ne.symm (AV ZP np);have pL:p≠L:=Ne.symm (AV (AB (H:=Hw) (a:=L) (o:=.lst (I.map (·.1)))) np);have pos:∀(j:Nat) k,ks[j]?=some k->∃t,ss[t]?=some k:=fun j k h=>List.mem_iff_getElem?.mp (perm.mem_iff.mpr (rZ h));have pos':∀(t:Nat) k,ss[t]?=some k->∃j,ks[j]?=some k:=fun t k h=>List.mem_iff_getElem?.mp (perm.mem_iff.mp (rZ h));refine⟨_,rfl,p,rfl,⟨_,Aq.of U⟩,Cj (xs:=ss.map V.str) (fun i σ N=>ZO (fun(g R:List V)(n:Option V)=>σ=[some d.val,some tv,some (.ref L),some (.ref a),some (.ref p),n]) (fun(g R:List V)(n:Option V)=>g.length=i) (fun(g R:List V)(n:Option V)=>i<=ss.length) (fun(g R:List V)(n:Option V)=>ks.length=R.length) (fun(g R:List V)(n:Option V)=>N a=some (.dK (DS ks R))) (fun(g R:List V)(n:Option V)=>N L=some (.lst (I.map (·.1)++g))) (fun(g R:List V)(n:Option V)=>(∀(j t:Nat) k,ks[j]?=some k->ss[t]?=some k->R[j]?=if t<i then g[t]? else(X[t]?).map Dc.val)) (fun(g R:List V)(n:Option V)=>(∀(j:Nat) c x,g[j]?=some c->X[j]?=some x->EW H N c x)) (fun(g R:List V)(n:Option V)=>(∀b o,b≠a->b≠L->H2 b=some o->N b=some o)) (fun(g R:List V)(n:Option V)=>(roots (g.zip X)).Nodup) (fun(g R:List V)(n:Option V)=>∀c∈roots (g.zip X),H2 c=none))
    ⟨[],xs.map Dc.val,_,rfl,rfl,Nat.zero_le _,by rw[List.length_map];exact ck,bU,by rw[ZQ,List.append_nil],fun j t k r G=>by rw[if_neg (Nat.not_lt_zero _),jR t j k G r,List.getElem?_map],fun j c x h=>by simp at h,fun b o _ _ h=>h,by simp[roots],by simp[roots]⟩
    (fun i σ N _ ⟨g,R,n,_,_,_,_,_,_,_,_,kp,_,_⟩=>Aq.of (kp p _ pa pL U)) ?_ ?_⟩
   ·rintro i sv σ N ZR ⟨g,R,n,rfl,lc,fy,lv,D,Y,bc,oc,kp,rn,rf⟩;have hi:i<ss.length:=by have:=(rX ZR).1;rw[ll]at this;exact this
    obtain⟨k,hk⟩:∃k,ss[i]?=some k:=⟨_,rW hi⟩;have f_:sv=.str k:=by rw[List.getElem?_map,hk]at ZR;exact(rY ZR).symm
    subst f_;obtain⟨j,hj⟩:=pos' i k hk;obtain⟨x,hx⟩:∃x,X[i]?=some x:=⟨_,rW (by rw[yl];exact hi)⟩;have gA:x∈xs:=yp.mem_iff.mp (rZ hx);have ZS:AG H N:=fun b o e=>kp b o (AV e na) (AV e nL) (fx b o e);have bV:x.At N:=Dc.QS ZS (Dc.Ej ZV x gA);have jS:j<R.length:=by rw[<-lv];exact(rX hj).1
    have vj:R[j]?=some x.val:=by rw[bc j i k hj hk,if_neg (Nat.lt_irrefl _),hx];rfl
    have dg:∀{Hx:Hp}{ws:List V}{y:V},Hx a=some (.dK (DS ks ws))->ks.length=ws.length->ws[j]?=some y->KN Hx a (.str k) (some y):=fun r G h3=>.inl ⟨_,Sum.inr k,.inl r,rfl,by rw[JN G knd hj,h3]⟩;refine .inr (.inr ⟨_,rfl,_,rfl,a,x.val,rfl,dg D lv vj,x,rfl,bV,Gs.of ZS bV fun c Hc sc gB fc=>?_⟩);have gC:=sc _ _ D;refine⟨_,rfl,_,rfl,a,_,rfl,Lj.k (k:=Sum.inr k) gC (Am (by rw[UG lv];lia)),?_⟩;rw[UH lv knd hj c];have bg:ks.length=(R.set j c).length:=by rw[List.length_set];exact lv
    have cL:∀J,c=.ref J->J≠a/\J≠L:=fun J e=>⟨(fun z=>by have:=fc J e;rw[z,D]at this;cases this),(fun z=>by have:=fc J e;rw[z,Y]at this;cases this)⟩;have bW:upd Hc a (.dK (DS ks (R.set j c))) L=some (.lst (I.map (·.1)++g)):=by rw[AH (Ne.symm aL)];exact sc _ _ Y
    refine⟨_,rfl,.inl ⟨rfl,_,Aq.of bW⟩,.inr ⟨_,rfl,_,rfl,a,c,rfl,dg AB bg (by rw[List.getElem?_set_self jS]),?_⟩⟩;refine⟨L,_,_,rfl,rfl,bW,Am (by simp only[List.length_append,List.length_map];lia),g++[c],R.set j c,_,rfl,by simp[lc],hi,bg,by rw[AH aL];exact AB,by rw[AB,List.append_assoc],fun j' t' k' r G=>?_,fun j' M x' r G=>?_,fun b' o r G h3=>?_,?_,fun M O=>?_⟩
    ·by_cases bh:j'=j
     ·subst bh;rw[hj]at r;cases r;have et:t'=i:=(List.getElem?_inj (by exact(rX G).1) snd).mp (by rw[G,hk]);subst et;rw[List.getElem?_set_self jS,if_pos (Nat.lt_succ_self _),List.getElem?_append_right (by lia),lc,Nat.sub_self];rfl
     ·have mq:k'≠k:=fun z=>bh ((List.getElem?_inj (by exact(rX r).1) knd).mp (by rw[r,hj,z]));have jP:t'≠i:=fun z=>mq (by rw[z,hk]at G;exact(rY G).symm);rw[List.getElem?_set_ne (Ne.symm bh),bc j' t' k' r G];by_cases jT:t'<i
      ·rw[if_pos jT,if_pos (by lia),List.getElem?_append_left (by lia)]
      ·rw[if_neg jT,if_neg (by lia)]
    ·have base:∀{M:V}{x':Dc},EW H Hc M x'->(∀J,M=.ref J->J≠a/\J≠L)->EW H (upd (upd Hc a (.dK (DS ks (R.set j c)))) L (.lst ((I.map (·.1)++g)++[c]))) M x':=fun o ZT=>o.up fun J e u h=>by
      obtain⟨g1,Z⟩:=ZT J e;rw[AH Z,AH g1];exact h
     by_cases gE:j'<g.length
     ·rw[List.getElem?_append_left gE]at r;refine base ((oc j' M x' r G).up fun J e u h=>sc _ _ h) fun J e=>?_;have hz:(g.zip X)[j']?=some (M,x'):=by rw[List.getElem?_zip_eq_some];exact⟨r,G⟩
      have hr:=rf J (BN.mpr ⟨(M,x'),rZ hz,e⟩);exact⟨(fun z=>by rw[z,bU]at hr;cases hr),(fun z=>by rw[z,ZQ]at hr;cases hr)⟩
     ·have hl:=(rX r).1;rw[List.length_append,List.length_singleton]at hl;have ej:j'=i:=by lia
      subst ej;rw[List.getElem?_append_right (by lia),lc,Nat.sub_self]at r;have e1:c=M:=by simpa using r
      subst e1;rw[hx]at G;cases G;exact base gB cL
    ·rw[AH G,AH r];exact sc _ _ (kp b' o r G h3)
    ·have ez:(g++[c]).zip X=g.zip X++[(c,x)]:=Fv lc hx;rw[ez,BB];refine List.nodup_append.mpr ⟨rn,by cases c<;>first|exact List.nodup_nil|exact List.nodup_cons.mpr ⟨(fun h=>nomatch h),List.nodup_nil⟩,fun y hy z hz e=>?_⟩;subst e;obtain⟨p',ZU,e'⟩:=BN.mp hz;rw[List.mem_singleton.mp ZU]at e';obtain⟨⟨c2,x2⟩,Xp,e2⟩:=BN.mp hy;obtain⟨j2,jU,mu⟩:=List.mem_iff_getElem.mp Xp;have Yr:(g.zip X)[j2]?=some (c2,x2):=by rw[rW jU,mu]
     obtain⟨g1,Z⟩:=List.getElem?_zip_eq_some.mp Yr;exact((oc j2 c2 x2 g1 Z).root (p:=(c2,x2)) e2).1 (fc y e')
    ·have ez:(g++[c]).zip X=g.zip X++[(c,x)]:=Fv lc hx;rw[ez,BB]at O;rcases List.mem_append.mp O with O|O
     ·exact rf M O
     ·obtain⟨p',ZU,e'⟩:=BN.mp O;rw[List.mem_singleton.mp ZU]at e';have h0:=fc M e';cases q2:H2 M with
      |none=>rfl
      |some o=>
       have:=kp M o (cL M e').1 (cL M e').2 q2;rw[h0]at this;cases this
   ·rintro σ N ⟨g,R,n,rfl,lc,fy,lv,D,Y,bc,oc,kp,rn,rf⟩;rw[ll]at lc bc;have mz:(g.zip X).map (·.1)=g:=List.map_fst_zip (by lia);have bX:(g.zip X).map (·.2)=X:=List.map_snd_zip (by lia);have bY:∀p∈g.zip X,∃j:Nat,g[j]?=some p.1/\X[j]?=some p.2:=fun p U=>by
     obtain⟨j,hj,e⟩:=List.mem_iff_getElem.mp U;exact⟨j,List.getElem?_zip_eq_some.mp (by rw[rW hj,e])⟩
    have bZ:∀b o,b≠L->Hw b=some o->H2 b=some o:=fun b o hb h=>s2 _ _ (by rw[AH hb];exact h);have C2:=C.step (H2:=N) (g.zip X) (fun b' o r G h3=>kp b' o r G (bZ b' o G h3)) (by rw[Y,List.map_append,mz]) (fun p U=>let⟨j,g1,Z⟩:=bY p U;oc j _ _ g1 Z) (fun p U=>let⟨j,g1,Z⟩:=bY p U;⟨Dc.Ej ZV _ (yp.mem_iff.mp (rZ Z)),Dc.Gp Zt.2 _ (yp.mem_iff.mp (rZ Z))⟩) rn (fun c hc=>by
      cases q2:Hw c with
      |none=>rfl
      |some o=>
       have h0:=rf c hc;by_cases bb:c=L
       ·rw[bb,ZQ]at h0;cases h0
       ·rw[bZ c o bb q2]at h0;cases h0) (by rw[D];simp) (fun ob u z=>by rw[D]at z;cases z)
     (fun ec H' dn at' gG=>by
      have dv:=dn.vals;rw[mz]at dv;have dk:=dn.UD;rw[bX]at dk;have el:ec.length=ss.length:=by have:=congrArg List.length dv;rw[List.length_map]at this;lia
      obtain⟨es,ep,mw,jV⟩:=reorder perm snd el;have ev:es.map Dc.val=R:=by
       refine List.ext_getElem? fun j=>?_;cases hk:ks[j]? with
       |none=>
        have r:=List.getElem?_eq_none_iff.mp hk;rw[List.getElem?_eq_none_iff.mpr (by rw[List.length_map];lia),List.getElem?_eq_none_iff.mpr (by lia)]
       |some k=>
        obtain⟨t,ht⟩:=pos j k hk;have tl:=(rX ht).1;rw[List.getElem?_map,jV j t k hk ht,bc j t k hk ht,if_pos tl,<-dv,List.getElem?_map]
      refine⟨.tab a ks es,rfl,?_,?_,?_⟩
      ·simp only[Dc.DR];refine⟨trivial,Nh (by lia) fun j x e r G=>?_⟩;obtain⟨k,hk⟩:∃k,ks[j]?=some k:=⟨_,rW (by rw[ck];exact(rX r).1)⟩;obtain⟨t,ht⟩:=pos j k hk;have e1:=jR t j k ht hk;rw[r]at e1;obtain⟨e',g1,Z⟩:=Dc.Kr dk t x e1;rw[jV j t k hk ht,g1]at G;cases G;exact Z
      ·simp only[Dc.At];exact⟨.inl (by rw[gG,D,Nf,ev]),mw.symm,knd,UI ep at'⟩
      ·simp only[Dc.addrs];exact(Ng ep).cons _)
    have mn:Dc.AI ((I++g.zip X).map (·.2))=Dc.AI (I.map (·.2))+Dc.AI xs:=by rw[List.map_append,Dc.A_,bX,Dc.Pd yp]
    exact⟨Dc.AI ((I++g.zip X).map (·.2)),by lia,I++g.zip X,_,_,_,rfl,C2,by lia,rfl⟩
theorem Jx:AW ["node"] ["node"] (AJ HH):={}
theorem OY{k:FuncData}(F:CD K "holder_in" "holder_in" HH f k)(T:Txt mg):Ac P w K mg base Bn 1 f k ["node"] Qa:=by
 refine F.oq Jx fun x A outer s H N Q E y h=>?_
 ·obtain⟨G,v,t,n,rfl,z,B,d,q⟩:=h;have nd:=Jx.nd;have l:=Az y;refine⟨_,(AD (Aa (AU (Eg:ET _ _ (aS K false)) (DP K 0) (BY (AA Ae (AX Ae))) rfl) (AF (AL (DP K 0))) AN) (AF (AL (Ah Be)))),?_⟩;obtain⟨m,c,rest,rfl,C,D⟩:=B.node d;have a:=C.up z;refine⟨_,rfl,m,_,0,.str c,rfl,rfl,a,EF,A',fun p I=>⟨p,_,rfl,.inr (Bm.of AB),rfl,rfl,_,rfl,?_⟩⟩;have g:=AG.new (o:=.tup [.str "row",.str "table"]) I;have i:=a.up g;have b:Sg (.str c) [.str "row",.str "table"]=decide (c∈(["row","table"]:List Str)):=JP c ["row","table"];rcases D with⟨J,L,e⟩|⟨hw,u,r,rfl,l⟩
  ·refine Cp ?_ ⟨Nat.zero_le _,fun M j=>q _ _ (g.trans (AG.new j)) (.inr ⟨e,M,rfl,AB⟩)⟩;rw[b];simp[J,L]
  ·refine FC ?_ ⟨_,rfl,m,_,1,u,rfl,rfl,i,DK,q _ _ g (.inl l)⟩;rw[b];rcases hw with rfl|rfl<;>decide
theorem GY:AW ["node"] ["node"] (AJ Ed):={}
theorem FG{y:FuncData}(F:CD K "inner_nodes" "inner_nodes" Ed f y)(T:Txt mg)(b:Df P w K mg base "inner_of" ["doc"] 2 JT)(a:Df P w K mg base "holder_in" ["node"] 1 Qa):Ac P w K mg base Bn 3 f y ["node"] Ja:=by
 refine F.oq GY fun B A outer s H J Q E j h=>?_
 ·obtain⟨G,v,t,n,rfl,z,C,c,q⟩:=h;have nd:=GY.nd;have L:=Az j;refine⟨_,(AF (AL (Bg b j.mm (AX (Bg a j.mm (AX (pv 0))))))),?_⟩;refine⟨_,rfl,G,v,t,n,rfl,z,C,c,fun w D d hw=>?_⟩;have hold:=c.Xi;rcases hw with hw|⟨e,I,rfl,k⟩
  ·exact⟨G,w,t.hold,rfl,z.trans d,hw,hold,fun p l g m o r u x i=>q p l g m (d.trans o) (d.free r) u x i⟩
  ·refine⟨D,.ref I,.lst [],rfl,AG.refl _,.lst (.inl k) .nil,Nat.zero_le _,fun p l g m o r u x i=>q p l g m (d.trans o) (d.free r) u ?_ (by rw[e];exact i)⟩;have:g=[]:=i;subst this;cases x;exact .nil
theorem OZ:AW ["holder","told"] ["holder","told"] (AJ Me):={}
theorem SW{x:FuncData}(F:CD K "filled" "filled" Me f x)(T:Txt mg)(b:Df P w K mg base "steps_of" ["doc"] 1 Fz)(c:mg "zip"=none):Ac P w K mg base Bn 2 f x ["holder","told"] OB:=by
 refine F.ok OZ (fun y H Q E h=>?_) (fun D A outer s H y Q E z h=>?_)
 ·cases h<;>(subst_vars;rfl)
 ·have nd:=OZ.nd;have O:=Az z;refine⟨_,(AD (Aa (Ar (AR B' rfl T.isinstance AO (AA (pv 0) (AX (Ab (v:=.ty "list") rfl T.list Bw rfl))))) (AF (AL (CN Fi rfl T.list Bw (AX (pv 1))))) AN) (AF (AL (Nu rfl rfl T.dict rfl c (Bg b z.mm (AX (pv 0))) (pv 1))))),?_⟩;rcases h with⟨v,B,L,e,rfl,j,k,G,q⟩|⟨v,I,B,L,e,rfl,j,k,hold,m,n,q⟩
  ·cases j with
   |@lst a y _ h r=>
    refine⟨_,rfl,_,"list","list",rfl,rfl,.lst h,_,rfl,Bk ?_⟩;exact⟨_,rfl,L,e,rfl,.inl (Aq.of k),fun p g=>q p _ (AG.new g) g AB⟩
  ·cases j with
   |@BI a kvs _ _ h J r=>
    refine⟨_,rfl,_,"list","dict",rfl,rfl,.dK h,_,rfl,Ay ?_⟩;refine⟨_,rfl,.ref a,.BI I B,rfl,.BI h J r,hold,fun p l R o S g st=>?_⟩;obtain⟨t,rfl,i,M⟩:=st;have u:=o _ _ k;have C:t.length=e.length:=by rw[i.length_eq,m]
    refine⟨_,rfl,p,L,t,e,rfl,rfl,Aq.of g,Aq.of u,C,by rw[i.length_eq];have:=hold.2;omega,fun N d=>?_⟩;refine q N t _ (o.trans (AG.new d)) (o.free d) i M ?_;rw[AB];congr 2;exact Kt C (i.nodup_iff.mpr n)
theorem HY:AW ["asks"] ["asks"] (AJ Fd):={}
theorem Mn{i g:Addr}{d:FuncData}{m:FuncData}(F:CD K "least_size" "least_size" Fd f m)(T:Txt mg)(c:Df P w K mg base "folded" ["root","inner","join"] 8 (MZ P w K mg base i))(p:mg "inner_nodes"=some (.ref i))(u:mg "least_part"=some (.ref g))(x:PySem.W.keepIn K (.ref g)=true)(y:Binds K d ["asks","told"] [])(B:Ac P w K mg base Bn 7 g d ["asks","told"] OL):Ac P w K mg base Bn 9 f m ["asks"] OM:=by
 refine F.oq HY fun C A outer s H M Q E n h=>?_
 ·obtain⟨v,a,rfl,D,j,l,q⟩:=h;have nd:=HY.nd;have N:=Az n;refine⟨_,(AF (AL (Bg c n.mm (AA (pv 0) (AA (Ef (v:=.ref i) rfl p rfl) (AX (Ef (v:=.ref g) rfl u rfl))))))),?_⟩;refine⟨_,rfl,fh,Ak.Vd,[],(fun _ _=>True),H,v,a.pt,g,d,_,rfl,AG.refl _,(fun b G=>nomatch G),D,⟨a,rfl,j,l⟩,fun t h=>h.jC,fun t O h k=>h.We k,.inl x,y,B.imp fun _ _ _ _ h=>⟨H,h⟩,bO.none,trivial,fun w b f I J L r _=>?_⟩;obtain⟨R,e,rfl,_⟩:=r;have:=Ak.FV _ _ e;subst this;cases L;exact q I fun b o e=>J.keep b o (fun z=>nomatch z) e
theorem HZ:AW ["asks","told"] ["asks","told"] (AJ Fe):={}
theorem Mo{I:FuncData}(F:CD K "least_part" "least_part" Fe f I)(T:Txt mg)(b:Df P w K mg base "size_of" ["doc"] 5 Qg):Ac P w K mg base Bn 7 f I ["asks","told"] OL:=by
 refine F.oq HZ fun S A outer s H vs Q E J h=>?_
 ·obtain⟨G,H0,v,t,L,ws,us,cs,fs,f0,rfl,M,n,o,U,nL,X,Y,z0,Z,pr,p,iv,il,q⟩:=h;have nd:=HZ.nd;have g:=Az J;refine⟨_,(AD (Aa (AU Bc (DP K 0) Ae (AY _)) (AF (AL (Bg b J.mm (AX (DP K 0))))) AN) (AF (AL (AM BU AE (AR (Eb rfl) rfl T.sum NV (AX (pv 1))))))),?_⟩;obtain⟨a,rfl,c,r⟩:=o;obtain⟨N,w0,rest,rfl,x,k⟩:=n.ak;have O:=x.up M;obtain⟨l,y,rfl⟩:=Ak.OA c Z;obtain⟨ew,ef⟩:=Qh pr p;refine⟨_,rfl,N,_,0,_,rfl,rfl,O,EF,rfl,_,rfl,?_⟩;have sum:a.wt=1+Ak.Dm l->∀(D:Ends)(B:St),D.rt=Q->B[1]?=some (some (V.ref L))->Vk (Sx (Vo fun i j=>V.int (i+j)) (tC (V.int 1)) (Zk (Jh K) (EU (Ge 1) Hh))) D B H:=fun e D B o C=>by
   refine⟨_,C,L,_,rfl,Aq.of (by rw[<-ew];exact U),_,_,rfl,rfl,?_⟩;rw[o,Ma,show(1:Int)+(Ak.Dm l:Int)=(a.wt:Int)by rw[e];lia];exact q _ (.int (a.wt:Int)) [] H (.of (AG.refl H)) (.int _) ⟨a,rfl,rfl,rfl⟩ trivial (Nat.zero_le _)
  rcases k with⟨rfl,rfl,rfl⟩|⟨d,u,rfl,rfl,rfl,g⟩|⟨R,m,u,rfl,rfl,rfl,g⟩|⟨ks,R,ls,m,u,z,rfl,rfl,rfl,g,hz⟩
  ·exact Bp (sum (by rw[show l=[]from y];rfl) _ _ rfl rfl)
  ·refine Ez ⟨_,rfl,N,_,1,_,rfl,rfl,O,DK,u,d,rfl,g.up M,c,r,fun H' s=>?_⟩;exact q _ (.int ((Ak.BC d).wt:Int)) [] H' (.of s) (.int _) ⟨.BC d,rfl,rfl,rfl⟩ trivial (Nat.zero_le _)
  ·exact Bp (sum (by rw[show l=R from y];rfl) _ _ rfl rfl)
  ·refine Bp (sum ?_ _ _ rfl rfl);simp only[Ak.Ct]at c;obtain⟨s1,p1,o1,e1⟩:=y;simp only[Ak.wt];rw[Ak.JZ (Ci c.1 c.2.1 p1 e1)]
theorem LO:AW ["asks"] ["asks"] (AJ Ju):={}
theorem QB{Z:Addr}(F:CD K "justs_in" "justs_in" Ju f fd)(T:Txt mg)(g:Df P w K mg base "gathered" ["root","inner"] 4 (MR Z))(mI:mg "inner_nodes"=some (.ref Z)):Ac P w K mg base Bn 5 f fd ["asks"] Qi:=by
 refine F.oq LO fun II A outer s H vs Q E hr h=>?_
 ·obtain⟨v,a,rfl,hv,J,hz,q⟩:=h;have nd:=LO.nd;have N:=Az hr;refine⟨_,(AF (AL (IK (fv:=[]) (fs:=[]) rfl (.of (by rfl)) (B_ (Bg g hr.mm (AA (pv 0) (AX (Ef (v:=.ref Z) rfl mI rfl))))) (fun C s0 H0 fp=>IJ (AU Bc (DP K 0) Ae (AY _))) (fun C s0 H0 fp=>(DP K 0))))),?_⟩;have hG:=Ak.Pj a J;refine⟨_,rfl,H,v,a.pt,a.size,rfl,AG.refl _,hv,a.nd hG (by omega),by omega,fun p O l bM H1 s1 np R vl bf ll=>?_⟩;have le:=vl.length;have B:=Uk (D:=Ak.cZ) ⟨a,rfl,J⟩ (fun t n h k=>h.We k) bf;refine⟨p,rfl,⟨_,Aq.of R⟩,Wq O.length (fun i=>O.getD i .Ai) (fun D i r=>AG H1 r/\∃(n:List V)(o:List Pt),r D=some (.lst n)/\n.length<=i/\AQ H n o/\(∀d∈o,d.doc/\d.size<=10)/\∀j,j<i->∀d,l[j]?=some (Ak.BC d).pt->d∈o) (fun D L=>⟨AG.new L,[],[],AB,Nat.le_refl _,.nil,(fun d I=>nomatch I),fun j hj=>absurd hj (Nat.not_lt_zero _)⟩) (fun D i r S ⟨s,_⟩=>⟨_,_,Aq.of (s _ _ R),rW S⟩) (fun D i r v H' S ⟨s,_⟩ y=>?_) (fun D r ⟨s,_⟩=>⟨_,Aq.of (s _ _ R),Nat.le_refl _⟩) (fun D i r L S ⟨s,n,o,U,lu,M,X,Y⟩=>?_) (fun D r L ⟨s,n,o,U,lu,M,X,Y⟩=>?_)⟩
  ·obtain⟨e,y⟩:=y;refine⟨?_,e⟩;rw[List.getD_eq_getElem?_getD,y _ (Aq.of (s _ _ R))];rfl
  ·have gi:O[i]?=some (O.getD i .Ai):=by rw[List.getD_eq_getElem?_getD,rW S];rfl
   obtain⟨t,ht,vt⟩:=vl.get gi;obtain⟨b,rfl,bo⟩:=B.ok t (rZ ht);obtain⟨t0,w0,rest,ev,Xq,k⟩:=vt.ak;rw[ev];have hs:=Xq.up (s1.trans s);have next:(∀d,b≠.BC d)->AG H1 r/\∃(n:List V)(o:List Pt),r D=some (.lst n)/\n.length<=i+1/\AQ H n o/\(∀d∈o,d.doc/\d.size<=10)/\∀j,j<i+1->∀d,l[j]?=some (Ak.BC d).pt->d∈o:=fun nb=>⟨s,n,o,U,by omega,M,X,fun j hj d I=>by
    by_cases c:j<i
    ·exact Y j c d I
    ·have:j=i:=by omega
     subst this;rw[ht]at I;exact absurd (Ak.FV _ _ (rY I)) (nb d)⟩
   refine⟨_,rfl,t0,_,0,_,rfl,rfl,hs,EF,rfl,_,rfl,?_⟩;rcases k with⟨rfl,rfl,rfl⟩|⟨d,u,rfl,rfl,rfl,N⟩|⟨xs,m,u,rfl,rfl,rfl,N⟩|⟨ks,xs,ls,m,u,z,rfl,rfl,rfl,N,hz⟩
   ·exact Bp (next fun d z=>nomatch z)
   ·simp only[Ak.ok]at bo;refine Ez ⟨_,rfl,t0,_,1,_,rfl,rfl,hs,DK,n,U,Am (by omega),s.put L,n++[u],o++[d],AB,by simp;omega,M.snoc N,fun x G=>?_,fun j hj x G=>?_⟩
    ·rcases List.mem_append.mp G with G|G
     ·exact X x G
     ·rw[List.mem_singleton.mp G];exact bo.2
    ·by_cases c:j<i
     ·exact List.mem_append_left _ (Y j c x G)
     ·have:j=i:=by omega
      subst this;rw[ht]at G;cases(Ak.FV _ _ (rY G));exact List.mem_append_right _ (List.mem_singleton.mpr rfl)
   ·exact Bp (next fun d z=>nomatch z)
   ·exact Bp (next fun d z=>nomatch z)
  ·have qp:=M.length;refine q D n o r (s1.trans s) (s1.free L) U M (by omega) X fun d I=>?_;rcases Ak.LB hG bf d I with⟨j,h1,h2⟩|⟨j,b,h1,h2,_⟩
   ·exact Y j (by omega) d h2
   ·have:=(rX h2).1;omega
theorem Jy:AW ["docs","leaves","part"] ["docs"] (AJ HI):={}
theorem Oa{S:Addr}(F:CD K "leaves_in" "leaves_in" HI f fd)(T:Txt mg)(a:Df P w K mg base "gathered" ["root","inner"] 4 (MY S))(mO:mg "inner_of"=some (.ref S)):Ac P w K mg base Bn 5 f fd ["docs"] Xl:=by
 refine F.oq Jy fun II A outer s H vs Q E hr h=>?_
 ·obtain⟨v,t,rfl,hv,hd,hz,q⟩:=h;have nd:=Jy.nd;have J:=Az hr;refine⟨_,(AD (Af 1 nd Fm) (AD (Mt (B_ (Bg a hr.mm (AA (pv 0) (AX (Ef (v:=.ref S) rfl mO rfl))))) (CY 2 nd) (AF (Aa (CS (Ar (AR JC rfl T.isinstance AO (AA (pv 2) (AX (BY (AA (Ab (v:=.ty "list") rfl T.list Bw rfl) (AX (Ab (v:=.ty "dict") rfl T.dict Cd rfl))))))))) (AF (Fl J (pv 1) (pv 2) C' rfl)) AN))) (AF (AL (pv 1))))),?_⟩;refine fun u J=>?_;obtain⟨H1,L,U,fu⟩:=CA (o:=.dK []) J;rw[L];clear L;dsimp only[BR];refine⟨_,rfl,H,v,t,rfl,U,hv,hd,hz,fun p es l H2 X np hp vl ll dl lv=>?_⟩;have le:=vl.length;have Y:=X _ _ fu;have pu:p≠u:=fun z=>by rw[z,fu]at np;cases np
  refine⟨p,rfl,⟨_,Aq.of hp⟩,Cj (xs:=es) (fun i M D=>∃(Z:Option V)(kvs:List (Key×V)),M=[some v,some (.ref u),Z]/\(∀b o,b≠u->H2 b=some o->D b=some o)/\D u=some (.dK kvs)/\kvs.length<=i/\∀j,j<i->∀k,l[j]?=some (.int k)->(Av kvs (Sum.inl k)).isSome=true)
   ⟨none,[],rfl,fun _ _ _ h=>h,Y,Nat.le_refl _,fun j C=>absurd C (Nat.not_lt_zero _)⟩ (fun i M D _ ⟨_,_,_,k,_⟩=>Aq.of (k _ _ pu hp)) ?_ ?_⟩
  ·rintro i x M D hx ⟨Z,kvs,rfl,N,G,lk,O⟩;obtain⟨tx,I,vx⟩:=vl.get hx;have hi:=(rX hx).1;have dx:=Pt.Aw dl tx (rZ I);have ZS:AG H D:=fun b o e=>N b o (fun z=>by rw[z,J]at e;cases e) ((U.trans X) _ _ e);dsimp only[BR];refine⟨_,rfl,A',fun g hg=>?_⟩;obtain⟨Hj,L,tg,R⟩:=CA (o:=.tup [.ty "list",.ty "dict"]) hg;rw[L];clear L;have m:=tg _ _ G;have y:∀b o,b≠u->H2 b=some o->Hj b=some o:=fun b o n e=>tg _ _ (N b o n e);have B:=(vx.up ZS).up tg;have skip:(∀k,tx≠.int k)->∀j,j<i+1->∀k,l[j]?=some (.int k)->(Av kvs (Sum.inl k)).isSome=true:=fun nb j C k d=>by
    by_cases c:j<i
    ·exact O j c k d
    ·have:j=i:=by omega
     subst this;rw[I]at d;exact absurd (rY d) (nb k)
   cases tx with
   |int i0=>
    cases B;refine⟨_,g,"int",rfl,R,.int _,_,rfl,Bk ⟨_,rfl,_,rfl,u,_,rfl,Lj.k (k:=Sum.inl i0) m (Am (by omega)),?_⟩⟩;refine⟨_,_,rfl,fun b o n e=>by rw[AH n];exact y b o n e,AB,by have:=CP kvs (Sum.inl i0) (.bl true);omega,fun j C k d=>?_⟩;rw[Fj];split
    ·rfl
    ·rename_i ne
     by_cases c:j<i
     ·exact O j c k d
     ·have:j=i:=by omega
      subst this;rw[I]at d;cases d;exact absurd rfl ne
   |str s0=>
    cases B;refine⟨_,g,"str",rfl,R,.str _,_,rfl,Bk ⟨_,rfl,_,rfl,u,_,rfl,Lj.k (k:=Sum.inr s0) m (Am (by omega)),?_⟩⟩;refine⟨_,_,rfl,fun b o n e=>by rw[AH n];exact y b o n e,AB,by have:=CP kvs (Sum.inr s0) (.bl true);omega,fun j C k d=>?_⟩;rw[Fj,if_neg (fun z=>nomatch z)];exact skip (fun k z=>nomatch z) j C k d
   |bl b=>simp[Pt.doc]at dx
   |Ai=>simp[Pt.doc]at dx
   |tup xs=>simp[Pt.doc]at dx
   |lst xs=>
    cases B with
    |lst h r=>exact⟨_,g,"list",rfl,R,.lst h,_,rfl,Ay ⟨_,_,rfl,y,m,by omega,skip fun k z=>nomatch z⟩⟩
   |BI ks xs=>
    cases B with
    |BI h d r=>exact⟨_,g,"dict",rfl,R,.dK h,_,rfl,Ay ⟨_,_,rfl,y,m,by omega,skip fun k z=>nomatch z⟩⟩
  ·rintro M D ⟨Z,kvs,rfl,N,G,lk,O⟩;refine⟨_,rfl,q u kvs D (fun b o e=>N b o (fun z=>by rw[z,J]at e;cases e) ((U.trans X) _ _ e)) J G (by omega) fun k d=>?_⟩;obtain⟨j,C⟩:=List.getElem?_of_mem (lv _ d);exact O j (by have:=(rX C).1;omega) k C
theorem Ob:AW ["asks","avoid"] ["asks","avoid"] (AJ Mf):={}
theorem SX{gI O:Addr}{k:FuncData}(F:CD K "sample" "sample" Mf f fd)(T:Txt mg)(g:Df P w K mg base "justs_in" ["asks"] 5 Qi)(c:Df P w K mg base "sample_of" ["asks","leaves"] 10 (Qn C O Xm Xn))(M:Mk K C gI)(mC:mg "Leaves"=some (.ref C))(U:Binds K k ["self","docs"] [])(V:Ac P w K mg base Bn 6 gI k ["self","docs"] (Qj C)):Ac P w K mg base Bn 11 f fd ["asks","avoid"] (VD O Xm Xn):=by
 refine F.oq Ob fun II A outer s H vs Q E R h=>?_
 ·obtain⟨v,a,l,X,Y,rfl,hv,r,hz,hl,B,hd,my,tab,q⟩:=h;have nd:=Ob.nd;have hu:=Az R;have Z:BQ 7 _:=R.mono (by decide);refine⟨_,(AF (AL (Bg c R.mm (AA (pv 0) (AX (Vs M V Z rfl mC U .nil HJ (AX (AM PL (Bg g R.mm (AX (pv 0))) (pv 1))))))))),?_⟩;have hG:=Ak.Pj a r;have bj:=Ak.Ny a r;obtain⟨tx,hT⟩:=tab.IC;refine⟨_,rfl,_,rfl,v,a,rfl,hv,r,hz,fun p es js H1 s1 hp f1 vj lj dj aj=>?_⟩;have qq:=vj.length;have m_:=B.length;have nA:=Pt.CL Y;refine⟨_,rfl,p,l,es,X,rfl,rfl,f1,s1 _ _ hl,An (by lia),fun S Xp o D G I ne=>?_⟩;obtain⟨i,t⟩:∃i,i=upd H1 S (.lst (es++X)):=⟨_,rfl⟩;rw[<-t]at G I⊢;have s12:AG H1 i:=by rw[t];exact AG.new Xp
  have J:=s1.trans s12;have e2:i S=some (.lst (es++X)):=by rw[t];exact AB
  have S3:AG i (upd (upd i D (.own o)) o (.ins C D [])):=(AG.new I).trans (AG.new (by rw[AH (Ne.symm ne)];exact G));have nB:AG i (Zm o (upd (upd i D (.own o)) o (.ins C D []))):=fun b e h=>by
   have nb:b≠o:=fun z=>by rw[z,G]at h;cases h
   unfold Zm;rw[if_neg nb];exact S3 _ _ h
  have vl:Val i (.ref S) (.lst (js++Y)):=.lst (.inl e2) ((vj.up J).append (B.up J));have nC:Pt.Bl js:=Pt.Dz fun d hd=>(dj d hd).1;have zj:=Pt.DO (n:=10) fun d hd=>(dj d hd).2;refine⟨o,D,.ref S,.lst (js++Y),rfl,AB,vl.up nB,Pt.GQ nC hd,by simp only[Pt.size,Pt.Ce];lia,fun u kvs H4 bz nE lv lk has=>⟨rfl,?_⟩⟩;have nF:i u=none:=S3.free nE;have L:H o=none:=J.free G;have N:H u=none:=J.free nF;have S4:AG i H4:=fun b e h=>bz.keep b e (fun z=>by rw[List.mem_singleton.mp z,G]at h;cases h) (S3 _ _ h);have j:=J.trans S4;have tS:AG (Bo [O] H) H4:=fun b e h=>j _ _ (DG h).2;refine⟨Bo [O] H,v,o,u,kvs,0,a,rfl,tS,DF List.mem_cons_self,hv.Rx (Er hT),hG,by lia,By L,By N,lv,lk,tab.up j,fun w b f H5 kp dm tb vw sm nd no=>?_⟩;refine q w b f H5 (fun z e n1 h=>kp z e n1 (fun m=>?_) (j _ _ h)) tb (vw.up fun z e h=>?_) sm nd fun x hx d hd hm=>?_
  ·rcases List.mem_cons.mp m with rfl|m
   ·rw[L]at h;cases h
   ·rw[List.mem_singleton.mp m,N]at h;cases h
  ·cases h4:H4 z with
   |some y=>rw[D' h4]at h;cases h
   |none=>rw[Ax h4]at h;rw[Ax (j.free h4)];exact h
  ·have:=has x (by
    simp only[Pt.KA];refine Pt.Ea.mpr ⟨d,List.mem_append.mpr ?_,hm⟩;rcases hd with hd|hd
    ·exact .inl (aj d hd)
    ·exact .inr hd)
   rw[no x hx]at this;cases this
theorem Jz:AW ["asks","leaves"] ["asks","leaves"] (AJ Cf):={}
theorem Oc{fI cM TM:Addr}(F:CD K "sample_of" "sample_of" Cf f fd)(T:Txt mg)(R:Df P w K mg base "folded" ["root","inner","join"] 8 (MZ P w K mg base fI))(l:Df P w K mg base "sample_part" ["asks","told","leaves"] 4 (Qm C))(jF:fd.code=.ref cM)(nG:PySem.W.codeHdIn K cM TM=true)(gH:BM mg base)(mI:mg "inner_nodes"=some (.ref fI)):Ac P w K mg base Bn 10 f fd ["asks","leaves"] (Qn C TM Xm Xn):=by
 obtain⟨cm,cn,S,U,V,X⟩:=R.ex;obtain⟨Xr,Xs,m,p,y,B⟩:=l.ex;refine F.lU jF Jz (fun vs H Q E h=>?_) (fun A outer s H vs Q E hr h=>?_)
 ·obtain⟨G,v,o,u,k0,N,a,rfl,sG,gT,hv,Ap,bj,go,gu,lv,gJ,tab,q⟩:=h;rfl
 ·obtain⟨G,v,o,u,k0,N,a,rfl,sG,gT,hv,Ap,bj,go,gu,lv,gJ,tab,q⟩:=h;have nd:=Jz.nd;have hu:=Az hr;have J:BQ 8 _:=hr.mm;have Ww:BQ 4 _:=hr.mm;refine⟨_,(AF (AL (Uj X J rfl V S U .nil rfl (AA (pv 0) (AA (Ef (v:=.ref fI) rfl mI rfl) (AX (Yy rfl nG gH rfl rfl))))))),?_⟩;refine⟨_,rfl,tab,fun fl cl pm ctv I j nf jW gK nH=>?_⟩;intro F0 fz;obtain⟨Z,hZ⟩:∃Z,Z=DT (Lb Bn P w K mg base ["asks","leaves"] "sample_of" (AJ Cf) f (.ref cM) A outer s H E).XI:=⟨_,rfl⟩;rw[<-hZ];have zn:∀b∈Z,I b=none:=fun b g=>by rw[hZ]at g;obtain⟨x,hx⟩:=CM.mp g;exact fz.Ai x b hx
  have zo:∀b∈Z,∃o,F0 b=some (.BP o (.own 0)):=fun b g=>by rw[hZ]at g;obtain⟨x,hx⟩:=CM.mp g;obtain⟨o,_,e,_⟩:=fz.cW x b hx;exact⟨o,e⟩
  have m1:s.heap.objs.size+1∈Z:=by rw[hZ];exact CM.mpr ⟨"leaves",rfl⟩
  obtain⟨o1,u1,e1,d1,r1⟩:=fz.val 1 "leaves" (.ref o) (s.heap.objs.size+1) rfl rfl rfl rfl;have M:AG I (MS Z F0 I):=fun b o e=>by rw[Bf (fun g=>by rw[zn b g]at e;cases e)];exact e
  have qr:=lv.ne;obtain⟨⟨dx,qt,ho,_⟩,cp⟩:=id lv;have tT:∃D,H TM=some (.IC D):=by cases tab with|new h=>exact⟨_,h⟩|old _ _ _ _ h=>exact⟨_,h⟩
  have oT:o≠TM:=fun z=>by obtain⟨D,e⟩:=tT;rw[z,e]at ho;cases ho
  have uT:u≠TM:=fun z=>by obtain⟨D,e⟩:=tT;rw[z,e]at cp;cases cp
  have cq:=j _ _ oT ho;have cu:=j _ _ uT cp;have gL:Lv C I o u N k0:=lv.up (cq.trans ho.symm) (cu.trans cp.symm);have jX:Lv C (MS Z F0 I) o u N k0:=gL.up ((M _ _ cq).trans cq.symm) ((M _ _ cu).trans cu.symm);have Y:∀b z,MS Z F0 I b=some z->(∀a b c,z≠.ins a b c)->(∀a,z≠.dK a)->b∉[o,u]:=fun b z e n1 n2 g=>by
   rcases List.mem_cons.mp g with rfl|g
   ·rw[M _ _ cq]at e;cases e;exact n1 _ _ _ rfl
   ·rw[List.mem_singleton.mp g,M _ _ cu]at e;cases e;exact n2 _ rfl
  have cw:∀b D w',MS Z F0 I b=some (.BP D w')->Bo [o,u] (MS Z F0 I) b=some (.BP D w'):=fun b D w' e=>by
   rw[Ag (Y b _ e (fun _ _ _ z=>nomatch z) (fun _ z=>nomatch z))];exact e
  have gM:AG G (Bo [o,u] (MS Z F0 I)):=fun b D e=>by
   rw[Ag (fun g=>by
    rcases List.mem_cons.mp g with rfl|g
    ·rw[go]at e;cases e
    ·rw[List.mem_singleton.mp g,gu]at e;cases e)]
   exact M _ _ (j b D (fun z=>by rw[z,gT]at e;cases e) (sG _ _ e))
  have gz:∀b∈Z,G b=none:=fun b g=>by
   cases h:G b with
   |none=>rfl
   |some o=>
    have:=j b o (fun z=>by rw[z,gT]at h;cases h) (sG _ _ h);rw[zn b g]at this;cases this
  have x1:Bo [o,u] (MS Z F0 I) (s.heap.objs.size+1)=some (.BP o1 (.own 0)):=cw _ _ _ (by rw[HP m1];exact e1);have LH:=OC.mk (H:=Bo [o,u] (MS Z F0 I)) (f:=fl) (cl:=[("leaves",s.heap.objs.size+1)]) (pm:=pm) (c:=cl) (ctv:=ctv) (fs:=["leaves"]) (ws:=[.ref o]) ⟨_,cw _ _ _ (M _ _ gK)⟩ (let⟨oc,uc,xs,tt,h,r⟩:=nH;⟨oc,uc,xs,tt,cw _ _ _ (M _ _ h),r⟩) (fun x hx=>by
   rw[List.mem_singleton.mp hx];exact⟨_,rfl⟩) fz.inj (fun c hc=>by
   rw[List.mem_singleton.mp hc];exact⟨o1,_,x1,d1⟩) (fun i x vv h1 h2=>by
   match i,h1,h2 with
   |0,h1,h2=>cases h1;cases h2;exact⟨_,o1,u1,rfl,x1,d1,r1⟩) rfl
  generalize gN:MS Z F0 I=Hx at M gM x1 LH jX Y cw⊢;have zc:∀{b:Addr},b∈([("leaves",s.heap.objs.size+1)]:List (Str×Addr)).map (·.2)->b∈Z:=fun{b} g=>by
   rw[List.mem_singleton.mp g];exact m1
  generalize qu:([("leaves",s.heap.objs.size+1)]:List (Str×Addr))=O at LH zc gK;obtain⟨G',cx⟩:∃G',G'=Bo [o,u] Hx:=⟨_,rfl⟩;rw[<-cx]at LH gM x1;have zx:∀b∈O.map (·.2),∃o,G' b=some (.BP o (.own 0)):=fun b g=>by obtain⟨o,_,e,_⟩:=LH.fz b g;exact⟨o,e⟩
  have nZ:∀b∈[o,u],b∉O.map (·.2):=fun b g hc=>by
   obtain⟨D,e⟩:=zx b hc;rw[cx,DF g]at e;cases e
  have SI:=Pw.st C o u k0;have GL:=LH.ok (P:=P) (w:=w) (K:=K) (mg:=mg) (base:=base) (k:=6) (ps:=["node","told"]) (sp:=IX cb Ak.Vd [o,u] (Pw C o u k0) G') {} (fun vs H Q E hj=>by obtain⟨_,_,_,_,_,_,_,_,_,rfl⟩:=hj;rfl) fun vs H2 Q2 E2 hj=>by
   obtain⟨H0,nv,nt,L,ws,us,cs,fs,f0,rfl,sx,nM,hD,hL,nL,nN,jY,z0,kd,pr,nO,iv,il,q2⟩:=hj;refine⟨[.ref o],LH.up sx,fun A1 gO s1 cy=>⟨_,QK B (cy.mono (by decide)) rfl y m p .nil HJ (AA (pv 0) (AA (pv 1) (AX (pv 2)))),?_⟩⟩;have nP:∀b∈O.map (·.2),∃o,H2 b=some (.BP o (.own 0)):=fun b g=>let⟨o,e⟩:=zx b g;⟨o,sx _ _ e⟩;have so:AG (Bo (O.map (·.2)) G') (Bo (O.map (·.2)) H2):=fun b o e=>by obtain⟨h1,h2⟩:=DG e;rw[Ag h1];exact sx _ _ h2
   have nz:∀b o,H0 b=none->H2 b=some o->b∉O.map (·.2):=fun b o h _ g=>by obtain⟨D,e⟩:=zx b g;rw[jY _ _ e]at h;cases h
   refine⟨_,rfl,_,rfl,_,rfl,o,u,k0,Bo (O.map (·.2)) G',nv,L,rfl,gJ,Bo (O.map (·.2)) H0,nv,nt,L,ws,us,cs,fs,f0,rfl,so,nM.Rx (Ry zx),hD,?_,By nL,fun b hb=>?_,fun b D e=>?_,fun b g=>?_,kd,pr,?_,SI.up _ _ _ (fun b g=>Ag (nZ b g)) iv,il,fun w' b' f' H' bz vw mx nQ nR nU=>?_⟩
   ·rw[Ag (fun g=>by obtain⟨D,e⟩:=nP L g;rw[hL]at e;cases e)];exact hL
   ·by_cases g:b∈O.map (·.2)
    ·exact DF g
    ·rw[Ag g]at hb;exact By (nN b hb)
   ·obtain⟨h1,h2⟩:=DG e;rw[Ag h1];exact jY _ _ h2
   ·rw[Ag (nZ b g)];exact z0 b g
   ·refine nO.up fun b o e=>?_;cases h:H0 b with
    |some z=>rw[D' h]at e;cases e
    |none=>
     rw[Ax h]at e;rw[Ax (By h),Ag (nz b o h e)];exact e
   ·refine q2 w' b' f' _ ⟨fun b D nb e=>?_,fun b e=>?_⟩ (vw.up fun b o e=>?_) mx (SI.up _ _ _ (fun b g=>Bf (nZ b g)) nQ) nR
    ·by_cases g:b∈O.map (·.2)
     ·rw[HP g];exact e
     ·rw[Bf g];exact bz.keep _ _ nb (by rw[Ag g];exact e)
    ·by_cases g:b∈O.map (·.2)
     ·rw[HP g]at e;exact e
     ·rw[Bf g]at e;have:=bz.EJ b e;rw[Ag g]at this;exact this
    ·cases h:Bo (O.map (·.2)) H0 b with
     |some z=>rw[D' h]at e;cases e
     |none=>
      rw[Ax h]at e;have g:b∉O.map (·.2):=fun g=>by rw[nU b g]at e;cases e
      rw[Ag g]at h;rw[Ax h,Bf g];exact e
  refine⟨cb,Ak.Vd,[o,u],Pw C o u k0,G',v,a.pt,fl,_,_,rfl,fun b D e=>by rw[cx]at e;exact(DG e).2,fun b g=>by rw[cx];exact DF g,hv.up gM,⟨a,rfl,Ap,bj⟩,fun t h=>h.jC,fun t us h k=>h.We k,.inr ⟨_,_,_,M _ _ gK,rfl⟩,.all fun us hl=>by obtain⟨y1,y2,rfl⟩:=(show∃y1 y2,us=[y1,y2]from by match us,hl with|[y1,y2],_=>exact⟨y1,y2,rfl⟩);rfl,GL,SI,Pw.start jX,fun w' b' f' H4 bz vw mr jZ=>?_⟩;obtain⟨a',em,mx⟩:=mr;have:=Ak.FV _ _ em;subst this;have hT:∃o,I TM=some o:=by cases jW with|new h=>exact⟨_,h⟩|old _ _ _ _ h=>exact⟨_,h⟩
  have gP:∀b,I b=none->H b=none:=fun b h=>by
   cases hh:H b with
   |none=>rfl
   |some z=>
    by_cases bt:b=TM
    ·obtain⟨D,e'⟩:=hT;rw[bt,e']at h;cases h
    ·rw[j b z bt hh]at h;cases h
  have S4:∀b z,b∉[o,u]->I b=some z->Bo Z H4 b=some z:=fun b z n e=>by rw[Ag (fun g=>by rw[zn b g]at e;cases e)];exact bz.keep _ _ n (M _ _ e)
  have nV:DU Xm Xn TM (Bo Z H4):=by
   cases jW with
   |new h=>exact .new (S4 _ _ (Y _ _ (M _ _ h) (fun _ _ _ z=>nomatch z) (fun _ z=>nomatch z)) h)
   |old c oc xs t h hc d n=>exact .old c oc xs t (S4 _ _ (Y _ _ (M _ _ h) (fun _ _ _ z=>nomatch z) (fun _ z=>nomatch z)) h) (S4 _ _ (Y _ _ (M _ _ hc) (fun _ _ _ z=>nomatch z) (fun _ z=>nomatch z)) hc) d n
  refine q w' b' f' _ (fun z e n1 n2 h=>S4 _ _ n2 (j z e n1 h)) (fun z h=>?_) nV (vw.up fun b o e=>?_) mx jZ.nd jZ.no
  ·by_cases g:z∈Z
   ·exact gP _ (zn _ g)
   ·rw[Ag g]at h;have:=bz.EJ z h;rw[<-gN,Bf g]at this;exact gP _ this
  ·cases h:Hx b with
   |some z=>rw[D' h]at e;cases e
   |none=>
    rw[Ax h]at e;have g:b∉Z:=fun g=>by obtain⟨D,e'⟩:=zo b g;rw[<-gN,HP g,e']at h;cases h
    rw[<-gN,Bf g]at h;rw[Ax (gP _ h),Ag g];exact e
theorem GZ:AW ["asks","told","leaves"] ["asks","told","leaves"] (AJ Ee):={}
theorem KZ{gF:Addr}{R:FuncData}(F:CD K "sample_part" "sample_part" Ee f fd)(T:Txt mg)(c:Df P w K mg base "copy_of" ["doc"] 2 JM)(g:Df P w K mg base "filled" ["holder","told"] 2 OB)(cC:RN K C)(mF:Meth K C "fresh" gF)(bF:Binds K R ["self"] [])(GF:Ac P w K mg base Bn 1 gF R ["self"] (Qk C)):Ac P w K mg base Bn 4 f fd ["asks","told","leaves"] (Qm C):=by
 refine F.oq GZ fun II A outer s H vs Q E hr h=>?_
 ·obtain⟨o,u0,k0,G,v,L,rfl,gJ,H0,v9,t,L9,ws,us,cs,fs,f0,e0,sG,nW,hD,hL,nL,r,qv,z0,kd,pr,n,J,il,q⟩:=h;have nd:=GZ.nd;have M:=Az hr;have nX:BQ 1 _:=hr.mono (by decide);refine⟨_,(AD (Aa (AU Bc (DP K 0) Ae (AY _)) (AF (AL (TH (pv 2) cC mF GF nX bF .nil HJ))) AN) (AD (Aa (AU Bc (DP K 0) Ae (AY _)) (AF (AL (Bg c hr.mm (AX (DP K 0))))) AN) (AF (AL (Bg g hr.mm (AA (DP K 0) (AX (pv 1)))))))),?_⟩;cases e0;obtain⟨a,rfl,i,x⟩:=hD;obtain⟨y,w0,rest,rfl,Xq,k⟩:=nW.ak;have B:=Xq.up sG;obtain⟨D,k2,rfl⟩:=Ak.OA i kd;have O:=Ql pr;have SI:=Pw.st C o u0 k0;have I:∀{l:List Int}{S Hb:Hp},AG S Hb->Pw C o u0 k0 l S->Pw C o u0 k0 l Hb:=fun{l S Hb} s h=>SI.up l S Hb (fun b hb=>by obtain⟨z,e,_⟩:=SI.EJ l S h b hb;rw[e,s _ _ e]) h;refine⟨_,rfl,y,_,0,_,rfl,rfl,B,EF,rfl,_,rfl,?_⟩;rcases k with⟨rfl,rfl,rfl⟩|⟨d,u,rfl,rfl,rfl,M⟩|⟨xs,m,u,rfl,rfl,rfl,M⟩|⟨ks,xs,ls,m,u,z,rfl,rfl,rfl,M,hz⟩
  ·have U:D=[]:=k2;subst U;cases O;rw[List.flatten_nil,List.append_nil]at J il;obtain⟨⟨N,kvs,lv,r1,r2,r3⟩,nY,nh⟩:=J;obtain⟨⟨dx,dP,ho,_,_,ni,_⟩,_⟩:=id lv;refine Ez ⟨_,rfl,o,dx,dP,rfl,ho,ni,o,u0,N,kvs,rfl,lv,by omega,fun k H' nk bz nj=>?_⟩;exact q _ (.int k) [k] H' bz (.int _) ⟨.any,rfl,.any k⟩ (Pw.new (N:=N) (H:=H) nY nh r1 r2 r3 nk nj) (by simp)
  ·have U:D=[]:=k2;subst U;cases O;rw[List.flatten_nil,List.append_nil]at J;simp only[Ak.Ct]at i;simp only[Ak.wt]at x;refine Bp ⟨_,rfl,y,_,0,_,rfl,rfl,B,EF,rfl,_,rfl,Ez ?_⟩;refine⟨_,rfl,y,_,1,_,rfl,rfl,B,DK,Nv rfl (M.up sG) i x fun w V j vw=>?_⟩;exact q w d [] V (.of j) (vw.up (Bs r fun b o _ h=>h)) ⟨.BC d,rfl,.BC d⟩ (by rw[List.append_nil];exact I j J) (by simp)
  ·have U:D=xs:=k2;subst U;refine Bp ⟨_,rfl,y,_,0,_,rfl,rfl,B,EF,rfl,_,rfl,Bp ?_⟩;have lw:=n.length;have lc:=O.len;simp only[Ak.wt]at x;have:=Ak.CL D;have:=Ak.Cs D;refine⟨_,rfl,y,_,1,_,rfl,rfl,B,DK,_,rfl,.row u _ L ws rfl (M.up sG) hL (by omega) fun p V j np hp=>?_⟩;exact q _ (.lst cs) fs.flatten V (.of j) (.lst (.inl (by rw[Ax (r p np)];exact hp)) (n.up (Bs (fun b h=>h) fun b o _ h=>j _ _ h))) ⟨.row D m,rfl,.row O⟩ (I j J) (by omega)
  ·refine Bp ⟨_,rfl,y,_,0,_,rfl,rfl,B,EF,rfl,_,rfl,Bp ?_⟩;obtain⟨ss,pm,so,e⟩:=k2;simp only[Ak.Ct]at i;obtain⟨o1,o2,o3,o4,o5,o6,o7⟩:=i;have la:D.length=ss.length:=by have:=congrArg List.length e;simpa using this.symm
   have qw:=pm.length_eq;have lw:=n.length;have lc:=O.len;refine⟨_,rfl,y,_,1,_,rfl,rfl,B,DK,_,rfl,.tab u ks _ L ws rfl (M.up sG) hL ⟨by rw[Ak.BG,List.length_map];exact o1,by omega⟩ (by omega) o2 fun p X V j np Y Z hp=>?_⟩;have es:=HM Z so (Y.trans pm.symm);subst es;have l3:X.length=ws.length:=by omega
   exact q _ (.BI X cs) fs.flatten V (.of j) (.BI (.inl (by rw[Ax (r p np)];exact hp)) (Dl l3) (by rw[F' l3];exact n.up (Bs (fun b h=>h) fun b o _ h=>j _ _ h))) ⟨.tab ks xs ls m,rfl,.tab Y Z e O⟩ (I j J) (by omega)
theorem VM:AW ["_law_script","_law_k"] ["_law_script","_law_k"] (AJ VJ):={}
theorem Wx(F:CD K "_law_cell" "_law_cell" VJ f c)(T:Txt mg):Ac P w K mg base Bn 1 f c ["_law_script","_law_k"] (Tu K):=by
 refine F.oq VM fun g A outer s H m Q E i h=>?_
 ·obtain⟨a,b,k,rfl,d,q⟩:=h;have nd:=VM.nd;have n:=Az i;refine⟨_,(AD (Aa (AU Ih (pv 1) (EM T.len (pv 0)) (AY _)) (AF (AL (AM As (GV K (pv 0) (pv 1)) (AM FL AE (AM Ow AE AE))))) AN) (AF (AL (AM BU AE (AM FL AE (pv 1)))))),?_⟩;refine⟨_,rfl,_,rfl,a,_,rfl,.inl d,_,_,rfl,rfl,_,rfl,?_⟩;refine RW (fun e=>?_) (fun e=>?_)
  ·have j:k<b.length:=by
    have:=of_decide_eq_true e;rw[List.length_map]at this;omega
   have l:(b.map V.int)[k]?=some (.int b[k]):=by rw[List.getElem?_map,rW j];rfl
   exact⟨_,rfl,_,rfl,a,_,_,_,rfl,rfl,d,Ao l,_,_,rfl,rfl,⟨by decide,by decide,by decide⟩,_,_,rfl,rfl,.inl ⟨by decide,by decide⟩,_,_,rfl,rfl,(by show(0:Int)<_;decide),q _ (Int.emod_nonneg _ (by decide))⟩
  ·exact⟨_,rfl,_,_,rfl,rfl,.inl ⟨by decide,by decide⟩,_,_,rfl,rfl,q _ (by omega)⟩
theorem Xt:AW ["_law_cell_here","_law_k","_law_number","_law_j"] ["_law_cell_here","_law_k"] (AJ Wv):={}
theorem ZW{n:FuncData}(F:CD K "_law_mix" "_law_mix" Wv f n)(T:Txt mg):Ac P w K mg base Bn 1 f n ["_law_cell_here","_law_k"] Tx:=by
 refine F.oq Xt fun p A outer s H t Q E r h=>?_
 ·obtain⟨c,k,rfl,u,q⟩:=h;have nd:=Xt.nd;have v:=Az r;refine⟨_,(AD (Aa (PW.pt (pw_and (AU Bc (AM As (pv 0) AE) AE (AY _)) (pw_and1 (AU aF (pv 0) (AM FL AE (AM Ow AE AE)) (AY _))))) (AD (Af 2 nd (AM Bq (pv 0) AE)) (AD (Mt (BL rfl T.range (AX (pv 1))) (CY 3 nd) (AF (Af 2 nd (AM Bq (pv 2) AE)))) (AF (AL (AM As (pv 2) AE))))) AN) (AD (Af 2 nd (AM As (AM FL (AM BU (pv 0) AE) AE) AE)) (AD (Af 2 nd (AM As (AM BU (pv 2) (AM FL (AM BU (pv 1) AE) AE)) AE)) (AD (Af 2 nd (AM As (AM FL (pv 2) (pv 2)) AE)) (AD (Af 2 nd (AM As (AM FL (AM BU (pv 2) AE) (AM BU (AM Bq (pv 2) AE) AE)) AE)) (AF (AL (AM Bq (pv 2) AE)))))))),?_⟩;have lo:∀x:Int,-(2 ^ 64)<x % 2305843009213693951/\x % 2305843009213693951<2 ^ 64:=fun x=>by
   have b:=Int.emod_nonneg x (show(2305843009213693951:Int)≠0 by decide);have d:=Int.emod_lt_of_pos x (show(0:Int)<2305843009213693951 by decide);constructor<;>omega
  have lo1:∀x:Int,-(2 ^ 64)<x % 999999999999999989+1/\x % 999999999999999989+1<2 ^ 64:=fun x=>by
   have b:=Int.emod_nonneg x (show(999999999999999989:Int)≠0 by decide);have d:=Int.emod_lt_of_pos x (show(0:Int)<999999999999999989 by decide);constructor<;>omega
  have o:¬(c % 4=0/\4*10 ^ 60<=c)->Q (.int ((NW c k+1)*(NW c k/1000003+7) % 2305843009213693951/7919)) H:=fun h=>by
   have e:Rf c k=_:=if_neg h;rw[e]at q;exact q
  refine⟨_,rfl,_,_,rfl,rfl,(by show(0:Int)<_;decide),rfl,_,rfl,?_⟩;refine RW (fun b=>?_) (fun b=>?_)
  ·refine⟨_,rfl,_,_,rfl,rfl,⟨by decide,by decide,by decide⟩,_,_,rfl,rfl,.inl ⟨by decide,by decide⟩,_,_,rfl,rfl,_,rfl,?_⟩;have c4:c % 4=0:=V.int.inj (of_decide_eq_true b);refine RW (fun d=>?_) (fun d=>?_)
   ·have g:4*10 ^ 60<=c:=of_decide_eq_true d;have e:Rf c k=_:=if_pos ⟨c4,g⟩;rw[e]at q;refine⟨_,rfl,_,_,rfl,rfl,⟨by decide,by decide⟩,?_⟩;refine⟨_,rfl,_,rfl,by omega,by omega,CZ (lo:=0) (fun i j l=>∃(m:Option V),j=[some (.int c),some (.int (k:Int)),some (.int (Tv i (c/4))),m]/\l=H) ⟨none,rfl,rfl⟩ ?_ ?_⟩
    ·rintro i j l y ⟨m,rfl,rfl⟩;exact⟨_,rfl,_,_,rfl,rfl,⟨by decide,by decide⟩,_,rfl,rfl⟩
    ·rintro j l ⟨m,rfl,rfl⟩;rw[Int.toNat_natCast];exact⟨_,rfl,_,_,rfl,rfl,(by show(0:Int)<_;decide),q⟩
   ·have a:¬(c % 4=0/\4*10 ^ 60<=c):=fun z=>d (decide_eq_true z.2);refine⟨_,rfl,_,_,rfl,rfl,_,_,rfl,rfl,.inr ⟨by decide,by decide⟩,_,_,rfl,rfl,(by show(0:Int)<_;decide),?_⟩;refine⟨_,rfl,_,rfl,_,_,rfl,rfl,_,_,rfl,rfl,.inr ⟨by decide,by decide⟩,_,_,rfl,rfl,_,_,rfl,rfl,(by show(0:Int)<_;decide),?_⟩;refine⟨_,rfl,_,rfl,_,_,rfl,rfl,.inl (lo _),_,_,rfl,rfl,(by show(0:Int)<_;decide),?_⟩;refine⟨_,rfl,_,_,rfl,rfl,_,rfl,_,_,rfl,rfl,⟨by decide,by decide⟩,_,_,rfl,rfl,_,_,rfl,rfl,.inl (lo1 _),_,_,rfl,rfl,(by show(0:Int)<_;decide),?_⟩;exact⟨_,rfl,_,_,rfl,rfl,⟨by decide,by decide⟩,o a⟩
  ·refine Ay ?_;have a:¬(c % 4=0/\4*10 ^ 60<=c):=fun z=>b (decide_eq_true (congrArg V.int z.1));refine⟨_,rfl,_,_,rfl,rfl,_,_,rfl,rfl,.inr ⟨by decide,by decide⟩,_,_,rfl,rfl,(by show(0:Int)<_;decide),?_⟩;refine⟨_,rfl,_,rfl,_,_,rfl,rfl,_,_,rfl,rfl,.inr ⟨by decide,by decide⟩,_,_,rfl,rfl,_,_,rfl,rfl,(by show(0:Int)<_;decide),?_⟩;refine⟨_,rfl,_,rfl,_,_,rfl,rfl,.inl (lo _),_,_,rfl,rfl,(by show(0:Int)<_;decide),?_⟩;refine⟨_,rfl,_,_,rfl,rfl,_,rfl,_,_,rfl,rfl,⟨by decide,by decide⟩,_,_,rfl,rfl,_,_,rfl,rfl,.inl (lo1 _),_,_,rfl,rfl,(by show(0:Int)<_;decide),?_⟩;exact⟨_,rfl,_,_,rfl,rfl,⟨by decide,by decide⟩,o a⟩
theorem Wy(F:CD K "_law_mix" "_law_mix" Wv f a)(T:Txt mg):Ac P w K mg base Bn 1 f a ["_law_cell_here","_law_k"] HK:=(ZW F T).imp fun _ _ _ _ h=>Tz h
theorem Q_:AW ["_law_cell_here","_law_letters","_law_word","_law_k","_law_at","_law_first"] ["_law_cell_here"] (AJ Pz):={}
theorem VN(F:CD K "_law_names" "_law_names" Pz f fd)(T:Txt mg)(d:Df P w K mg base "_law_mix" ["_law_cell_here","_law_k"] 1 HK):Ac P w K mg base Bn 2 f fd ["_law_cell_here"] Nq:=by
 refine F.oq Q_ fun II A outer s H u Q E J h=>?_
 ·obtain⟨c,rfl,q⟩:=h;have nd:=Q_.nd;have hu:=Az J;refine⟨_,(AD (ER (i:=1) nd rfl (Or.inr rfl) Ae) (AD (ER (i:=2) nd rfl (Or.inr rfl) Ae) (AD (Mt (BL rfl T.range (AX AE)) (CY 3 nd) (AF (ER (i:=2) nd rfl (Or.inr rfl) (AM Du (AM Du (pv 2) (NB PH (pv 1) (AM As (Bg d J.mm (AA (pv 0) (AX (pv 3)))) AE) (fun _ _=>rfl))) (NB PH (pv 1) (AM As (AM Bq (Bg d J.mm (AA (pv 0) (AX (pv 3)))) AE) AE) (fun _ _=>rfl)))))) (AD (ER (i:=4) nd rfl (Or.inr rfl) (AM As (Bg d J.mm (AA (pv 0) (AX AE))) AE)) (AD (ER (i:=5) nd rfl (Or.inr rfl) (Bg d J.mm (AA (pv 0) (AX AE)))) (AD (Aa (AU Bc (AM As (pv 5) AE) AE (AY _)) (AF (AL (cmp ["_law_word","_law_first"] [2,5] (BL rfl T.range (AX AE)) fun _ _ _ _=>(DY Ln (pv 1) Fh (Dv (AM BU (AM BU (pv 0) AE) (AM As (AM Bq (pv 2) AE) AE))))))) AN) (AF (AL (cmp ["_law_word","_law_letters","_law_at","_law_first"] [2,1,4,5] (BL rfl T.range (AX AE)) fun _ _ _ _=>(AM Du (AM Du (DY Ln (pv 1) Fh (Dv (pv 3))) (NB PH (pv 2) (AM As (AM BU (AM Bq (pv 4) AE) (pv 0)) AE) (fun _ _=>rfl))) (DY Ln (pv 1) (Dv (AM BU (pv 3) AE)) Fh))))))))))),?_⟩;have gen:∀(u:List V),(∀(j:Nat) v,u[j]?=some v->∃y:Str,v=.str y)->∃Z:List Str,u=Z.map V.str:=by
   intro u
   induction u with
   |nil=>exact fun _=>⟨[],rfl⟩
   |cons v r ih=>
    intro h;obtain⟨y,rfl⟩:=h 0 v rfl;obtain⟨Z,rfl⟩:=ih fun j v b=>h (j+1) v (by simpa using b);exact⟨y::Z,rfl⟩
  refine⟨4,rfl,by decide,by decide,CZ (lo:=0) (n:=4) (fun i σ g=>∃(W:Str)(ok:Option V),σ=[some (.int c),some (.str XY),some (.str W),ok,none,none]/\g=H/\(sgn W).length=2*i/\(sgn W).all Sh=true) ⟨"",none,rfl,rfl,rfl,rfl⟩ ?_ ?_⟩
  ·rintro i σ g B ⟨W,ok,rfl,rfl,wl,L⟩;have D:W.length=2*i:=by rw[<-FQ];exact wl
   refine⟨_,rfl,_,rfl,_,rfl,_,rfl,c,i,by simp,by lia,fun l _ _=>?_⟩;obtain⟨o,k,hl⟩:=Pa (l % 26) (Fs _).1 (Fs _).2;have l1:(W++(⟨#[o]⟩:Str)).length<=8:=by rw[Str.length_append];show _+1<=8;lia
   refine⟨_,_,rfl,rfl,(by show(0:Int)<_;decide),XY,_,o,rfl,rfl,by rw[Ls];decide,k,_,_,rfl,rfl,Nat.le_of_lt (Am (by show W.length+1<=1000;lia)),_,rfl,_,rfl,_,rfl,c,i,by simp,by lia,fun G _ _=>?_⟩;obtain⟨M,N,nq⟩:=Pa (G/26 % 26) (Fs _).1 (Fs _).2;refine⟨_,_,rfl,rfl,⟨by decide,by decide⟩,_,_,rfl,rfl,(by show(0:Int)<_;decide),XY,_,M,rfl,rfl,by rw[Ls];decide,N,_,_,rfl,rfl,Nat.le_of_lt (Am (by show(W++(⟨#[o]⟩:Str)).length+1<=1000;lia)),_,_,rfl,rfl,?_,?_⟩
   ·rw[Bv,Bv,List.length_append,List.length_append,wl];show 2*i+1+1=2*(i+1);lia
   ·rw[Bv,Bv];show(sgn W++[o]++[M]).all Sh=true;simp[hl,nq,L]
  ·rintro σ g ⟨W,ok,rfl,rfl,x,L⟩;have x:(sgn W).length=8:=x;have D:W.length=8:=by rw[<-FQ];exact x
   refine⟨_,rfl,c,4,rfl,by decide,fun l _ _=>⟨_,_,rfl,rfl,(by show(0:Int)<_;decide),?_⟩⟩;have b1:=FD l (n:=8) (by decide);obtain⟨DK,O⟩:∃z:Nat,l % 8=(z:Int):=⟨(l % 8).toNat,by lia⟩;have b2:DK<8:=by lia
   refine⟨_,rfl,c,5,rfl,by decide,fun G r20 _=>?_⟩;refine⟨_,rfl,_,_,rfl,rfl,(by show(0:Int)<_;decide),rfl,_,rfl,?_⟩;refine RW (fun _=>?_) (fun _=>?_)
   ·have m5:=FD (G/3) (n:=5) (by decide);obtain⟨a,p⟩:∃z:Int,z=G/3 % 5:=⟨_,rfl⟩;rw[<-p]at m5;refine⟨4,rfl,by decide,by decide,CU (n:=4) (fun i=>.int (0+(i:Int))) (fun i v=>∃y:Str,v=.str y/\EE y=true/\((sgn y).length:Int)=(i:Int)+1+a) (by decide) (fun i S B U=>B) (fun i S v H' B U y=>⟨y.2,y.1⟩) (fun S U=>Nat.le_refl _) (fun i g R B X r=>?_) (fun D3 g u C X d3 lv ov=>?_)⟩
    ·refine⟨_,rfl,_,rfl,_,_,rfl,rfl,_,rfl,_,_,rfl,rfl,⟨by decide,by decide⟩,_,_,rfl,rfl,(by show(0:Int)<_;decide),_,_,rfl,rfl,_,rfl,W,rfl,by rw[D];decide,r _ g (AG.refl g) ⟨_,rfl,?_,?_⟩⟩
     ·rw[<-p];obtain⟨n,hn⟩:∃n:Nat,0+(i:Int)+1+a=(n:Int):=⟨(0+(i:Int)+1+a).toNat,by lia⟩;show I_ (sgn (Txt.slice W none (some (0+(i:Int)+1+a))))=true;rw[hn,Dh,Lo];refine NT ?_ ?_ (NS L n)
      ·rw[List.length_take,x];lia
      ·rw[List.length_take,x];lia
     ·rw[<-p];obtain⟨n,hn⟩:∃n:Nat,0+(i:Int)+1+a=(n:Int):=⟨(0+(i:Int)+1+a).toNat,by lia⟩;rw[hn,Dh,Lo,List.length_take,x];lia
    ·obtain⟨I,rfl⟩:=gen u fun j v b=>let⟨y,e,_⟩:=ov j v b;⟨y,e⟩;have t:∀(j:Nat) y,I[j]?=some y->EE y=true/\((sgn y).length:Int)=(j:Int)+1+a:=fun j y b=>by
      obtain⟨y',e,Y,h2⟩:=ov j (.str y) (by rw[List.getElem?_map,b];rfl);cases e;exact⟨Y,h2⟩
     refine q D3 I g X C ⟨d3,by rw[<-lv,List.length_map],NX (fun j y=>((sgn y).length:Int)=(j:Int)+1+a) (fun j y b=>(t j y b).2) fun i j y nr _ p1 p2=>by lia,fun y hy=>?_⟩;obtain⟨j,b,rfl⟩:=List.mem_iff_getElem.mp hy;exact(t j _ (rW b)).1
   ·obtain⟨nu,n_⟩:∃z:Int,z=l % 8:=⟨_,rfl⟩;obtain⟨a,p⟩:∃z:Int,z=G/3:=⟨_,rfl⟩;refine⟨4,rfl,by decide,by decide,CU (n:=4) (fun i=>.int (0+(i:Int))) (fun i v=>∃y:Str,v=.str y/\EE y=true/\(sgn y)[DK]?=Th[((a+(i:Int)) % 26).toNat]?) (by decide) (fun i S B U=>B) (fun i S v H' B U y=>⟨y.2,y.1⟩) (fun S U=>Nat.le_refl _) (fun i g R B X r=>?_) (fun D3 g u C X d3 lv ov=>?_)⟩
    ·obtain⟨o,k,hl⟩:=Pa ((G/3+(0+(i:Int))) % 26) (Fs _).1 (Fs _).2;have l1:(Txt.slice W none (some (l % 8))).length<=8:=by rw[<-D];exact Txt.slice_le W _ _
     have l2:(Txt.slice W (some (l % 8+1)) none).length<=8:=by rw[<-D];exact Txt.slice_le W _ _
     have l3:(Txt.slice W none (some (l % 8))++(⟨#[o]⟩:Str)).length<=9:=by rw[Str.length_append];show _+1<=9;lia
     refine⟨_,rfl,_,rfl,_,rfl,W,rfl,by rw[D];decide,_,rfl,_,rfl,_,_,rfl,rfl,⟨by decide,by decide⟩,_,rfl,_,_,rfl,rfl,_,_,rfl,rfl,(by show(0:Int)<_;decide),XY,_,o,rfl,rfl,by rw[Ls];decide,k,_,_,rfl,rfl,?_,_,rfl,_,rfl,_,_,rfl,rfl,_,rfl,W,rfl,by rw[D];decide,_,_,rfl,rfl,?_,r _ g (AG.refl g) ⟨_,rfl,?_,?_⟩⟩
     ·exact Nat.le_of_lt (Am (by show(Txt.slice W none (some (l % 8))).length+1<=1000;lia))
     ·exact Nat.le_of_lt (Am (by lia))
     ·show I_ (sgn (Txt.slice W none (some (l % 8))++⟨#[o]⟩++Txt.slice W (some (l % 8+1)) none))=true;have e1:(DK:Int)+1=((DK+1:Nat):Int):=by lia
      rw[Bv,Bv,Dh,Dh,O,e1,Lo,Ti];have ec:sgn ⟨#[o]⟩=[o]:=rfl;rw[ec];refine NT ?_ ?_ ?_
      ·simp only[List.length_append,List.length_take,List.length_drop,x,List.length_singleton];lia
      ·simp only[List.length_append,List.length_take,List.length_drop,x,List.length_singleton];lia
      ·rw[List.all_append,List.all_append,NS L,Tj L];simp[hl]
     ·rw[Bv,Bv,Dh,O,Lo];have ec:sgn ⟨#[o]⟩=[o]:=rfl;rw[ec];have lt:((sgn W).take DK).length=DK:=by rw[List.length_take,x];lia
      rw[List.getElem?_append_left (by rw[List.length_append,lt,List.length_singleton];lia),List.getElem?_append_right (by rw[lt];exact Nat.le_refl _),lt,Nat.sub_self];rw[<-p]at k;have hb:=Fs (a+(0+(i:Int)));obtain⟨m,hm⟩:∃m:Nat,(a+(0+(i:Int))) % 26=(m:Int):=⟨((a+(0+(i:Int))) % 26).toNat,by lia⟩;have hz:(a+(i:Int)) % 26=(m:Int):=by rw[<-hm,Int.zero_add]
      rw[hz,Int.toNat_natCast];rw[hm]at k;obtain⟨j',g1,g2,g3,_⟩:=IG k;have:j'=m:=by
       have oA:m<(sgn XY).length:=by show m<Th.length;rw[Lu];lia
       have q1:Se (sgn XY).length (m:Int)=some m:=by
        unfold Se;rw[if_pos (by lia),if_pos (by lia),Int.toNat_natCast]
       have:=(IF q1).1;rw[this]at g1;exact(rY g1).symm
      rw[this]at g2;exact g2.symm
    ·obtain⟨I,rfl⟩:=gen u fun j v b=>let⟨y,e,_⟩:=ov j v b;⟨y,e⟩;have t:∀(j:Nat) y,I[j]?=some y->EE y=true/\(sgn y)[DK]?=Th[((a+(j:Int)) % 26).toNat]?:=fun j y b=>by
      obtain⟨y',e,Y,h2⟩:=ov j (.str y) (by rw[List.getElem?_map,b];rfl);cases e;exact⟨Y,h2⟩
     have l4:I.length=4:=by rw[<-lv,List.length_map]
     refine q D3 I g X C ⟨d3,l4,NX (fun j y=>(sgn y)[DK]?=Th[((a+(j:Int)) % 26).toNat]?) (fun j y b=>(t j y b).2) fun i j y nr b p1 p2=>?_,fun y hy=>?_⟩
     ·rw[p1]at p2;have nl:Th.Nodup:=by decide+kernel
      have hb:=(Fs (a+(i:Int)));have qx:=(Fs (a+(j:Int)));have Y:((a+(i:Int)) % 26).toNat<Th.length:=by rw[Lu];lia
      have:=(List.getElem?_inj Y nl).mp p2;lia
     ·obtain⟨j,b,rfl⟩:=List.mem_iff_getElem.mp hy;exact(t j _ (rW b)).1
theorem Xu:AW ["_law_cell_here","_law_k","_law_names_here","_law_number","_law_small","_law_some"] ["_law_cell_here","_law_k","_law_names_here"] (AJ ZN):={}
theorem ZX(F:CD K "_law_doc" "_law_doc" ZN f fd)(T:Txt mg)(S:Df P w K mg base "_law_mix" ["_law_cell_here","_law_k"] 1 HK):Ac P w K mg base Bn 2 f fd ["_law_cell_here","_law_k","_law_names_here"] MM:=by
 refine F.oq Xu fun II A outer s H vs Q E hr h=>?_
 ·obtain⟨c,k,n,ys,rfl,hk,m,q⟩:=h;have nd:=Xu.nd;have hu:=Az hr;refine⟨_,(AD (Af 3 nd (Bg S hr.mm (AA (pv 0) (AX (pv 1))))) (AD (Af 4 nd (AM As (AM Bq (pv 3) AE) AE)) (AD (Af 5 nd (Ah (AA (AM Gf (pv 4) AE) (AA (DY Ln Ae (Dv (pv 4)) Fh) (AA (Ah Be) (AA Fm (AA (AM BU (AM Ow AE AE) (pv 3)) (AA (Ah (AX (pv 4))) (AA (Ah (AA (Ah Be) (AX Ae))) (AX (Ll (Fn (GV K (pv 2) (AM As (pv 4) AE)) AE Lk) rfl rfl (by simp) (by simp)))))))))))) (AD (Af 5 nd (AM PL (pv 5) (Ah (AA (Ll (Fn (GV K (pv 2) AE) (Ah Be) (Fn (GV K (pv 2) AE) Ae Lk)) rfl rfl (by simp) (by simp)) (AA (pv 4) (AA Ae (AX (Ah (AA (pv 4) (AX Fm)))))))))) (AF (AL (GV K (pv 5) (AM As (pv 3) AE)))))))),?_⟩;have get:∀j:Nat,j<4->∃y,Oo (ys.map V.str) (j:Int)=some (.str y)/\ys[j]?=some y/\EE y=true:=fun j hj=>⟨ys[j]'(by rw[m.len];exact hj),Ao (by rw[List.getElem?_map,rW (by rw[m.len];exact hj)];rfl),rW (by rw[m.len];exact hj),m.nb _ (List.getElem_mem _)⟩;obtain⟨d,a0,g0,b0⟩:=get 0 (by decide);obtain⟨g,a1,g1,b1⟩:=get 1 (by decide);have U:g≠d:=fun z=>by
   rw[z,<-g0]at g1;have:=(List.getElem?_inj (by rw[m.len];decide) m.nd).mp g1;lia
  refine⟨_,rfl,_,rfl,c,k,rfl,hk,fun r _ _=>?_⟩;refine⟨_,rfl,_,_,rfl,rfl,⟨by decide,by decide⟩,_,_,rfl,rfl,(by show(0:Int)<_;decide),?_⟩;have m5:=FD (r/12) (n:=5) (by decide);obtain⟨e,he⟩:∃e:Nat,r/12 % 5=(e:Int):=⟨(r/12 % 5).toNat,by lia⟩;have e5:e<5:=by lia
  rw[he];obtain⟨x,hx⟩:∃x,x=Txt.slice "abcde" (some (e:Int)) none:=⟨_,rfl⟩;have lx:x.length<=100:=by
   have:=Txt.slice_le "abcde" (some (e:Int)) none;rw[<-hx]at this;exact Nat.le_trans this (by decide)
  have tx:KP x=true:=by
   rw[hx];rcases e with _|_|_|_|_|e
   ·decide+kernel
   ·decide+kernel
   ·decide+kernel
   ·decide+kernel
   ·decide+kernel
   ·lia
  obtain⟨C,az,gz,bz⟩:∃y,Oo (ys.map V.str) ((e:Int) % 4)=some (.str y)/\True/\EE y=true:=by
   obtain⟨y,X,_,Y⟩:=get (e % 4) (Nat.mod_lt _ (by decide));exact⟨y,by rw[<-X];rfl,trivial,Y⟩
  refine⟨_,rfl,_,_,rfl,rfl,_,rfl,_,rfl,"abcde",rfl,by decide,?_⟩;rw[<-hx];refine⟨Nat.zero_le _,fun p1 Z=>?_⟩;obtain⟨H2,a,t1,f1⟩:=CA (o:=.lst []) Z;rw[a];clear a;refine fun p2 Xp=>?_;obtain⟨H3,a,t2,f2⟩:=CA (o:=.dK []) Xp;rw[a];clear a;have t12:=t1.trans t2;refine⟨_,_,rfl,rfl,⟨by decide,by decide,by decide⟩,_,rfl,_,_,rfl,rfl,?_⟩;obtain⟨gr,oB⟩:∃gr:Int,gr=(10:Int) ^ (30:Int).toNat+r:=⟨_,rfl⟩;rw[<-oB];refine⟨_,rfl,BA,fun p3 ja=>?_⟩;obtain⟨H4,a,t3,f3⟩:=CA (o:=.lst [.int (e:Int)]) ja;rw[a];clear a;have t13:=t12.trans t3;refine⟨Nat.zero_le _,fun p4 cg=>?_⟩;obtain⟨H5,a,t4,f4⟩:=CA (o:=.lst []) cg;rw[a];clear a;have t14:=t13.trans t4;refine⟨A',fun p5 jb=>?_⟩;obtain⟨H6,a,t5,f5⟩:=CA (o:=.lst [.ref p4,.str "b"]) jb;rw[a];clear a;have D:=t14.trans t5;refine fun l G=>?_;have t6:=AG.new (o:=.dK []) G;refine⟨_,rfl,_,rfl,_,_,rfl,rfl,(by show(0:Int)<_;decide),n,_,_,_,rfl,rfl,Aq.of ((D.trans t6) _ _ m.at_),az,AB,[(Sum.inr C,.int 1)],rfl,by simp,?_⟩;have m6:CC [] [((Sum.inr C:Key),V.int 1)]=[(Sum.inr C,.int 1)]:=rfl;rw[m6];have I:AG H6 (upd (upd H6 l (.dK [])) l (.dK [(Sum.inr C,.int 1)])):=t6.put G;have f6:upd (upd H6 l (.dK [])) l (.dK [(Sum.inr C,.int 1)]) l=some (.dK [(Sum.inr C,.int 1)]):=AB;generalize upd (upd H6 l (.dK [])) l (.dK [(Sum.inr C,.int 1)])=H7 at I f6⊢;have t16:=D.trans I;refine⟨An (show 8<=1000 by decide),fun L hL=>?_⟩;obtain⟨H8,a,tL,fL⟩:=CA (o:=.lst [.int ((e:Int)-2),.str x,.ref p1,.ref p2,.int gr,.ref p3,.ref p5,.ref l]) hL;rw[a];clear a;have i:=t16.trans tL;refine⟨_,rfl,fun u J=>?_⟩;obtain⟨HA,a,t9,f9⟩:=CA (o:=.dK []) J;rw[a];clear a;refine⟨_,rfl,n,_,_,_,rfl,rfl,Aq.of ((i.trans t9) _ _ m.at_),a1,Nat.zero_le _,fun b O=>?_⟩;have tA:=AG.new (o:=.lst []) O;have fA:upd HA b (.lst []) b=some (.lst []):=AB;refine⟨_,rfl,n,_,_,_,rfl,rfl,Aq.of (((i.trans t9).trans tA) _ _ m.at_),a0,tA _ _ f9,[(Sum.inr g,.ref b),(Sum.inr d,.str "a")],rfl,by simp,?_⟩;have m9:CC [] [((Sum.inr g:Key),V.ref b),(Sum.inr d,.str "a")]=[(Sum.inr g,.ref b),(Sum.inr d,.str "a")]:=Dy _ _ (by
   have:(Sum.inr g:Key)≠Sum.inr d:=fun z=>U (Sum.inr.inj z);simpa using this)
  rw[m9];have oC:b≠u:=Ne.symm (AV f9 O);have B:AG H8 (upd (upd HA b (.lst [])) u (.dK [(Sum.inr g,.ref b),(Sum.inr d,.str "a")])):=(t9.trans tA).put J;have jc:upd (upd HA b (.lst [])) u (.dK [(Sum.inr g,.ref b),(Sum.inr d,.str "a")]) u=some (.dK [(Sum.inr g,.ref b),(Sum.inr d,.str "a")]):=AB;have jd:upd (upd HA b (.lst [])) u (.dK [(Sum.inr g,.ref b),(Sum.inr d,.str "a")]) b=some (.lst []):=by rw[AH oC];exact fA
  have oE:H b=none:=i.free (t9.free O);generalize upd (upd HA b (.lst [])) u (.dK [(Sum.inr g,.ref b),(Sum.inr d,.str "a")])=HB at B jc jd⊢;have t19:=i.trans B;refine⟨_,rfl,_,rfl,fun pB je=>?_⟩;obtain⟨HC,a,tB,fB⟩:=CA (o:=.dK []) je;rw[a];clear a;have jf:=t19.trans tB;refine⟨A',fun pC jg=>?_⟩;obtain⟨HD,a,tC,fC⟩:=CA (o:=.lst [.int (e:Int),.ref pB]) jg;rw[a];clear a;have oG:=jf.trans tC;refine⟨An (show 4<=1000 by decide),fun M hM=>?_⟩;obtain⟨HE,a,tM,fM⟩:=CA (o:=.lst [.ref u,.int (e:Int),.str "",.ref pC]) hM;rw[a];clear a;have oH:=oG.trans tM;refine⟨L,M,_,_,rfl,rfl,(((B.trans tB).trans tC).trans tM) _ _ fL,fM,An (show 12<=1000 by decide),fun N hN=>?_⟩;obtain⟨HF,a,tN,fN⟩:=CA (o:=.lst ([.int ((e:Int)-2),.str x,.ref p1,.ref p2,.int gr,.ref p3,.ref p5,.ref l]++[.ref u,.int (e:Int),.str "",.ref pC])) hN;rw[a];clear a;have mb:=FD r (n:=12) (by decide);obtain⟨v,hv,mv⟩:=Fq (xs:=([V.int ((e:Int)-2),.str x,.ref p1,.ref p2,.int gr,.ref p3,.ref p5,.ref l]++[V.ref u,.int (e:Int),.str "",.ref pC]:List V)) mb.1 (by exact mb.2);refine⟨_,rfl,_,rfl,_,_,rfl,rfl,(by show(0:Int)<_;decide),N,_,_,_,rfl,rfl,Aq.of fN,hv,?_⟩;have z:=oH.trans tN;have sC:=tM.trans tN;have sB:=tC.trans sC;have s9:=tB.trans sB;have sL:=B.trans s9;have s6:=tL.trans sL;have s5:=I.trans s6;have s4:=t5.trans s5;have s3:=t4.trans s4;have s2:=t3.trans s3;have s1:=t2.trans s2;have new:∀{p:Addr}{o:HO},H p=none->HF p=some o->nw H HF p=some o:=fun X Y=>by rw[Ax X];exact Y
  have v1:=new Z (s1 _ _ f1);have v2:=new (t1.free Xp) (s2 _ _ f2);have v3:=new (t12.free ja) (s3 _ _ f3);have v4:=new (t13.free cg) (s4 _ _ f4);have v5:=new (t14.free jb) (s5 _ _ f5);have v6:=new (D.free G) (s6 _ _ f6);have v9:=new (i.free J) (s9 _ _ jc);have vA:=new oE (s9 _ _ jd);have vB:=new (t19.free je) (sB _ _ fB);have vC:=new (jf.free jg) (sC _ _ fC);have k:∀t:Pt,Small H HF v t->Q v HF:=fun t h=>q v t HF z h;simp only[List.cons_append,List.nil_append,List.mem_cons,List.not_mem_nil,or_false]at mv;have one:∀{P:Pt->Prop}{x:Pt},P x->∀y∈[x],P y:=fun h y hy=>by rw[List.mem_singleton.mp hy];exact h
  have R:∀{P:Pt->Prop}{x y:Pt},P x->P y->∀z∈[x,y],P z:=fun X Y z hz=>by
   rcases List.mem_cons.mp hz with rfl|hz
   ·exact X
   ·rw[List.mem_singleton.mp hz];exact Y
  rcases mv with rfl|rfl|rfl|rfl|rfl|rfl|rfl|rfl|rfl|rfl|rfl|rfl
  ·exact k _ ⟨.int _,.one (.int _),trivial,by simp[Pt.size],by simp[Pt.deep],trivial⟩
  ·exact k _ ⟨.str _,.one (.str _),lx,by simp[Pt.size],by simp[Pt.deep],tx⟩
  ·exact k _ ⟨.lst (.inl v1) .nil,.one .nil,trivial,by simp[Pt.size,Pt.AI],by simp[Pt.deep,Pt.AS],trivial⟩
  ·exact k _ ⟨.BI (ks:=[]) (.inl v2) rfl .nil,.one .emp,by simp[Pt.doc,Pt.Bl],by simp[Pt.size,Pt.AI],by simp[Pt.deep,Pt.AS],trivial⟩
  ·exact k _ ⟨.int _,.one (.int _),trivial,by simp[Pt.size],by simp[Pt.deep],trivial⟩
  ·exact k _ ⟨.lst (.inl v3) (.cons (.int _) .nil),.row (one (.int _)),by simp[Pt.doc,Pt.Bl],by simp[Pt.size,Pt.AI],by simp[Pt.deep,Pt.AS],⟨trivial,trivial⟩⟩
  ·exact k _ ⟨.lst (.inl v5) (.cons (.lst (.inl v4) .nil) (.cons (.str _) .nil)),.row (R .nil (.str _)),by simp only[Pt.doc,Pt.Bl,and_true,true_and];decide,by simp[Pt.size,Pt.AI],by simp[Pt.deep,Pt.AS],⟨trivial,(by decide+kernel:KP "b"=true),trivial⟩⟩
  ·exact k _ ⟨.BI (ks:=[C]) (.inl v6) rfl (.cons (.int _) .nil),.tab (one (.int _)),by simp[Pt.doc,Pt.Bl,bz],by simp[Pt.size,Pt.AI],by simp[Pt.deep,Pt.AS],⟨trivial,trivial⟩⟩
  ·exact k _ ⟨.BI (ks:=[g,d]) (.inl v9) rfl (.cons (.lst (.inl vA) .nil) (.cons (.str _) .nil)),.tab (R .nil (.str _)),by
    simp only[Pt.doc,Pt.Bl,and_true,true_and];refine⟨rfl,by simpa using U,?_,by simp,by decide⟩;intro k hk;simp only[List.mem_cons,List.not_mem_nil,or_false]at hk;rcases hk with rfl|rfl
    ·exact b1
    ·exact b0,by simp[Pt.size,Pt.AI],by simp[Pt.deep,Pt.AS],⟨trivial,(by decide+kernel:KP "a"=true),trivial⟩⟩
  ·exact k _ ⟨.int _,.one (.int _),trivial,by simp[Pt.size],by simp[Pt.deep],trivial⟩
  ·exact k _ ⟨.str _,.one (.str _),by simp only[Pt.doc];decide,by simp[Pt.size],by simp[Pt.deep],(by decide+kernel:KP ""=true)⟩
  ·exact k _ ⟨.lst (.inl vC) (.cons (.int _) (.cons (.BI (ks:=[]) (.inl vB) rfl .nil) .nil)),.row (R (.int _) .emp),by simp[Pt.doc,Pt.Bl],by simp[Pt.size,Pt.AI],by simp[Pt.deep,Pt.AS],⟨trivial,trivial,trivial⟩⟩
theorem VO:AW ["_law_thing"] ["_law_thing"] (AJ Qu):={}
theorem Wz(F:CD K "_law_copy" "_law_copy" Qu f fd)(T:Txt mg)(m:Df P w K mg base "_law_copy" ["_law_thing"] n (IQ n)):Ac P w K mg base Bn (n+1) f fd ["_law_thing"] (IQ (n+1)):=by
 refine F.oq VO fun II A outer s H V Q E hr h=>?_
 ·obtain⟨v,t,rfl,hv,M,S,q⟩:=h;have nd:=VO.nd;have J:=Az hr;refine⟨_,(AD (Aa (Ar (AR (BO:BE _ _ (DE K)) rfl T.isinstance AO (AA (pv 0) (AX (Ab (v:=.ty "list") rfl T.list Bw rfl))))) (AF (AL (cmp [] [] (B_ (pv 0)) fun _ _ _ _=>(Bg m hr.mm (AX (pv 0)))))) AN) (AD (Aa (Ar (AR (BO:BE _ _ (DE K)) rfl T.isinstance AO (AA (pv 0) (AX (Ab (v:=.ty "tuple") rfl T.tuple Lr rfl))))) (AF (AL (CN KL rfl T.tuple Lr (AX (cmp [] [] (Sv (pv 0)) fun _ _ _ _=>(Bg m hr.mm (AX (pv 0)))))))) AN) (AD (Aa (Ar (AR (BO:BE _ _ (DE K)) rfl T.isinstance AO (AA (pv 0) (AX (Ab (v:=.ty "dict") rfl T.dict Cd rfl))))) (AF (AL (CN (Hy rfl) rfl T.dict Cd (AX (Fu (cmp ["_law_thing"] [0] (Cv (pv 0)) fun _ _ _ _=>(BY (AA (pv 0) (AX (Bg m hr.mm (AX (SR J (pv 1) (pv 0))))))))))))) AN) (AF (AL (pv 0)))))),?_⟩;cases hv with
  |int i=>exact⟨_,rfl,_,"list","int",rfl,rfl,.n (.int i),_,rfl,Ay ⟨_,rfl,_,"tuple","int",rfl,rfl,.n (.int i),_,rfl,Ay ⟨_,rfl,_,"dict","int",rfl,rfl,.n (.int i),_,rfl,Ay ⟨_,rfl,q _ H (AG.refl H) (.int i)⟩⟩⟩⟩
  |str i=>exact⟨_,rfl,_,"list","str",rfl,rfl,.n (.str i),_,rfl,Ay ⟨_,rfl,_,"tuple","str",rfl,rfl,.n (.str i),_,rfl,Ay ⟨_,rfl,_,"dict","str",rfl,rfl,.n (.str i),_,rfl,Ay ⟨_,rfl,q _ H (AG.refl H) (.str i)⟩⟩⟩⟩
  |bl i=>exact⟨_,rfl,_,"list","bool",rfl,rfl,.n (.bl i),_,rfl,Ay ⟨_,rfl,_,"tuple","bool",rfl,rfl,.n (.bl i),_,rfl,Ay ⟨_,rfl,_,"dict","bool",rfl,rfl,.n (.bl i),_,rfl,Ay ⟨_,rfl,q _ H (AG.refl H) (.bl i)⟩⟩⟩⟩
  |Ai=>exact⟨_,rfl,_,"list","NoneType",rfl,rfl,.n .Ai,_,rfl,Ay ⟨_,rfl,_,"tuple","NoneType",rfl,rfl,.n .Ai,_,rfl,Ay ⟨_,rfl,_,"dict","NoneType",rfl,rfl,.n .Ai,_,rfl,Ay ⟨_,rfl,q _ H (AG.refl H) .Ai⟩⟩⟩⟩
  |@lst a V B h r=>
   refine⟨_,rfl,_,"list","list",rfl,rfl,.n (.lst h),_,rfl,Bk ?_⟩;simp only[Pt.nice]at M;simp only[Pt.deep]at S;have lv:=r.length;refine⟨_,rfl,a,rfl,⟨_,.inl h⟩,?_⟩;refine F_ none B.length (fun i=>V.getD i .Ai) (fun i g d=>g=B.take i) (by lia) (fun D C=>rfl) (fun i g d D G s C c=>c) (fun l z=>nomatch z) (fun i g d I s c=>⟨_,_,.inl (h.up (s.same _)),rW (by lia)⟩) (fun i g d v H' I s c y=>?_) (fun g d s c=>⟨_,.inl (h.up (s.same _)),by lia⟩) (fun i g d R I s c Y k=>?_) (fun D d G g C s Z Y X c=>?_)
   ·obtain⟨e,y⟩:=y;refine⟨?_,e⟩;have:=y _ (.inl (h.up (s.same _)));rw[List.getD_eq_getElem?_getD,this];rfl
   ·obtain⟨u,J⟩:∃u,B[i]?=some u:=⟨_,rW I⟩;obtain⟨x,hx,vx⟩:=r.get' J;have N:=rZ J;have dx:=Pt.Ad N;have ev:V.getD i .Ai=x:=by rw[List.getD_eq_getElem?_getD,hx];rfl
    rw[ev];refine⟨_,rfl,x,u,rfl,vx.up s.same,Pt.Em M.2 u N,by lia,fun w H3 s3 v3=>k w u H3 (.of s3) v3 ?_⟩;rw[c,List.take_add_one,J];rfl
   ·rw[List.take_length]at c;subst c;exact q _ d s.same (.lst (.inl (by rw[Ax C];exact Z)) X)
  |@tup a V B h r=>
   refine⟨_,rfl,_,"list","tuple",rfl,rfl,.t h,_,rfl,Ay ⟨_,rfl,_,"tuple","tuple",rfl,rfl,.t h,_,rfl,Bk ?_⟩⟩;simp only[Pt.nice]at M;simp only[Pt.deep]at S;have lv:=r.length;refine⟨_,rfl,a,rfl,⟨_,h⟩,?_⟩;refine F_ none B.length (fun i=>V.getD i .Ai) (fun i g d=>g=B.take i) (by lia) (fun D C=>rfl) (fun i g d D G s C c=>c) (fun l z=>nomatch z) (fun i g d I s c=>⟨_,_,h.up s.same,rW (by lia)⟩) (fun i g d v H' I s c y=>?_) (fun g d s c=>⟨_,h.up s.same,by lia⟩) (fun i g d R I s c Y k=>?_) (fun D d G g C s Z Y X c=>?_)
   ·obtain⟨e,y⟩:=y;refine⟨?_,e⟩;have:=y _ (h.up s.same);rw[List.getD_eq_getElem?_getD,this];rfl
   ·obtain⟨u,J⟩:∃u,B[i]?=some u:=⟨_,rW I⟩;obtain⟨x,hx,vx⟩:=r.get' J;have N:=rZ J;have dx:=Pt.Ad N;have ev:V.getD i .Ai=x:=by rw[List.getD_eq_getElem?_getD,hx];rfl
    rw[ev];refine⟨_,rfl,x,u,rfl,vx.up s.same,Pt.Em M.2 u N,by lia,fun w H3 s3 v3=>k w u H3 (.of s3) v3 ?_⟩;rw[c,List.take_add_one,J];rfl
   ·rw[List.take_length]at c;subst c;refine⟨D,G,rfl,.inl ⟨Aq.of Z,fun p O=>?_⟩⟩;have Xo:=s.same.free O;exact q _ _ (s.same.trans (AG.new O)) (.tup (Bm.of (by rw[Ax Xo,AB])) (X.up (Bs (fun b h=>h) fun b e h1 L=>by rw[AH (fun z=>by rw[z,O]at L;cases L)];exact L)))
  |@BI a kvs U B h hk r=>
   refine⟨_,rfl,_,"list","dict",rfl,rfl,.n (.dK h),_,rfl,Ay ⟨_,rfl,_,"tuple","dict",rfl,rfl,.n (.dK h),_,rfl,Ay ⟨_,rfl,_,"dict","dict",rfl,rfl,.n (.dK h),_,rfl,Bk ?_⟩⟩⟩;simp only[Pt.nice]at M;simp only[Pt.deep]at S;obtain⟨nl,Zs,n9,M⟩:=M;have kl:kvs.length=U.length:=by have:=congrArg List.length hk;simpa using this
   refine⟨a,_,h,fun o Hf F=>⟨_,rfl,a,o,_,rfl,F.at_,?_⟩⟩;refine Rq none B.length (fun i=>.str (U.getD i "")) U (fun i g d=>g=B.take i) (by lia) (fun D C=>rfl) (fun i g d D G s C c=>c) (fun l z=>nomatch z) (fun i g d I s c=>⟨s.same _ _ F.at_,by lia⟩) (fun i g d v H' I s c y=>?_) (fun g d s c=>⟨s.same _ _ F.at_,by lia⟩) (fun i g d R I s c Y k=>?_) (fun D d qs G g C s Z lq Y tt X c=>?_)
   ·obtain⟨e,k,w',e1,e2⟩:=y;rw[(Gw hk e1).2]at e2;exact⟨e2,e⟩
   ·obtain⟨x,u,g1,g2,g3⟩:=JX hk r Zs (i:=i) (by lia);have N:=rZ g2;have dx:=Pt.Ad N;have oI:EV H d:=F.rd.trans s.same.r;refine⟨_,rfl,_,rfl,_,rfl,a,x,rfl,.inl ⟨kvs,Sum.inr (U.getD i ""),oI a _ h,rfl,g1.symm⟩,x,u,rfl,g3.EI ((EH.BP F).trans (.of s.same)),Pt.Em M u N,by lia,fun w H3 s3 v3=>⟨A',fun t ht=>k w u H3 t (.of s3) v3 ?_ ht⟩⟩;rw[c,List.take_add_one,g2];rfl
   ·refine⟨s.same _ _ F.at_,?_⟩;rw[List.take_length]at c;subst c;have sb:=F.back s.same;have ba:∀b,b≠a->back a H d b=d b:=fun b hb=>CI hb;have Da:D≠a:=(F.free C).2;have lw:=X.length;have el:U.length=G.length:=by lia
    refine⟨D,qs,IP U G,rfl,Aq.of (by rw[ba D Da];exact Z),by rw[ML el];lia,fun j k v e=>?_,by rw[ML el];lia,fun p O=>?_⟩
    ·obtain⟨x,h1,L,h3⟩:=WW e;obtain⟨t,ht⟩:∃t,qs[j]?=some t:=⟨_,rW (by have:=(rX h1).1;lia)⟩;obtain⟨g2,g3⟩:=tt j t v ht L;refine⟨t,ht,?_⟩;rw[ba t (F.free g3).2,g2,h3,List.getD_eq_getElem?_getD,h1];rfl
    ·rw[Kt el Zs];have oJ:H p=none:=sb.free O;have fo:AQ (nw H (upd (back a H d) p (.dK (IP U G)))) G g:=X.up (Bs (fun b h=>(F.free h).1) fun b e h1 L=>by
      have hb:=(F.free h1).2;have nb:b≠p:=fun z=>by rw[z]at L hb;rw[ba p hb,L]at O;cases O
      rw[AH nb,ba b hb];exact L)
     exact q _ _ (sb.trans (AG.new O)) (.BI (.inl (by rw[Ax oJ,AB])) (Dl el) (by rw[F' el];exact fo))
theorem Od{f:Addr}{a:FuncData}(F:CD K "_law_copy" "_law_copy" Qu f a)(T:Txt mg)(b:Binds K a ["_law_thing"] [])(m:mg "_law_copy"=some (.ref f)):∀n:Nat,Ac P w K mg base Bn n f a ["_law_thing"] (IQ n)
 |0=>FE (fun vs H Q E h=>by obtain⟨v,t,_,_,_,c,_⟩:=h;have:=Pt.CG t;omega)
 |n+1=>Wz F T (Df.mk' F b m (Od F T b m n))
theorem VP:AW ["_law_thing","_law_name","_law_one"] ["_law_thing"] (AJ Qv):={}
theorem W_(F:CD K "_law_ruin" "_law_ruin" Qv f fd)(T:Txt mg)(y:Df P w K mg base "_law_ruin" ["_law_thing"] n (IW n)):Ac P w K mg base Bn (n+1) f fd ["_law_thing"] (IW (n+1)):=by
 refine F.oq VP fun II A outer s H I Q E hr h=>?_
 ·obtain⟨G,v,t,c,rfl,kf,J,X,Y,hz,hw,q⟩:=h;have nd:=VP.nd;have l:=Az hr;refine⟨_,(AD (Aa (Ar (AR (BO:BE _ _ (DE K)) rfl T.isinstance AO (AA (pv 0) (AX (Ab (v:=.ty "dict") rfl T.dict Cd rfl))))) (AD (IM (Mt (Cv (pv 0)) (CY 1 nd) (AF (Bh (Bg y hr.mm (AX (SR l (pv 0) (pv 1)))))))) (AF (Fl l (pv 0) Ae AE rfl))) AN) (AD (Aa (Ar (AR (Pe:BE _ _ (UO K)) rfl T.isinstance AO (AA (pv 0) (AX (BY (AA (Ab (v:=.ty "list") rfl T.list Bw rfl) (AX (Ab (v:=.ty "tuple") rfl T.tuple Lr rfl)))))))) (AF (UA (Mt (B_ (pv 0)) (CY 2 nd) (AF (Bh (Bg y hr.mm (AX (pv 2)))))) (Mt (Sv (pv 0)) (CY 2 nd) (AF (Bh (Bg y hr.mm (AX (pv 2)))))))) AN) (AF (Aa (Ar (AR (BO:BE _ _ (DE K)) rfl T.isinstance AO (AA (pv 0) (AX (Ab (v:=.ty "list") rfl T.list Bw rfl))))) (AF (Bh (DZ PySem.F.plainAttrs_list PySem.F.slot_list_append PySem.F.type_list_append Dd (pv 0) (AX AE)))) AN)))),?_⟩;rcases J.kinds with⟨T,ty,k1,k2,k3,k4⟩|⟨a,I,d,rfl,rfl,O,S⟩|⟨a,I,d,rfl,rfl,O,S⟩|⟨a,kvs,ks,d,rfl,rfl,O,hk,S⟩
  ·refine⟨_,rfl,_,"dict",T,rfl,rfl,ty _,_,rfl,Cp k1 ?_⟩;refine⟨_,rfl,A',fun p Z=>⟨_,p,T,rfl,AB,ty _,_,rfl,Cp k2 ?_⟩⟩;refine⟨_,rfl,_,"list",T,rfl,rfl,ty _,_,rfl,Cp k3 ?_⟩;have m:=AG.new (o:=.tup [V.ty "list",V.ty "tuple"]) Z;exact q _ ((hw.up m).mono (Nat.le_refl _) (by lia)) (.of m)
  ·simp only[Pt.OD]at X;simp only[Pt.EK]at Y;simp only[Pt.size]at hz;simp only[Pt.IA]at q;have la:=S.length;have lt:d.length<=Pt.AI d:=Pt.CL d;have hh:(Pt.lst d).EK=1+Pt.EZ d:=by simp only[Pt.EK]
   obtain⟨u',ea,wo⟩:=hw a (.lst I) _ trivial O J (Nat.le_refl _);cases wo with
   |lst _ k hk=>
    obtain⟨us,ru,wt⟩:=Wt.lst S k;have lu:=ru.length;refine⟨_,rfl,_,"dict","list",rfl,rfl,.n (.lst (.inl ea)),_,rfl,Cp rfl ?_⟩;refine⟨_,rfl,A',fun p Z=>?_⟩;have m:=AG.new (o:=.tup [V.ty "list",V.ty "tuple"]) Z;have e1:=m _ _ ea;have w1:=hw.up m;refine⟨_,p,"list",rfl,AB,.n (.lst (.inl e1)),_,rfl,FC rfl ?_⟩;generalize upd H p (.tup [V.ty "list",V.ty "tuple"])=H1 at m e1 w1⊢;refine .inl ⟨_,rfl,a,rfl,⟨_,Aq.of e1⟩,Cj (K:=K) (xs:=I++List.replicate k (.int 77)) (fun i D g=>∃(L M:Option V),D=[some (.ref a),L,M]/\Wn G (Pt.lst d).EK (c+Pt.BD (us.take i)) g/\HG G (Pt.EZ d) H1 g)
     ⟨none,none,rfl,w1,.refl⟩ (fun i D g _ ⟨_,_,_,_,f⟩=>Aq.of (f.at_ kf J (by lia) e1)) ?_ ?_⟩
    ·rintro i x D g hx ⟨L,M,rfl,B,C⟩;obtain⟨u,l,vu⟩:=ru.get hx;have z1:=wt.size l;have z2:=wt.EK l;refine⟨_,rfl,G,x,u,c+Pt.BD (us.take i),rfl,kf,vu,wt.OD X l,by lia,by lia,B.mono (by lia) (Nat.le_refl _),fun H2 U N=>?_⟩;refine⟨_,_,rfl,?_,C.trans (N.mono z2)⟩;rw[Pt.FY l,<-Nat.add_assoc];exact B.next kf U N (by lia)
    ·rintro D g ⟨L,M,rfl,B,C⟩;have z3:=wt.take (I++List.replicate k (V.int 77)).length;have z4:=Pt.DH d (I++List.replicate k (V.int 77)).length;have ei:=C.at_ kf J (by lia) e1;refine⟨_,rfl,_,"list","list",rfl,rfl,.n (.lst (.inl ei)),_,rfl,FC rfl ?_⟩;refine⟨_,rfl,.inl ⟨rfl,_,Aq.of ei⟩,a,_,_,rfl,rfl,ei,Ur (by rw[List.length_append,List.length_replicate];lia),?_⟩;rw[List.append_assoc,show List.replicate k (V.int 77)++[V.int 77]=List.replicate (k+1) (V.int 77)from(List.replicate_succ' ..).symm];exact q _ ((B.mono (Nat.le_refl _) (by lia)).change (u:=.lst I) trivial O (.lst I (k+1) (by lia))) (((HG.of m).trans (C.mono (by lia))).change (u:=.lst I) trivial O J (Nat.le_refl _))
  ·simp only[Pt.OD]at X;simp only[Pt.EK]at Y;simp only[Pt.size]at hz;simp only[Pt.IA]at q;have la:=S.length;have lt:d.length<=Pt.AI d:=Pt.CL d;have hh:(Pt.tup d).EK=1+Pt.EZ d:=by simp only[Pt.EK]
   have tq:∀{g:Hp},Wn G (Pt.tup d).EK (c+Pt.BD d) g->Bm K g a I:=fun w=>O.imp (fun r=>by
    obtain⟨u',e,wo⟩:=w a (.tup I) _ trivial r J (Nat.le_refl _);cases wo;exact .inl e) id
   have w0:=hw.mono (Nat.le_refl _) (show c<=c+Pt.BD d by lia);refine⟨_,rfl,_,"dict","tuple",rfl,rfl,.t (tq w0),_,rfl,Cp rfl ?_⟩;refine⟨_,rfl,A',fun p Z=>?_⟩;have m:=AG.new (o:=.tup [V.ty "list",V.ty "tuple"]) Z;have w1:=hw.up m;refine⟨_,p,"tuple",rfl,AB,.t (tq (w0.up m)),_,rfl,FC rfl ?_⟩;generalize upd H p (.tup [V.ty "list",V.ty "tuple"])=H1 at m w1⊢;have mo:∀{g:Hp}{i:Nat},Wn G (Pt.tup d).EK (c+Pt.BD (d.take i)) g->Wn G (Pt.tup d).EK (c+Pt.BD d) g:=fun{g i} w=>w.mono (Nat.le_refl _) (by have:=Pt.DH d i;lia);refine .inr ⟨_,rfl,a,rfl,⟨_,tq (w1.mono (Nat.le_refl _) (by lia))⟩,Vn (K:=K) (xs:=I) (fun i D g=>∃(L M:Option V),D=[some (.ref a),L,M]/\Wn G (Pt.tup d).EK (c+Pt.BD (d.take i)) g/\HG G (Pt.EZ d) H1 g)
    ⟨none,none,rfl,w1,.refl⟩ (fun i D g _ ⟨_,_,_,w,f⟩=>tq (mo w)) ?_ ?_⟩
   ·rintro i x D g hx ⟨L,M,rfl,B,C⟩;obtain⟨u,l,vu⟩:=S.get hx;have wt:Wt d d:=fun _ _ h=>.inl h;have z1:=wt.size l;have z2:=wt.EK l;refine⟨_,rfl,G,x,u,c+Pt.BD (d.take i),rfl,kf,vu,wt.OD X l,by lia,by lia,B.mono (by lia) (Nat.le_refl _),fun H2 U N=>?_⟩;refine⟨_,_,rfl,?_,C.trans (N.mono z2)⟩;rw[Pt.FY l,<-Nat.add_assoc];exact B.next kf U N (by lia)
   ·rintro D g ⟨L,M,rfl,B,C⟩;exact⟨_,rfl,_,"list","tuple",rfl,rfl,.t (tq (mo B)),_,rfl,Cp rfl (q _ (mo B) ((HG.of m).trans (C.mono (by lia))))⟩
  ·simp only[Pt.OD]at X;simp only[Pt.EK]at Y;simp only[Pt.size]at hz;simp only[Pt.IA]at q;have la:=S.length;have lt:d.length<=Pt.AI d:=Pt.CL d;rw[List.length_map]at la;have hh:(Pt.BI ks d).EK=1+Pt.EZ d:=by simp only[Pt.EK]
   obtain⟨u',ea,wo⟩:=hw a (.dK kvs) _ trivial O J (Nat.le_refl _);cases wo with
   |BI _ j wd=>
    have nd:(kvs.map (·.1)).Nodup:=by
     rw[hk];exact List.Pairwise.map _ (fun a b h e=>h (Sum.inr.inj e)) X.1
    obtain⟨us,ru,wt⟩:=Wt.BI S wd;have lu:=ru.length;have wl:=wd.len;refine⟨_,rfl,_,"dict","dict",rfl,rfl,.n (.dK (.inl ea)),_,rfl,FC rfl ?_⟩;refine⟨a,_,.inl ea,fun o Hf F=>⟨_,rfl,a,o,_,rfl,F.at_,?_⟩⟩;have wf:Wn G (Pt.EZ d) c Hf:=fun b u t p r v z=>by
     have R:b≠a:=fun e=>by
      subst e;have:=Val.ZD kf _ J v;subst this;lia
     rw[F.ne b R];exact hw b u t p r v (by lia)
    refine JG (fun i D g=>∃(L M:Option V),D=[some (.ref a),L,M]/\Wn G (Pt.EZ d) (c+Pt.BD (us.take i)) g/\HG G (Pt.EZ d) Hf g)
     ⟨none,none,rfl,wf,.refl⟩ (fun i D g _ ⟨_,_,_,_,f⟩=>f.at_ kf J (by lia) F.at_) ?_ ?_
    ·rintro i key x D g hx ⟨L,M,rfl,B,C⟩;obtain⟨u,l,vu⟩:=ru.get (show(j.map (·.2))[i]?=some x by rw[List.getElem?_map,hx];rfl);have z1:=wt.size l;have z2:=wt.EK l;have rd:Rd g a (.dK j):=.inr ⟨o,C.at_ kf J (by lia) F.at_⟩;refine⟨_,rfl,_,rfl,a,x,rfl,.inl ⟨_,key,rd,rfl,(GN (wd.nd nd) hx).symm⟩,G,x,u,c+Pt.BD (us.take i),rfl,kf,vu,wt.OD X.2 l,by lia,by lia,B.mono (by lia) (Nat.le_refl _),fun H2 U N=>?_⟩;refine⟨_,_,rfl,?_,C.trans (N.mono z2)⟩;rw[Pt.FY l,<-Nat.add_assoc];exact B.next kf U N (by lia)
    ·rintro D g ⟨L,M,rfl,B,C⟩;have z3:=wt.take j.length;have z4:=Pt.DH d j.length;refine⟨C.at_ kf J (by lia) F.at_,?_⟩;have eb:back a H g a=some (.dK j):=by rw[Ek];exact ea
     have wb:Wn G (Pt.BI ks d).EK (c+Pt.BD d) (back a H g):=fun b u t p r v z=>by
      by_cases R:b=a
      ·subst R;obtain⟨u',e,w⟩:=hw b u t p r v z;exact⟨u',by rw[Ek];exact e,w.mono (by lia)⟩
      ·rw[CI R];rcases Nat.lt_or_ge (Pt.EZ d) t.EK with z'|z'
       ·obtain⟨u',e,w⟩:=hw b u t p r v z;exact⟨u',C.at_ kf v z' (by rw[F.ne b R];exact e),w.mono (by lia)⟩
       ·obtain⟨u',e,w⟩:=B b u t p r v z';exact⟨u',e,w.mono (by lia)⟩
     have fb:HG G (Pt.BI ks d).EK H (back a H g):=fun b o' e=>by
      by_cases R:b=a
      ·subst R;exact .inl (by rw[Ek];exact e)
      ·rw[CI R];exact(C b o' (by rw[F.ne b R];exact e)).imp id fun⟨u,t,p,r,v,z⟩=>⟨u,t,p,r,v,by lia⟩
     have U:=wb.change (u:=.dK kvs) trivial O (.BI _ _ wd.put);have N:=fb.change (u:=.dK kvs) (u':=.dK (putK j R' (.int 77))) trivial O J (Nat.le_refl _);refine⟨_,rfl,a,_,rfl,Lj.k (k:=R') eb (Ur (by lia)),?_⟩;have e2:upd (back a H g) a (.dK (putK j R' (.int 77))) a=some (.dK (putK j R' (.int 77))):=AB;generalize upd (back a H g) a (.dK (putK j R' (.int 77)))=H3 at U N e2⊢;refine⟨_,rfl,A',fun p Z=>?_⟩;have m:=AG.new (o:=.tup [V.ty "list",V.ty "tuple"]) Z;refine⟨_,p,"dict",rfl,AB,.n (.dK (.inl (m _ _ e2))),_,rfl,Cp rfl ?_⟩;exact⟨_,rfl,_,"list","dict",rfl,rfl,.n (.dK (.inl (m _ _ e2))),_,rfl,Cp rfl (q _ (U.up m) (N.trans (.of m)))⟩
theorem Oe{f:Addr}{a:FuncData}(F:CD K "_law_ruin" "_law_ruin" Qv f a)(T:Txt mg)(b:Binds K a ["_law_thing"] [])(m:mg "_law_ruin"=some (.ref f)):∀n:Nat,Ac P w K mg base Bn n f a ["_law_thing"] (IW n)
 |0=>FE (fun vs H Q E h=>by obtain⟨_,_,t,_,_,_,_,_,c,_⟩:=h;omega)
 |n+1=>W_ F T (Df.mk' F b m (Oe F T b m n))
theorem VQ:AW ["_law_cells","_law_deep","_law_names_here","_law_cell_here","_law_kind","_law_more","_law_told","_law_lacking","_law_k","_law_way"] ["_law_cells","_law_deep","_law_names_here"] (AJ Qw):={}
theorem W'(F:CD K "_law_asks" "_law_asks" Qw f fd)(T:Txt mg)(M:Df P w K mg base "_law_mix" ["_law_cell_here","_law_k"] 1 HK)(ZY:Df P w K mg base "_law_doc" ["_law_cell_here","_law_k","_law_names_here"] 2 MM)(O:Df P w K mg base "_law_asks" ["_law_cells","_law_deep","_law_names_here"] n (MN n)):Ac P w K mg base Bn (n+1) f fd ["_law_cells","_law_deep","_law_names_here"] (MN (n+1)):=by
 refine F.oq VQ fun II A outer s H vs Q E Y h=>?_
 ·obtain⟨l,d,nm,J,ys,rfl,hd,hl,lc,nl,hn,q⟩:=h;have nd:=VQ.nd;have hu:=Az Y;refine⟨_,(AD (Aa (AU (To (BQ.LZ Y)) (pv 0) (Ah Be) (AY _)) (AF (AL (BY (AX Ae)))) AN) (AD (Af 3 nd (JF (DZ PySem.F.plainAttrs_list PySem.F.slot_list_pop PySem.F.type_list_pop TR (pv 0) (AX AE)) (Ta (pv 0) AE ⟨rfl,rfl,rfl,rfl⟩))) (AD (Af 4 nd (AM As (Bg M Y.mm (AA (pv 3) (AX AE))) AE)) (AD (Af 5 nd (Dt Bc (AM As (Bg M Y.mm (AA (pv 3) (AX AE))) AE) AE (AY _))) (AD (Aa (PW.pt (pw_or (AU Bc (pv 4) AE (AY _)) (pw_or1 (PW.pt (pw_and (AU Bc (pv 1) AE (AY _)) (pw_and1 (AU S_ (pv 4) AE (AY _)))))))) (AF (AL (BY (AX Ae)))) AN) (AD (Aa (AU Ih (pv 4) AE (AY _)) (AF (AL (BY (AA Ae (AX (Bg ZY Y.mm (AA (pv 3) (AA AE (AX (pv 2)))))))))) AN) (AD (Aa (AU Ih (pv 4) AE (AY _)) (AF (AL (BY (AA Ae (AA (cmp ["_law_cells","_law_names_here","_law_deep"] [0,2,1] (BL rfl T.range (AX (AM As (Bg M Y.mm (AA (pv 3) (AX AE))) AE))) fun _ _ _ _=>(Bg O Y.mm (AA (pv 1) (AA (AM Gf (pv 3) AE) (AX (pv 2)))))) (AX (pv 5))))))) AN) (AD (Af 6 nd Fm) (AD (Af 7 nd (Ah Be)) (AD (Mt (BL rfl T.range (AX AE)) (CY 8 nd) (AD (Af 9 nd (AM As (AM Bq (Bg M Y.mm (AA (pv 3) (AX AE))) (GV K (Ah (AA AE (AA AE (AA AE (AX AE))))) (pv 8))) AE)) (AD (Aa (AU S_ (pv 9) AE (AY _)) (AF (Fl hu (pv 6) (GV K (pv 2) (pv 8)) (Bg O Y.mm (AA (pv 0) (AA (AM Gf (pv 1) AE) (AX (pv 2))))) rfl)) AN) (AF (Aa (AU Bc (pv 9) AE (AY _)) (AF (Bh (DZ PySem.F.plainAttrs_list PySem.F.slot_list_append PySem.F.type_list_append Dd (pv 7) (AX (GV K (pv 2) (pv 8)))))) AN))))) (AF (AL (BY (AA Ae (AA (pv 6) (AA (AR (MP rfl:BE _ _ (UW K)) rfl T.sorted NU (AX (pv 7))) (AX (pv 5)))))))))))))))))),?_⟩;have jh:H l≠none:=by rw[hl];exact fun z=>nomatch z
  refine⟨_,rfl,Nat.zero_le _,fun pe Xv=>⟨l,pe,_,rfl,rfl,Aq.of ((AG.new Xv) _ _ hl),Aq.of AB,_,rfl,?_⟩⟩;have se:=AG.new (o:=.lst []) Xv;generalize upd H pe (.lst [])=H1 at se⊢;have Z:=se _ _ hl;cases J with
  |nil=>
   refine Bk ⟨BA,fun p B=>?_⟩;have Xo:=se.free B;have lp:l≠p:=fun z=>by rw[<-z,Z]at B;cases B
   exact q _ .any [] _ (.of (se.trans (AG.new B))) (by rw[AH lp];exact Z) (Nat.le_refl _) (.tup (Bm.of (by rw[Ax Xo,AB])) (.cons (.str _) .nil)) trivial (by simp[Ak.size]) (by simp[Ak.deep]) trivial
  |cons c J=>
   refine Ay ?_;refine .inl ⟨_,rfl,.inl ⟨rfl,_,Aq.of Z⟩,l,_,0,0,.int c,rfl,rfl,Z,by decide,by decide,(IF (by unfold Se;rw[if_pos (by decide),if_pos (by simp)];rfl)).1,rfl,?_⟩;have u:Bt (some l) H (upd H1 l (.lst (J.map V.int))):=(Bt.of se).put;have I:upd H1 l (.lst (J.map V.int)) l=some (.lst (J.map V.int)):=AB;show KH _ _ _ _ (upd H1 l (.lst (J.map V.int)));generalize upd H1 l (.lst (J.map V.int))=H2 at u I⊢;have ji:=hn.but u nl;simp only[List.length_cons]at lc q;have bq:∀{N H4:Hp}{v:V}{t:Pt},Val (nw H2 N) v t->(∀b o,N b=some o->H4 b=some o)->Val (nw H H4) v t:=fun h s=>h.up (Bs (fun b h=>u.EJ b h) fun b e _ h=>s b e h);refine⟨_,rfl,c,0,rfl,by decide,fun r0 _ _=>⟨_,_,rfl,rfl,(by show(0:Int)<_;decide),?_⟩⟩;have m8:=FD r0 (n:=8) (by decide);generalize r0 % 8=kd at m8⊢;refine⟨_,rfl,c,2,rfl,by decide,fun r2 _ _=>⟨_,_,rfl,rfl,(by show(0:Int)<_;decide),rfl,?_⟩⟩;generalize decide (V.int (r2 % 2)=V.int 1)=mo;dsimp only[BR];have br:∀p,H2 p=none->Q (.ref p) (upd H2 p (.tup [.str "any"])):=fun p B=>by
    have lp:l≠p:=fun z=>by rw[<-z,I]at B;cases B
    exact q _ .any J _ (u.trans (.of (AG.new B))) (by rw[AH lp];exact I) (by lia) (.tup (Bm.of (by rw[Ax (u.EJ p B),AB])) (.cons (.str _) .nil)) trivial (by simp[Ak.size]) (by simp[Ak.deep]) trivial
   refine T_ (t:=Sq _ _ _) (fun H5=>H2=H5/\(d=0->kd<=2)) (fun H5 ⟨e5,hk⟩=>?_) (fun key=>?_);rotate_left
   ·refine⟨_,rfl,rfl,_,rfl,DD (fun _=>Bk ⟨BA,br⟩) (fun _=>⟨_,rfl,rfl,_,rfl,DD (fun h2=>?_) (fun h2=>?_)⟩)⟩
    ·refine⟨_,rfl,_,_,rfl,rfl,_,rfl,DD (fun _=>⟨BA,br⟩) (fun h3=>key H2 ⟨rfl,fun _=>?_⟩)⟩;have:=of_decide_eq_false h3;lia
    ·refine Ay (key H2 ⟨rfl,fun z=>?_⟩);have:=of_decide_eq_false h2;subst z;exact absurd rfl this
   subst e5;refine⟨_,rfl,_,_,rfl,rfl,_,rfl,DD (fun _=>?_) (fun h3=>?_)⟩
   ·refine⟨_,rfl,_,rfl,c,1,nm,ys,rfl,by decide,ji,fun v t N s3 sm=>⟨A',fun p B=>?_⟩⟩;have S:=s3.free B;have lp:l≠p:=fun z=>by rw[<-z,I]at S;cases S
    refine q _ (.BC t) J _ (u.trans (.of (s3.trans (AG.new B)))) (by rw[AH lp];exact s3 _ _ I) (by lia) (.tup (Bm.of (by rw[Ax (u.EJ p S),AB])) (.cons (.str _) (.cons (bq sm.val (AG.new B)) .nil))) ?_ (by simp[Ak.size]) (by simp[Ak.deep]) sm.txt;simp only[Ak.ok];exact⟨sm.sm,sm.doc,by have:=sm.size;lia⟩
   have h3:=of_decide_eq_false h3;obtain⟨X,rfl⟩:∃X,d=X+1:=⟨d-1,by lia⟩;have ed:(((X+1:Nat):Int)-1)=(X:Int):=by lia
   refine⟨_,rfl,_,_,rfl,rfl,_,rfl,DD (fun _=>?_) (fun _=>?_)⟩
   ·refine⟨_,rfl,c,1,rfl,by decide,fun r1 _ _=>⟨_,_,rfl,rfl,(by show(0:Int)<_;decide),?_⟩⟩;have m4:=FD r1 (n:=4) (by decide);obtain⟨k4,gQ⟩:∃k:Nat,r1 % 4=(k:Int):=⟨(r1 % 4).toNat,by lia⟩;have oK:k4<4:=by lia
    rw[gQ];refine⟨k4,rfl,by lia,by lia,?_⟩;refine F_ (some l) k4 (fun i=>.int (0+(i:Int))) (fun i us N=>∃(L:List Ak)(g:List Int),us=Ak.Gd L/\N l=some (.lst (g.map V.int))/\g.length<=J.length/\Ak.Hv L/\Ak.AI L<=i+4*(J.length-g.length)/\Ak.AS L<=X+1/\Ak.KS L) (by lia) (fun D hD=>⟨[],J,rfl,by rw[AH (fun z=>by rw[<-z,I]at hD;cases hD)];exact I,Nat.le_refl _,trivial,by simp[Ak.AI],by simp[Ak.AS],trivial⟩) (fun i us N D ws bt hD ⟨L,g,h1,h2,h3⟩=>⟨L,g,h1,by rw[AH (fun z=>by rw[<-z,I]at hD;cases hD)];exact h2,h3⟩) (fun l' z=>by cases z;rw[I];exact fun z=>nomatch z) (fun i us N hi s iv=>hi) (fun i us N v H' hi s iv y=>⟨y.2,y.1⟩) (fun us N s iv=>Nat.le_refl _) (fun i us N R hi bt ⟨L,g,e1,e2,e3,e4,e5,e6,e7⟩ lu k=>?_) (fun D N ws us hD bt d2 lu vl ⟨L,g,e1,e2,e3,e4,e5,e6,e7⟩=>?_)
    ·refine⟨_,rfl,_,rfl,_,_,rfl,rfl,_,rfl,l,X,nm,g,ys,by rw[ed];rfl,by lia,e2,by lia,nl,ji.but bt nl,fun v a jk H4 cz oM qy v4 oN qz q_ oO=>k v a.pt H4 cz v4 ⟨L++[a],jk,?_,oM,by lia,Ak.EB e4 (Ak.IS oN),?_,?_,Ak.DM e7 ⟨oO,trivial⟩⟩⟩
     ·rw[Ak.EA,e1];rfl
     ·rw[Ak.A_,Ak.En];lia
     ·rw[Ak.Cy,Ak.Eo];lia
    ·refine⟨_,rfl,Qt,fun p B=>?_⟩;have S:=bt.EJ p B;have pD:D≠p:=fun z=>by rw[<-z,d2]at B;cases B
     have lp:l≠p:=fun z=>by rw[<-z,e2]at B;cases B
     subst e1;refine q _ (.row L mo) g _ ((u.trans bt).trans (.of (AG.new B))) (by rw[AH lp];exact e2) (by lia) (.tup (Bm.of (by rw[Ax (u.EJ p S),AB])) (.cons (.str _) (.cons (.lst (.inl (by rw[Ax (u.EJ D hD),AH pD];exact d2)) (vl.up (Bs (fun b h=>u.EJ b h) fun b e _ h=>AG.new B b e h))) (.cons (.bl _) .nil)))) e4 ?_ ?_ e7
     ·simp only[Ak.size];lia
     ·simp only[Ak.deep];lia
   ·refine fun p6 jl=>?_;obtain⟨N,eH,t6,f6⟩:=CA (o:=.dK []) jl;rw[eH];clear eH;refine⟨Nat.zero_le _,fun p7 jm=>?_⟩;have t7:=AG.new (o:=.lst []) jm;have f7:upd N p7 (.lst []) p7=some (.lst []):=AB;have U:=t7 _ _ f6;generalize upd N p7 (.lst [])=H4 at t7 f7 U⊢;have cz:Bt (some l) H H4:=u.trans (.of (t6.trans t7));have T0:Ex H H4 l p6 p7 ys (X+1) J.length 0 H4 [] [] [] J []:={
     n6:=u.EJ p6 jl
     n7:=u.EJ p7 (t6.free jm)
     o6:=by rw[U];exact fun z=>nomatch z
     o7:=by rw[f7];exact fun z=>nomatch z
     ne:=fun z=>by rw[z,f7]at U;cases U
     hl:=jh
     h4:=cz.EJ
     bt:=cz
     dm:=fun b h=>h
     e6:=U
     e7:=f7
     el:=(t6.trans t7) _ _ I
     le:=Nat.le_refl _
     lw:=rfl
     la:=rfl
     vl:=.nil
     ok:=trivial
     fw:=trivial
     lm:=Nat.le_refl _
     sz:=by simp[Ak.AI]
     dp:=by simp[Ak.AS]
     ik:=fun k h=>nomatch h
     il:=fun k h=>nomatch h
     nk:=.nil
     dj:=fun k h=>nomatch h
     l4:=Nat.le_refl _
     m4:=Nat.le_refl _
     nl:=.nil}
    refine⟨4,rfl,by decide,by decide,CZ (lo:=0) (n:=4) (fun i σ Hi=>∃(ks:List Str)(L:List Ak)(ls:List Str)(g:List Int)(ws:List V)(o8 o9:Option V),σ=[some (.ref l),some (.int ((X+1:Nat):Int)),some (.ref nm),some (.int c),some (.int kd),some (.bl mo),some (.ref p6),some (.ref p7),o8,o9]/\Ex H H4 l p6 p7 ys (X+1) J.length i Hi ks L ls g ws)
     ⟨[],[],[],J,[],none,none,rfl,T0⟩ ?_ ?_⟩
    ·rintro i σ Hi hi ⟨ks,L,ls,g,ws,o8,o9,rfl,TI⟩;obtain⟨y,hy⟩:∃y,ys[i]?=some y:=⟨_,rW (by rw[hn.len];exact hi)⟩;have ay:Oo (ys.map V.str) (0+(i:Int))=some (.str y):=by
      have e0:(0:Int)+(i:Int)=(i:Int):=by lia
      rw[e0];exact Ao (by rw[List.getElem?_map,hy];rfl)
     obtain⟨v4,oP,jn⟩:=Fq (xs:=[V.int 1,V.int 4,V.int 16,V.int 64]) (i:=0+(i:Int)) (by lia) (by simp only[List.length_cons,List.length_nil];lia);have vb:∃m:Int,v4=.int m/\0<m/\m<1073741824:=by
      simp only[List.mem_cons,List.not_mem_nil,or_false]at jn;rcases jn with rfl|rfl|rfl|rfl
      ·exact⟨_,rfl,by decide,by decide⟩
      ·exact⟨_,rfl,by decide,by decide⟩
      ·exact⟨_,rfl,by decide,by decide⟩
      ·exact⟨_,rfl,by decide,by decide⟩
     obtain⟨m,rfl,c_,dA⟩:=vb;refine⟨_,rfl,c,1,rfl,by decide,fun r1 _ _=>⟨An (show 4<=1000 by decide),fun pl bD=>⟨_,rfl,pl,_,_,_,rfl,rfl,Aq.of AB,oP,_,_,rfl,rfl,⟨c_,dA⟩,_,_,rfl,rfl,(by show(0:Int)<_;decide),?_⟩⟩⟩;have C:=TI.up (AG.new (o:=.lst [V.int 1,V.int 4,V.int 16,V.int 64]) bD);generalize upd Hi pl (.lst [V.int 1,V.int 4,V.int 16,V.int 64])=Hj at C⊢;clear TI;generalize r1/m % 4=wy;have gR:=hn.but C.bt nl;dsimp only[BR];refine⟨_,rfl,_,_,rfl,rfl,_,rfl,DD (fun h1=>?_) (fun h1=>?_)⟩
     ·have h1:=of_decide_eq_true h1;refine⟨_,rfl,_,rfl,_,_,rfl,rfl,_,rfl,l,X,nm,g,ys,by rw[ed];rfl,by lia,C.el,by have:=C.le;lia,nl,gR,fun v a jk H5 jo gS oQ v5 oR oS oU oV=>?_⟩;obtain⟨g1,g2,oW⟩:=C.asked hy hn.nd jo gS oQ v5 oR oS oU oV;have l4:=C.l4;refine⟨_,rfl,_,rfl,_,rfl,nm,_,_,_,rfl,rfl,Aq.of (gR.but jo nl).at_,ay,p6,_,rfl,.inl ⟨_,Sum.inr y,g1,rfl,Am (by rw[ML C.lw];lia),rfl⟩,?_⟩;rw[g2];refine⟨_,rfl,rfl,_,rfl,Cp (decide_eq_false fun z=>?_) ⟨_,_,_,_,_,_,_,rfl,oW⟩⟩;have:=V.int.inj z;lia
     ·refine⟨_,rfl,rfl,_,rfl,DD (fun _=>?_) (fun _=>⟨_,_,_,_,_,_,_,rfl,C.weak⟩)⟩;have m4:=C.m4;exact⟨_,rfl,.inl ⟨rfl,_,Aq.of C.e7⟩,_,rfl,_,rfl,nm,_,_,_,rfl,rfl,Aq.of gR.at_,ay,p7,_,_,rfl,rfl,C.e7,Am (by rw[List.length_map];lia),_,_,_,_,_,_,_,rfl,C.e_ hy hn.nd⟩
    ·rintro σ Hi ⟨ks,L,ls,g,ws,o8,o9,rfl,TI⟩;have l4:=TI.l4;have m4:=TI.m4;refine⟨_,rfl,_,rfl,p7,ls,rfl,Aq.of TI.e7,by lia,fun p8 ss H5 oX s5 f8 pm oY=>⟨_,rfl,An (show 4<=1000 by decide),fun p B=>?_⟩⟩;have cf:=s5.free B;have Xo:=TI.bt.EJ p cf;have oZ:p8≠p:=fun z=>by rw[<-z,f8]at B;cases B
     have h8:H p8=none:=TI.bt.EJ p8 oX;have lp:l≠p:=fun z=>jh (by rw[z];exact Xo);have rA:p6≠p:=fun z=>by have:=s5 _ _ TI.e6;rw[z,B]at this;cases this
     have s6:=s5.trans (AG.new (o:=.tup [.str "table",.ref p6,.ref p8,.bl mo]) B);refine q _ (.tab ks L ss mo) g _ (TI.bt.trans (.of s6)) (s6 _ _ TI.el) (by have:=TI.le;lia) (.tup (Bm.of (by rw[Ax Xo,AB])) (.cons (.str _) (.cons (.BI (.inl (by rw[Ax TI.n6];exact s6 _ _ TI.e6)) (Dl TI.lw) ?_) (.cons (.lst (.inl (by rw[Ax h8,AH oZ];exact f8)) ?_) (.cons (.bl _) .nil))))) ?_ ?_ ?_ ?_
     ·rw[F' TI.lw];exact TI.vl.up (Bs (fun b h=>TI.h4 b h) fun b e _ h=>s6 _ _ h)
     ·have gen:∀{G:Hp}(ls:List Str),AQ G (ls.map V.str) (ls.map Pt.str):=by
       intro G ls
       induction ls with
       |nil=>exact .nil
       |cons x r ih=>exact .cons (.str x) ih
      exact gen ss
     ·simp only[Ak.ok];exact⟨TI.la,TI.nk,fun k hk=>let⟨j,_,h2⟩:=TI.ik k hk;hn.nb k (rZ h2),by lia,⟨by rw[pm.length_eq];lia,pm.nodup_iff.mpr TI.nl,oY⟩,fun x hx=>TI.dj x (pm.mem_iff.mp hx),TI.ok⟩
     ·have:=TI.sz;have:=TI.le;simp only[Ak.size];lia
     ·have:=TI.dp;simp only[Ak.deep];lia
     ·have:=TI.lm;exact⟨by rw[pm.length_eq];exact this,TI.fw⟩
theorem Of{f:Addr}{d:FuncData}(F:CD K "_law_asks" "_law_asks" Qw f d)(T:Txt mg)(b:Binds K d ["_law_cells","_law_deep","_law_names_here"] [])(m:mg "_law_asks"=some (.ref f))(a:Df P w K mg base "_law_mix" ["_law_cell_here","_law_k"] 1 HK)(c:Df P w K mg base "_law_doc" ["_law_cell_here","_law_k","_law_names_here"] 2 MM):∀n:Nat,Ac P w K mg base Bn n f d ["_law_cells","_law_deep","_law_names_here"] (MN n)
 |0=>FE (fun vs H Q E h=>by obtain⟨_,_,_,_,_,_,e,_⟩:=h;omega)
 |n+1=>W' F T a c (Df.mk' F b m (Of F T b m a c n))
theorem VR:AW ["_law_asks_here","_law_doc_here","_law_others"] ["_law_asks_here","_law_doc_here"] (AJ Qx):={}
theorem XA(F:CD K "_law_lets" "_law_lets" Qx f fd)(T:Txt mg)(Xw:Df P w K mg base "_law_lets" ["_law_asks_here","_law_doc_here"] n (GG n)):Ac P w K mg base Bn (n+1) f fd ["_law_asks_here","_law_doc_here"] (GG (n+1)):=by
 refine F.oq VR fun II A outer s H vs Q E hr h=>?_
 ·obtain⟨v,y,a0,t,rfl,hv,hy,O,X,za,zt,dB,Vg,q⟩:=h;have nd:=VR.nd;have hu:=Az hr;refine⟨_,(AD (Aa (AU Bc (DP K 0) Ae (AY _)) (AF (AL C')) AN) (AD (Aa (AU Bc (DP K 0) Ae (AY _)) (AF (AL (Dt (Uq (BQ.units hr):ET _ _ Y') (DP K 0) (pv 1) (AY _)))) AN) (AD (Aa (AU Bc (DP K 0) Ae (AY _)) (AD (Aa (PW.pt (pw_or (CS (Ar (AR (BO:BE _ _ (DE K)) rfl T.isinstance AO (AA (pv 1) (AX (Ab (v:=.ty "list") rfl T.list Bw rfl)))))) (pw_or (AU Ih (EM T.len (pv 1)) (EM T.len (DP K 0)) (AY _)) (pw_or1 (PW.pt (pw_and (CS (Ar (DP K 0))) (pw_and1 (AU S_ (EM T.len (pv 1)) (EM T.len (DP K 0)) (AY _))))))))) (AF (AL C')) AN) (AF (AL (AR (Fp rfl) rfl T.all QT (AX (cmp ["_law_doc_here","_law_asks_here"] [1,0] (BL rfl T.range (AX (EM T.len (DP K 0)))) fun _ _ _ _=>(Bg Xw hr.mm (AA (GV K (DP K 2) (pv 0)) (AX (GV K (pv 1) (pv 0))))))))))) AN) (AD (Aa (CS (Ar (AR (BO:BE _ _ (DE K)) rfl T.isinstance AO (AA (pv 1) (AX (Ab (v:=.ty "dict") rfl T.dict Cd rfl)))))) (AF (AL C')) AN) (AD (IM (FP (i:=2) (fv:=["_law_asks_here"]) (fs:=[0]) rfl (.of (by rfl)) nd rfl (Or.inl rfl) (Cv (pv 1)) (fun C s0 H0 fp=>IJ (Sl (RS hu (pv 0) (DP K 1)))) (fun C s0 H0 fp=>(pv 0)))) (AD (Aa (PW.pt (pw_or (AU Ih (AM Gf (AR Kp rfl T.len PySem.boot_len (AX (pv 1))) (EM T.len (pv 2))) (AR Kp rfl T.len PySem.boot_len (AX (DP K 0))) (AY _)) (pw_or1 (PW.pt (pw_and (CS (Ar (DP K 0))) (pw_and1 (AU (Tq (BQ.LZ hr)) (pv 2) (Ah Be) (AY _)))))))) (AF (AL C')) AN) (AD (Aa (AU (Tq (BQ.LZ hr)) (IK (fv:=["_law_asks_here"]) (fs:=[0]) rfl (.of (by rfl)) (B_ (pv 2)) (fun C s0 H0 fp=>IJ (AU (Eg:ET _ _ (aS K false)) (pv 0) (DP K 1) rfl)) (fun C s0 H0 fp=>(pv 0))) (Ah Be) (AY _)) (AF (AL C')) AN) (AF (AL (AR (Fp rfl) rfl T.all QT (AX (Fu (cmp ["_law_doc_here","_law_asks_here"] [1,0] (Cv (DP K 0)) fun _ _ _ _=>(Bg Xw hr.mm (AA (SR hu (DP K 2) (pv 0)) (AX (SR hu (pv 1) (pv 0)))))))))))))))))),?_⟩;obtain⟨L,w0,rest,rfl,M,cs⟩:=hv.ak;rcases cs with⟨rfl,rfl,rfl⟩|⟨d,u,rfl,rfl,rfl,Xx⟩|⟨g,m,u,rfl,rfl,rfl,Xx⟩|⟨G,g,ls,m,u,z,rfl,rfl,rfl,Xx,hz⟩
  ·exact⟨_,rfl,L,_,0,_,rfl,rfl,M,EF,rfl,_,rfl,Ez (by simp only[Ak.lets]at q;exact q H (AG.refl H))⟩
  ·refine⟨_,rfl,L,_,0,_,rfl,rfl,M,EF,rfl,_,rfl,Bp ?_⟩;refine⟨_,rfl,L,_,0,_,rfl,rfl,M,EF,rfl,_,rfl,Ez ?_⟩;simp only[Ak.Ct]at O;simp only[Ak.dp]at dB;simp only[Ak.lets]at q;exact⟨_,rfl,L,_,1,u,rfl,rfl,M,DK,_,rfl,d,t,Xx,hy,(fun b e=>by rw[e]at O;simp[Pt.doc]at O),.inl ⟨O,X⟩,dB,q H (AG.refl H)⟩
  ·refine⟨_,rfl,L,_,0,_,rfl,rfl,M,EF,rfl,_,rfl,Bp ?_⟩;refine⟨_,rfl,L,_,0,_,rfl,rfl,M,EF,rfl,_,rfl,Bp ?_⟩;refine⟨_,rfl,L,_,0,_,rfl,rfl,M,EF,rfl,_,rfl,Ez ?_⟩;refine⟨_,rfl,_,"list",t.Yk,rfl,rfl,hy.ty,_,rfl,?_⟩;simp only[Ak.Ct]at O;simp only[Ak.deep]at Vg;simp only[Ak.dp]at dB;simp only[Ak.size]at za;cases Xx with
   |@lst a vs _ ha ra=>
    have la:=ra.length;rw[Ak.BG,List.length_map]at la;have rB:=Ak.CL g;cases hy with
    |@lst b ws B hb rb=>
     have lb:=rb.length;simp only[Pt.doc]at X;simp only[Pt.size]at zt;simp only[Ak.lets]at q;refine Ay ⟨_,rfl,b,_,rfl,.inl (.inl hb),_,rfl,L,_,1,_,rfl,rfl,M,DK,a,_,rfl,.inl (.inl ha),_,_,rfl,rfl,_,rfl,?_⟩;refine DD (fun Z=>?_) (fun Z=>?_)
     ·have Z:=of_decide_eq_true Z;have e:Ak.cnt B.length g.length m=false:=by
       have e1:(B.length==g.length)=false:=by simp;lia
       have S:decide (g.length<B.length)=false:=by simp;lia
       simp[Ak.cnt,e1,S]
      rw[e,Bool.false_and]at q;exact Bk (q H (AG.refl H))
     have Z:=of_decide_eq_false Z;have key:(Ak.cnt B.length g.length m=true->Vk (Zk (Iz K) (EU (Kn (XN (EU (Zk (DA K) (EU (Sx (Vv K) (Ge 0) (tC (V.int 1))) Hh))
              Hh))
            Gn
            (Ke (GG n) [] E0 (EU (Sx (Vu K) (Sx (Vv K) (Ge 2) (tC (V.int 1))) (Ge 0)) (EU (Sx (Vu K) (Ge 1) (Ge 0)) Hh)))
            [1,0])
           Hh)) {nx:=fun x H'=>Q V.Ai H',rt:=Q} [some (V.ref L),some (V.ref b),none] H):=fun hc=>by
      rw[hc,Bool.true_and]at q;refine⟨_,rfl,L,_,1,_,rfl,rfl,M,DK,a,_,rfl,.inl (.inl ha),vs.length,rfl,by lia,by lia,?_⟩;refine CU (n:=vs.length) (fun i=>.int (0+(i:Int))) (fun i v=>∃p,(g.zip B)[i]?=some p/\v=.bl (Ak.lets p.1 p.2)) (An (by lia)) (fun i H2 I N=>I) (fun i H2 v H' I N y=>⟨y.2,y.1⟩) (fun H2 N=>Nat.le_refl _) (fun i H2 R I N r=>?_) (fun D H2 rs hD N d2 lr or=>?_)
      ·have e0:(0:Int)+(i:Int)=(i:Int):=by lia
       rw[e0];obtain⟨x,hx⟩:∃x,vs[i]?=some x:=⟨_,rW I⟩;obtain⟨y,hy⟩:∃y,ws[i]?=some y:=⟨_,rW (by lia)⟩;obtain⟨px,g1,vx⟩:=ra.get hx;obtain⟨py,g2,vy⟩:=rb.get hy;rw[Ak.BG,List.getElem?_map]at g1;obtain⟨ax,U⟩:∃ax,g[i]?=some ax:=⟨_,rW (by lia)⟩;rw[U]at g1;cases g1;have m1:=rZ U;have m2:=rZ g2;have d1:=Ak.Ad m1;have d6:=Ak.GB m1;have z1:=Ak.BX m1;have z2:=Pt.BX m2;refine⟨_,rfl,L,_,1,_,rfl,rfl,M.up N,DK,_,rfl,a,_,_,x,rfl,rfl,.inl (ha.up (N _)),Ao hx,_,rfl,_,rfl,b,_,_,y,rfl,rfl,.inl (hb.up (N _)),Ao hy,x,y,ax,py,rfl,vx.up N,vy.up N,Ak.Bi O _ m1,Pt.Aw X _ m2,by lia,by lia,by lia,by lia,fun H3 s3=>r _ H3 s3 ⟨(ax,py),?_,rfl⟩⟩;rw[List.getElem?_zip_eq_some];exact⟨U,g2⟩
      ·have lz:(g.zip B).length=g.length:=by rw[List.length_zip];lia
       have e:=QV (ps:=g.zip B) (f:=fun p=>Ak.lets p.1 p.2) (vs:=rs) (by lia) or;rw[e]at d2;refine⟨D,_,rfl,Aq.of d2,?_⟩;have S:((g.zip B).map fun p=>Ak.lets p.1 p.2).all id=Ak.EY g B:=by rw[Ak.Ks,List.all_map];rfl
       rw[S];exact q H2 N
     refine⟨_,rfl,L,_,2,_,rfl,rfl,M,at2,_,rfl,?_⟩;cases m with
     |true=>
      refine Ay (Ay (key ?_));have:g.length<=B.length:=by lia
      rw[show Ak.cnt B.length g.length true=(B.length==g.length||decide (g.length<B.length))from rfl];rcases Nat.lt_or_ge g.length B.length with h|h
      ·simp[h]
      ·have:B.length=g.length:=by lia
       simp[this]
     |false=>
      refine Bk ⟨_,rfl,b,_,rfl,.inl (.inl hb),_,rfl,L,_,1,_,rfl,rfl,M,DK,a,_,rfl,.inl (.inl ha),_,_,rfl,rfl,_,rfl,?_⟩;refine DD (fun h2=>?_) (fun h2=>?_)
      ·have h2:=of_decide_eq_true h2;have e:Ak.cnt B.length g.length false=false:=by
        have e1:(B.length==g.length)=false:=by simp;lia
        simp[Ak.cnt,e1]
       rw[e,Bool.false_and]at q;exact q H (AG.refl H)
      ·have h2:=of_decide_eq_false h2;refine key ?_;have:B.length=g.length:=by lia
       simp[Ak.cnt,this]
    |int i=>exact Bk (Bk (q H (AG.refl H)))
    |str i=>exact Bk (Bk (q H (AG.refl H)))
    |bl b=>simp[Pt.doc]at X
    |Ai=>simp[Pt.doc]at X
    |tup _ _=>simp[Pt.doc]at X
    |BI _ _ _=>exact Bk (Bk (q H (AG.refl H)))
  ·refine⟨_,rfl,L,_,0,_,rfl,rfl,M,EF,rfl,_,rfl,Bp ?_⟩;refine⟨_,rfl,L,_,0,_,rfl,rfl,M,EF,rfl,_,rfl,Bp ?_⟩;refine⟨_,rfl,L,_,0,_,rfl,rfl,M,EF,rfl,_,rfl,Bp ?_⟩;refine⟨_,rfl,_,"dict",t.Yk,rfl,rfl,hy.ty,_,rfl,?_⟩;simp only[Ak.Ct]at O;simp only[Ak.deep]at Vg;simp only[Ak.dp]at dB;simp only[Ak.size]at za;obtain⟨o1,o2,o3,o4,o5,o6,o7⟩:=O;cases hy with
   |int i=>exact Bk (q H (AG.refl H))
   |str i=>exact Bk (q H (AG.refl H))
   |bl b=>simp[Pt.doc]at X
   |Ai=>simp[Pt.doc]at X
   |tup _ _=>simp[Pt.doc]at X
   |lst _ _=>exact Bk (q H (AG.refl H))
   |@BI b Zj Y B hb Zq rb=>
    refine Ay ?_;cases Xx with
    |@BI a kvs _ _ ha Wf ra=>
     cases hz with
     |@lst l vl _ hl rl=>
      have kl:kvs.length=G.length:=by have:=congrArg List.length Wf;simpa using this
      have gU:Zj.length=Y.length:=by have:=congrArg List.length Zq;simpa using this
      simp only[Pt.doc]at X;simp only[Pt.size]at zt;simp only[Ak.lets]at q;rw[UU m o2 X.2.1 o6]at q;have oe:vl=ls.map V.str:=by
       have gen:∀{vs:List V}{ls:List Str},AQ H vs (ls.map Pt.str)->vs=ls.map V.str:=by
        intro vs ls
        induction ls generalizing vs with
        |nil=>intro h;cases h;rfl
        |cons x r ih=>
         intro h;cases h with
         |cons Z h2=>cases Z;rw[List.map_cons,ih h2]
       exact gen rl
      subst oe;refine⟨b,Zj,hb,fun o Hf F=>⟨_,rfl,b,o,_,rfl,F.at_,?_⟩⟩;refine Ei (n:=Y.length) (fun i=>.str (Y.getD i "")) (fun i=>.str (Y.getD i "")) (fun i=> !decide (Y.getD i ""∈G)) (An (by lia)) (fun i D B I hD=>⟨by rw[AH (AV F.at_ hD)];exact F.at_,by rw[gU];exact I⟩) (fun i D B v H' I hD y=>?_) (fun D B hD=>⟨by rw[AH (AV F.at_ hD)];exact F.at_,gU.symm⟩) (fun i D B R I hD r=>?_) (fun i D B R I hD _ r=>⟨_,rfl,r⟩) (fun D hD=>?_)
      ·obtain⟨e,k,w',e1,S⟩:=y;rw[(Gw Zq e1).2]at S;exact⟨S,e⟩
      ·have en:Rd (upd Hf D (.lst B)) a (.dK kvs):=(F.rd _ _ ha).up fun o e=>by rw[AH (AV e hD)];exact e
       have og:=(M.EI (EH.BP F)).up (AG.new (o:=.lst B) hD);refine⟨_,rfl,_,rfl,L,_,1,_,rfl,rfl,og,DK,a,_,rfl,.inl ⟨kvs,Sum.inr (Y.getD i ""),en,rfl,rfl⟩,_,rfl,?_⟩;rw[Xg Wf];exact r
      ·have oh:=F.free hD;refine⟨by rw[AH (AV F.at_ hD)];exact F.at_,?_⟩;rw[Ku Y fun n=> !decide (n∈G)];obtain⟨os,gW⟩:∃os,os=Y.filter fun n=> !decide (n∈G):=⟨_,rfl⟩;rw[<-gW]at q⊢;have rC:os.length<=Y.length:=by rw[gW];exact List.length_filter_le _ _
       have s1:AG H (back b H (upd Hf D (.lst (os.map V.str)))):=F.back (AG.new hD);have fD:back b H (upd Hf D (.lst (os.map V.str))) D=some (.lst (os.map V.str)):=by rw[CI oh.2,AB]
       generalize back b H (upd Hf D (.lst (os.map V.str)))=H1 at s1 fD⊢;have jq:=M.up s1;have oj:=hb.up (s1 _);have om:=ha.up (s1 _);dsimp only;refine T_ (t:=Sq _ _ _) (fun H5=>AG H1 H5/\(decide (((Y.length:Nat):Int)-((os.length:Nat):Int)<((G.length:Nat):Int)))=false/\(m||os.isEmpty)=true) (fun H5 ⟨s5,c1,c2⟩=>?_) (fun key=>?_);rotate_left
       ·refine⟨_,rfl,b,Zj,rfl,oj,_,rfl,D,_,rfl,.inl (Aq.of fD),_,_,rfl,rfl,_,rfl,L,_,1,_,rfl,rfl,jq,DK,a,kvs,rfl,om,_,_,rfl,rfl,_,rfl,?_⟩;rw[gU,kl,List.length_map];refine DD (fun Z=>?_) (fun Z=>?_)
        ·rw[Z,Bool.not_true,Bool.false_and,Bool.false_and,Bool.false_and]at q;exact Bk (q H1 s1)
        refine⟨_,rfl,L,_,3,_,rfl,rfl,jq,Ao (j:=3) rfl,_,rfl,?_⟩;cases m with
        |true=>exact Ay (Ay (key H1 ⟨AG.refl _,Z,rfl⟩))
        |false=>
         refine Bk ⟨_,rfl,Nat.zero_le _,fun pe Xv=>⟨D,pe,_,rfl,rfl,Aq.of ((AG.new Xv) _ _ fD),Aq.of AB,_,rfl,?_⟩⟩;have se:=AG.new (o:=.lst []) Xv;cases os with
         |nil=>exact Ay (key _ ⟨se,Z,rfl⟩)
         |cons x r=>
          rw[Z]at q;exact Bk (q _ (s1.trans se))
       ·have s05:=s1.trans s5;rw[c1,c2,Bool.not_false,Bool.true_and,Bool.true_and]at q;have gX:=s5 _ _ fD;have oo:=M.up s05;have gS:=hl.up (s05 _);have li:∀i,i<os.length->(os.map V.str)[i]?=some (.str (os.getD i "")):=fun i I=>by
         rw[List.getElem?_map,rW I,List.getD_eq_getElem?_getD,rW I];rfl
        have bq:∀{D2:Addr}{zs:List V},H5 D2=none->upd H5 D2 (.lst zs) D=some (.lst (os.map V.str)):=fun h=>by rw[AH (AV gX h)];exact gX
        refine⟨_,rfl,D,rfl,⟨_,Aq.of gX⟩,?_⟩;refine Ei (n:=os.length) (fun i=>.str (os.getD i "")) (fun i=>.str (os.getD i "")) (fun i=>decide (os.getD i ""∈ls)) (An (by lia)) (fun i D2 zs I J=>⟨_,_,Aq.of (bq J),li i I⟩) (fun i D2 zs v H' I J y=>?_) (fun D2 zs J=>⟨_,Aq.of (bq J),by rw[List.length_map];exact Nat.le_refl _⟩) (fun i D2 zs R I J r=>?_) (fun i D2 zs R I J _ r=>⟨_,rfl,r⟩) (fun D2 J=>?_)
        ·obtain⟨e,y⟩:=y;have:=y _ (Aq.of (bq J));rw[li i I]at this;exact⟨(rY this).symm,e⟩
        ·have ou:Rd (upd H5 D2 (.lst zs)) l (.lst (ls.map V.str)):=gS.up fun o e=>by rw[AH (AV e J)];exact e
         refine⟨_,rfl,_,rfl,L,_,2,_,rfl,rfl,oo.up (AG.new (o:=.lst zs) J),at2,l,_,rfl,.inl (.inl ou),rfl,?_,_,rfl,?_⟩
         ·rw[List.all_map];exact List.all_eq_true.mpr fun _ _=>rfl
         ·rw[JP];exact r
        ·rw[Ku os fun n=>decide (n∈ls)];obtain⟨us,ow⟩:∃us,us=os.filter fun n=>decide (n∈ls):=⟨_,rfl⟩;rw[<-ow]at q⊢;have s6:=s05.trans (AG.new (o:=.lst (us.map V.str)) J);have f6:upd H5 D2 (.lst (us.map V.str)) D2=some (.lst (us.map V.str)):=AB;generalize upd H5 D2 (.lst (us.map V.str))=H6 at s6 f6⊢;refine⟨Nat.zero_le _,fun pe Xv=>⟨D2,pe,_,rfl,rfl,Aq.of ((AG.new Xv) _ _ f6),Aq.of AB,_,rfl,?_⟩⟩;have s7:=s6.trans (AG.new (o:=.lst []) Xv);generalize upd H6 pe (.lst [])=H7 at s7⊢;cases us with
         |cons x r=>exact Bk (q H7 s7)
         |nil=>
          refine Ay ?_;simp only[List.isEmpty_nil,Bool.true_and]at q;have gY:∀k∈G,k∈Y:=by
           have c:=cntK o2 X.2.1;rw[<-gW]at c;have c1:=of_decide_eq_false c1;have le:(G.filter fun k=>decide (k∈Y)).length<=G.length:=List.length_filter_le _ _;have:=List.length_filter_eq_length_iff.mp (show(G.filter fun k=>decide (k∈Y)).length=G.length by lia);exact fun k hk=>of_decide_eq_true (this k hk)
          obtain⟨bs,S⟩:=Pf X.1 (ss:=G) gY;rw[Ak.FU,UR _ o1 o2 (.refl _) (MI o1 o2) S]at q;have rD:bs.length=G.length:=by have:=congrArg List.length S;simpa using this.symm
          have oy:=M.up s7;have oz:=ha.up (s7 _);refine⟨a,kvs,oz,fun o_ rE F2=>⟨_,rfl,L,_,1,.ref a,rfl,rfl,oy.EI (EH.BP F2),DK,a,o_,_,rfl,F2.at_,?_⟩⟩;refine CU (n:=G.length) (fun i=>.str (G.getD i "")) (fun i v=>∃p,(g.zip bs)[i]?=some p/\v=.bl (Ak.lets p.1 p.2)) (An (by lia)) (fun i H2 I N=>⟨N _ _ F2.at_,by lia⟩) (fun i H2 v H' I N y=>?_) (fun H2 N=>⟨N _ _ F2.at_,by lia⟩) (fun i H2 R I N r=>?_) (fun D3 H2 rs pF N d2 lr or=>?_)
          ·obtain⟨e,k,w',e1,S⟩:=y;rw[(Gw Wf e1).2]at S;exact⟨S,e⟩
          ·have kp:EH H H2:=((EH.of s7).trans (EH.BP F2)).trans (.of N);obtain⟨x,px,g1,g2,g3⟩:=JX Wf ra o2 I;obtain⟨ax,U⟩:∃ax,g[i]?=some ax:=⟨_,rW (by lia)⟩;rw[Ak.BG,List.getElem?_map,U]at g2;cases g2;have hk:G[i]?=some (G.getD i ""):=by rw[List.getD_eq_getElem?_getD,rW I];rfl
           have mk:G.getD i ""∈G:=rZ hk;obtain⟨pb,jr⟩:∃pb,bs[i]?=some pb:=⟨_,rW (by lia)⟩;have e3:lk Y B (G.getD i "")=some pb:=by
            have:=congrArg (fun z=>z[i]?) S;simp only[List.getElem?_map,hk,jr]at this;exact rY this
           rcases Val.Fw Zq rb (G.getD i "")with⟨y,ty,k1,k2,vy⟩|⟨_,k2⟩
           ·have e4:ty=pb:=rY (k2.symm.trans e3);subst e4;have m1:=rZ U;have m2:=(MD e3).2;have d1:=Ak.Ad m1;have d6:=Ak.GB m1;have z1:=Ak.BX m1;have z2:=Pt.BX m2;refine⟨_,rfl,L,_,1,_,rfl,rfl,M.EI kp,DK,_,rfl,a,x,rfl,.inl ⟨kvs,Sum.inr (G.getD i ""),kp.rd _ _ ha,rfl,g1.symm⟩,_,rfl,_,rfl,b,y,rfl,.inl ⟨Zj,Sum.inr (G.getD i ""),kp.rd _ _ hb,rfl,k1.symm⟩,x,y,ax,ty,rfl,g3.EI kp,vy.EI kp,Ak.Bi o7 _ m1,Pt.Aw X.2.2.2.2 _ m2,by lia,by lia,by lia,by lia,fun H3 s3=>r _ H3 s3 ⟨(ax,ty),?_,rfl⟩⟩;rw[List.getElem?_zip_eq_some];exact⟨U,jr⟩
           ·exact absurd (k2.symm.trans e3) (fun z=>nomatch z)
          ·refine⟨N _ _ F2.at_,?_⟩;have lz:(g.zip bs).length=G.length:=by rw[List.length_zip];lia
           have e:=QV (ps:=g.zip bs) (f:=fun p=>Ak.lets p.1 p.2) (vs:=rs) (by lia) or;rw[e]at d2;have Da:D3≠a:=(F2.free pF).2;have sb:=s7.trans (F2.back N);have d3:back a H7 H2 D3=some (.lst (((g.zip bs).map fun p=>Ak.lets p.1 p.2).map V.bl)):=by rw[CI Da];exact d2
           refine⟨D3,_,rfl,Aq.of d3,?_⟩;have S:((g.zip bs).map fun p=>Ak.lets p.1 p.2).all id=(g.zip bs).all fun p=>Ak.lets p.1 p.2:=by rw[List.all_map];rfl
           rw[S];exact q _ sb
theorem Og{f:Addr}{c:FuncData}(F:CD K "_law_lets" "_law_lets" Qx f c)(T:Txt mg)(b:Binds K c ["_law_asks_here","_law_doc_here"] [])(m:mg "_law_lets"=some (.ref f)):∀n:Nat,Ac P w K mg base Bn n f c ["_law_asks_here","_law_doc_here"] (GG n)
 |0=>FE (fun vs H Q E h=>by obtain⟨_,_,a,_,_,_,_,_,_,_,_,_,d,_⟩:=h;have:=Ak.CG a;omega)
 |n+1=>XA F T (Df.mk' F b m (Og F T b m n))
theorem RA:AW ["_law_asks_here","_law_found","_law_one","_law_name"] ["_law_asks_here"] (AJ Mg):={}
theorem VS(F:CD K "_law_justs" "_law_justs" Mg f fd)(T:Txt mg)(x:Df P w K mg base "_law_justs" ["_law_asks_here"] n (GR n)):Ac P w K mg base Bn (n+1) f fd ["_law_asks_here"] (GR (n+1)):=by
 refine F.oq RA fun II A outer s H vs Q E hr h=>?_
 ·obtain⟨G,v,a,rfl,sG,hv,I,bu,Vg,q⟩:=h;have nd:=RA.nd;have hu:=Az hr;refine⟨_,(AD (Aa (AU Bc (DP K 0) Ae (AY _)) (AF (AL (Ah (AX (DP K 0))))) AN) (AD (Af 1 nd (Ah Be)) (AD (Aa (AU Bc (DP K 0) Ae (AY _)) (AF (Mt (B_ (DP K 0)) (CY 2 nd) (AF (Bh (DZ PySem.F.plainAttrs_list PySem.F.slot_list_extend PySem.F.type_list_extend CO (pv 1) (AX (Bg x hr.mm (AX (pv 2))))))))) AN) (AD (Aa (AU Bc (DP K 0) Ae (AY _)) (AF (IM (Mt (Cv (DP K 0)) (CY 3 nd) (AF (Bh (DZ PySem.F.plainAttrs_list PySem.F.slot_list_extend PySem.F.type_list_extend CO (pv 1) (AX (Bg x hr.mm (AX (SR hu (DP K 0) (pv 3))))))))))) AN) (AF (AL (pv 1))))))),?_⟩;obtain⟨J,w0,rest,rfl,c,cs⟩:=hv.ak;have Xq:=c.EI sG;have L:∀{k:Hp},AG H k->EH G k:=fun s=>sG.trans (.of s);refine⟨_,rfl,J,_,0,_,rfl,rfl,Xq,EF,rfl,_,rfl,?_⟩;rcases cs with⟨rfl,rfl,rfl⟩|⟨d,u,rfl,rfl,rfl,Xx⟩|⟨xs,m,u,rfl,rfl,rfl,hx⟩|⟨ks,xs,ls,m,u,z,rfl,rfl,rfl,hx,hz⟩
  ·refine Bp ⟨by decide,fun D B=>?_⟩;obtain⟨H1,S,l,f1⟩:=CA (o:=.lst []) B;rw[S];clear S;dsimp only[BR];refine⟨_,rfl,J,_,0,_,rfl,rfl,Bm.EI c (L l),EF,rfl,_,rfl,Bp ?_⟩;refine⟨_,rfl,J,_,0,_,rfl,rfl,Bm.EI c (L l),EF,rfl,_,rfl,Bp ?_⟩;exact⟨_,rfl,q D [] H1 l B f1 .nil (Nat.zero_le _)⟩
  ·refine Ez ⟨_,rfl,J,_,1,_,rfl,rfl,Xq,DK,BA,fun D B=>?_⟩;exact q D [u] _ (AG.new B) B AB (.cons Xx .nil) (by have:=Pt.size_pos d;simp only[Ak.wt,List.length_singleton];lia)
  ·simp only[Ak.Ct]at I;simp only[Ak.deep]at Vg;simp only[Ak.wt]at bu q;simp only[Ak.BV]at q;obtain⟨a1,ZZ,rfl,N,r1⟩:=hx.WS;have lv:=r1.length;rw[Ak.BG,List.length_map]at lv;rw[Ak.BG]at r1;refine Bp ⟨by decide,fun D B=>?_⟩;obtain⟨H1,S,l,f1⟩:=CA (o:=.lst []) B;rw[S];clear S;dsimp only[BR];refine⟨_,rfl,J,_,0,_,rfl,rfl,Bm.EI c (L l),EF,rfl,_,rfl,Ez ?_⟩;refine⟨_,rfl,J,_,1,_,rfl,rfl,Bm.EI c (L l),DK,a1,rfl,⟨_,.inl ((L l).rd _ _ N)⟩,Cj (K:=K) (xs:=ZZ) (fun i O k=>∃(p:List V)(o2:Option V),O=[some (.ref J),some (.ref D),o2,none]/\AG H k/\k D=some (.lst p)/\AQ G p (Ak.Bj (xs.take i))/\p.length<=Ak.Dm (xs.take i))
    ⟨[],none,rfl,l,f1,.nil,Nat.zero_le _⟩ (fun i O k _ ⟨_,_,_,s,_⟩=>.inl ((L s).rd _ _ N)) ?_ ?_⟩
   ·rintro i y O k hy ⟨p,o2,rfl,M,j,R,lw⟩;obtain⟨ty,C,h2⟩:=r1.get hy;rw[List.getElem?_map]at C;cases t:xs[i]? with
    |none=>rw[t]at C;cases C
    |some b=>
     rw[t]at C;cases C;have X:=rZ t;obtain⟨z1,z2⟩:=Ak.GP t;have zd:=Ak.Ad X;have zb:=Ak.Cz X;refine⟨_,rfl,.inl ⟨rfl,_,Aq.of j⟩,_,rfl,G,y,b,rfl,L M,h2,Ak.Bi I b X,by lia,by lia,fun D7 Y H7 s7 n7 f7 v7 l7=>?_⟩;have Z:=s7 _ _ j;exact⟨D,D7,_,_,rfl,rfl,Z,f7,Bd (by lia),p++Y,_,rfl,fun b o e=>by rw[AH (fun z=>by rw[z,B]at e;cases e)];exact(M.trans s7) _ _ e,AB,by rw[Ak.HV t];exact R.append v7,by rw[List.length_append];lia⟩
   ·rintro O k ⟨p,o2,rfl,M,j,R,lw⟩;rw[lv,List.take_length]at lw R;refine⟨_,rfl,J,_,0,_,rfl,rfl,Bm.EI c (L M),EF,rfl,_,rfl,Bp ?_⟩;exact⟨_,rfl,q D p k M B j R (by lia)⟩
  ·simp only[Ak.Ct]at I;simp only[Ak.deep]at Vg;simp only[Ak.wt]at bu q;simp only[Ak.BV]at q;obtain⟨a1,g,rfl,N,dC,r1⟩:=hx.WT;have kl:g.length=ks.length:=by have:=congrArg List.length dC;simpa using this
   rw[Ak.BG]at r1;have lx:ks.length=xs.length:=I.1;refine Bp ⟨by decide,fun D B=>?_⟩;obtain⟨H1,S,l,f1⟩:=CA (o:=.lst []) B;rw[S];clear S;dsimp only[BR];refine⟨_,rfl,J,_,0,_,rfl,rfl,Bm.EI c (L l),EF,rfl,_,rfl,Bp ?_⟩;refine⟨_,rfl,J,_,0,_,rfl,rfl,Bm.EI c (L l),EF,rfl,_,rfl,Ez ?_⟩;have U:=(L l).rd _ _ N;refine⟨a1,g,U,fun oF Hf F=>⟨_,rfl,J,_,1,_,rfl,rfl,Bm.EI c ((L l).trans (.BP F)),DK,a1,oF,g,rfl,F.at_,?_⟩⟩;have Da:D≠a1:=fun z=>by
    rcases U with h|⟨o',h⟩<;>rw[<-z,f1]at h<;>cases h
   have gZ:Hf D=some (.lst []):=by rw[F.ne D Da];exact f1
   refine JG (fun i O k=>∃(p:List V)(o3:Option V),O=[some (.ref J),some (.ref D),none,o3]/\(∀b e,b≠D->Hf b=some e->k b=some e)/\k D=some (.lst p)/\AQ G p (Ak.Bj (xs.take i))/\p.length<=Ak.Dm (xs.take i))
    ⟨[],none,rfl,fun b e _ h=>h,gZ,.nil,Nat.zero_le _⟩ (fun i O k _ ⟨_,_,_,s,_⟩=>s _ _ (Ne.symm Da) F.at_) ?_ ?_
   ·rintro i key y O k hy ⟨p,o3,rfl,M,j,R,lw⟩;have kf:EH G Hf:=(L l).trans (.BP F);have kI:EH G k:=Qo kf (fun u r=>by rcases sG.rd _ _ r with h|⟨o',h⟩<;>rw[B]at h<;>cases h) M;obtain⟨ty,C,h2⟩:=r1.get (show(g.map (·.2))[i]?=some y by rw[List.getElem?_map,hy];rfl);rw[List.getElem?_map]at C;cases t:xs[i]? with
    |none=>rw[t]at C;cases C
    |some b=>
     rw[t]at C;cases C;have X:=rZ t;obtain⟨z1,z2⟩:=Ak.GP t;have zd:=Ak.Ad X;have zb:=Ak.Cz X;have gb:(g.map (·.1)).Nodup:=by rw[dC];exact List.pairwise_map.mpr (I.2.1.imp fun h e=>h (Sum.inr.inj e))
     have rd:Rd k a1 (.dK g):=.inr ⟨oF,M _ _ (Ne.symm Da) F.at_⟩;refine⟨_,rfl,.inl ⟨rfl,_,Aq.of j⟩,_,rfl,J,_,1,_,rfl,rfl,Bm.EI c kI,DK,_,rfl,a1,y,rfl,.inl ⟨_,key,rd,rfl,(GN gb hy).symm⟩,G,y,b,rfl,kI,h2,Ak.Bi I.2.2.2.2.2.2 b X,by lia,by lia,fun D7 Y H7 s7 n7 f7 v7 l7=>?_⟩;have Z:=s7 _ _ j;exact⟨D,D7,_,_,rfl,rfl,Z,f7,Bd (by lia),p++Y,_,rfl,fun b e C h2=>by rw[AH C];exact s7 _ _ (M b e C h2),AB,by rw[Ak.HV t];exact R.append v7,by rw[List.length_append];lia⟩
   ·rintro O k ⟨p,o3,rfl,M,j,R,lw⟩;rw[kl,lx,List.take_length]at lw R;refine⟨M _ _ (Ne.symm Da) F.at_,?_⟩;refine⟨_,rfl,q D p _ (fun b e h=>?_) B (by rw[CI Da];exact j) R (by lia)⟩;by_cases t:b=a1
    ·subst t;rw[Ek];exact l _ _ h
    ·rw[CI t];refine M b e (fun z=>by rw[z,B]at h;cases h) ?_;rw[F.ne b t];exact l _ _ h
theorem LQ{f:Addr}{c:FuncData}(F:CD K "_law_justs" "_law_justs" Mg f c)(T:Txt mg)(b:Binds K c ["_law_asks_here"] [])(m:mg "_law_justs"=some (.ref f)):∀n:Nat,Ac P w K mg base Bn n f c ["_law_asks_here"] (GR n)
 |0=>FE (fun vs H Q E h=>by obtain⟨_,_,a,_,_,_,_,_,d,_⟩:=h;have:=Ak.CG a;omega)
 |n+1=>VS F T (Df.mk' F b m (LQ F T b m n))
theorem LR:AW ["_law_doc_here","_law_inner","_law_found","_law_one"] ["_law_doc_here"] (AJ GX):={}
theorem QC(F:CD K "_law_leaves" "_law_leaves" GX f fd)(T:Txt mg)(g:Df P w K mg base "_law_leaves" ["_law_doc_here"] n (Dp n)):Ac P w K mg base Bn (n+1) f fd ["_law_doc_here"] (Dp (n+1)):=by
 refine F.oq LR fun II A outer s H u Q E hr h=>?_
 ·obtain⟨G,v,t,rfl,sG,hv,d,Y,Z,q⟩:=h;have nd:=LR.nd;have hu:=Az hr;refine⟨_,(AD (Aa (CS (Ar (AR JC rfl T.isinstance AO (AA (pv 0) (AX (BY (AA (Ab (v:=.ty "list") rfl T.list Bw rfl) (AX (Ab (v:=.ty "dict") rfl T.dict Cd rfl))))))))) (AF (AL (Ah (AX (pv 0))))) AN) (AD (Af 1 nd (pv 0)) (AD (Aa (Ar (AR B' rfl T.isinstance AO (AA (pv 0) (AX (Ab (v:=.ty "dict") rfl T.dict Cd rfl))))) (AF (Af 1 nd (CN (IB rfl) rfl T.list Bw (AX (Ws PySem.F.plainAttrs_dict PySem.F.slot_dict_values PySem.F.type_dict_values Pq (pv 0)))))) AN) (AD (Af 2 nd (Ah Be)) (AD (Mt (B_ (pv 1)) (CY 3 nd) (AF (Bh (DZ PySem.F.plainAttrs_list PySem.F.slot_list_extend PySem.F.type_list_extend CO (pv 2) (AX (Bg g hr.mm (AX (pv 3)))))))) (AF (AL (pv 2)))))))),?_⟩;have kG:∀{B:Hp},AG H B->EH G B:=fun s=>sG.trans (.of s);have loop:∀(a1:Addr)(u:List V)(j:List Pt)(m:Hp)(z0:Option V),AG H m->Rd m a1 (.lst u)->AQ G u j->Pt.Bl j->Pt.AI j<=899->Pt.AS j<=n->(∀p N I,AG H I->H p=none->I p=some (.lst N)->AQ G N (Pt.EL j)->N.length<=Pt.AI j->Q (.ref p) I)->KH (Vl (aI Hh) (BR 2)) (KH (YI (XM K (Ge 1)) (BR 3) (XJ (i_ K "list" QN (Ge 2) (EU (Ke (Dp n) [] E0 (EU (Ge 3) Hh)) Hh)))) (Vk (Ge 2))) {nx:=fun x I=>Q V.Ai I,rt:=Q} [z0,some (.ref a1),none,none] m:=fun a1 u j m z0 s01 cy r1 hd hz bx q2=>by
   have lv:=r1.length;refine⟨by decide,fun D J=>?_⟩;have M:=s01.free J;have U:=s01.trans (AG.new (o:=.lst []) J);have O:Rd (upd m D (.lst [])) a1 (.lst u):=cy.up fun o e=>by rw[AH (AV e J)];exact e
   have f1:upd m D (.lst []) D=some (.lst []):=AB;have Da:a1≠D:=fun z=>by rcases cy with h|⟨o',h⟩<;>rw[z,J]at h<;>cases h
   generalize upd m D (.lst [])=H2 at U f1 O⊢;dsimp only[BR];refine⟨_,rfl,a1,rfl,⟨_,.inl O⟩,Cj (K:=K) (xs:=u) (fun i σ B=>∃(R:List V)(o3:Option V),σ=[z0,some (.ref a1),some (.ref D),o3]/\AG H B/\Rd B a1 (.lst u)/\B D=some (.lst R)/\AQ G R (Pt.EL (j.take i))/\R.length<=Pt.AI (j.take i))
    ⟨[],none,rfl,U,O,f1,.nil,Nat.zero_le _⟩ (fun i σ B _ ⟨_,_,_,_,h,_⟩=>.inl h) ?_ ?_⟩
   ·rintro i y σ B hy ⟨R,o3,rfl,si,jt,L,vw,lw⟩;obtain⟨b,hb,h2⟩:=r1.get hy;have bm:=rZ hb;obtain⟨z1,z2⟩:=Pt.LG hb;have zd:=Pt.Ad bm;have zb:=Pt.BX bm;refine⟨_,rfl,.inl ⟨rfl,_,Aq.of L⟩,_,rfl,G,y,b,rfl,kG si,h2,Pt.Aw hd b bm,by lia,by lia,fun D7 Za H7 s7 n7 f7 v7 l7=>?_⟩;have Zb:=s7 _ _ L;exact⟨D,D7,_,_,rfl,rfl,Zb,f7,Bd (by lia),R++Za,_,rfl,fun b o e=>by rw[AH (fun z=>by rw[z,M]at e;cases e)];exact(si.trans s7) _ _ e,(jt.up (s7 _)).up fun o e=>by rw[AH Da];exact e,AB,by rw[Pt.LF hb];exact vw.append v7,by rw[List.length_append];lia⟩
   ·rintro σ B ⟨R,o3,rfl,si,jt,L,vw,lw⟩;rw[lv,List.take_length]at lw vw;exact⟨_,rfl,q2 D R B si M L vw lw⟩
  have rF:=hv.EI sG;cases hv with
  |int i=>
   refine⟨_,rfl,A',fun C S=>?_⟩;have k:=AG.new (o:=.tup [V.ty "list",V.ty "dict"]) S;refine⟨_,C,"int",rfl,AB,.int i,_,rfl,Bk ⟨_,rfl,BA,fun D M=>?_⟩⟩;exact q D [.int i] _ (k.trans (AG.new M)) (k.free M) AB (.cons (.int i) .nil) (Nat.le_refl _)
  |str i=>
   refine⟨_,rfl,A',fun C S=>?_⟩;have k:=AG.new (o:=.tup [V.ty "list",V.ty "dict"]) S;refine⟨_,C,"str",rfl,AB,.str i,_,rfl,Bk ⟨_,rfl,BA,fun D M=>?_⟩⟩;exact q D [.str i] _ (k.trans (AG.new M)) (k.free M) AB (.cons (.str i) .nil) (Nat.le_refl _)
  |bl i=>simp[Pt.doc]at d
  |Ai=>simp[Pt.doc]at d
  |tup _ _=>simp[Pt.doc]at d
  |@lst a u j h r=>
   simp only[Pt.doc]at d;simp only[Pt.deep]at Z;simp only[Pt.size]at Y q;simp only[Pt.KA]at q;have hH:=sG.rd _ _ h;refine⟨_,rfl,A',fun C S=>?_⟩;have k:=AG.new (o:=.tup [V.ty "list",V.ty "dict"]) S;have c:Rd (upd H C (.tup [V.ty "list",V.ty "dict"])) a (.lst u):=hH.up (k _);refine⟨_,C,"list",rfl,AB,.lst c,_,rfl,Ay ⟨_,rfl,?_⟩⟩;dsimp only[BR];refine⟨_,rfl,_,"dict","list",rfl,rfl,.lst c,_,rfl,Ay ?_⟩;exact loop a u j _ _ k c r d (by lia) (by lia) fun p N I U h1 h2 X h4=>q p N I U h1 h2 X (by lia)
  |@BI a kvs ks j h hk r=>
   simp only[Pt.doc]at d;simp only[Pt.deep]at Z;simp only[Pt.size]at Y q;simp only[Pt.KA]at q;have hH:=sG.rd _ _ h;refine⟨_,rfl,A',fun C S=>?_⟩;have k:=AG.new (o:=.tup [V.ty "list",V.ty "dict"]) S;have c:Rd (upd H C (.tup [V.ty "list",V.ty "dict"])) a (.dK kvs):=hH.up (k _);refine⟨_,C,"dict",rfl,AB,.dK c,_,rfl,Ay ⟨_,rfl,?_⟩⟩;dsimp only[BR];refine⟨_,rfl,_,"dict","dict",rfl,rfl,.dK c,_,rfl,Bk ?_⟩;generalize upd H C (.tup [V.ty "list",V.ty "dict"])=m at k c⊢;refine⟨_,rfl,⟨a,kvs,rfl,c⟩,a,kvs,rfl,rfl,c,fun pv pG=>?_⟩;have s3:=AG.new (o:=GO pv a) pG;have f3:upd m pv (GO pv a) pv=some (GO pv a):=AB;have X:Rd (upd m pv (GO pv a)) a (.dK kvs):=c.up (s3 _);generalize upd m pv (GO pv a)=H3 at s3 f3 X⊢;refine⟨pv,a,kvs,rfl,f3,X,fun l hl=>?_⟩;dsimp only[BR];refine loop l (kvs.map (·.2)) j _ _ ((k.trans s3).trans (AG.new hl)) (.inl AB) r d.2.2.2.2 (by lia) (by lia) fun p N I U h1 h2 X h4=>q p N I U h1 h2 X (by lia)
theorem Hd{f:Addr}{c:FuncData}(F:CD K "_law_leaves" "_law_leaves" GX f c)(T:Txt mg)(b:Binds K c ["_law_doc_here"] [])(m:mg "_law_leaves"=some (.ref f)):∀n:Nat,Ac P w K mg base Bn n f c ["_law_doc_here"] (Dp n)
 |0=>FE (fun vs H Q E h=>by obtain⟨_,_,a,_,_,_,_,_,d,_⟩:=h;have:=Pt.CG a;omega)
 |n+1=>QC F T (Df.mk' F b m (Hd F T b m n))
theorem VT:AW ["_law_doc_here"] ["_law_doc_here"] (AJ Qy):={}
theorem XB{C:FuncData}(F:CD K "_law_size" "_law_size" Qy f C)(T:Txt mg)(c:Df P w K mg base "_law_size" ["_law_doc_here"] n (Eu n)):Ac P w K mg base Bn (n+1) f C ["_law_doc_here"] (Eu (n+1)):=by
 refine F.oq VT fun J A outer s H L Q E p h=>?_
 ·obtain⟨v,t,rfl,M,b,e,g,q⟩:=h;have nd:=VT.nd;have N:=Az p;refine⟨_,(AD (Aa (Ar (AR (BO:BE _ _ (DE K)) rfl T.isinstance AO (AA (pv 0) (AX (Ab (v:=.ty "list") rfl T.list Bw rfl))))) (AF (AL (AM BU AE (AR (Eb rfl) rfl T.sum NV (AX (cmp [] [] (B_ (pv 0)) fun _ _ _ _=>(Bg c p.mm (AX (pv 0))))))))) AN) (AD (Aa (Ar (AR (BO:BE _ _ (DE K)) rfl T.isinstance AO (AA (pv 0) (AX (Ab (v:=.ty "dict") rfl T.dict Cd rfl))))) (AF (AL (AM BU AE (AR (Eb rfl) rfl T.sum NV (AX (Fu (cmp ["_law_doc_here"] [0] (Cv (pv 0)) fun _ _ _ _=>(Bg c p.mm (AX (SR N (pv 1) (pv 0))))))))))) AN) (AF (AL AE)))),?_⟩;cases M with
  |int i=>exact⟨_,rfl,_,"list","int",rfl,rfl,.n (.int i),_,rfl,Ay ⟨_,rfl,_,"dict","int",rfl,rfl,.n (.int i),_,rfl,Ay (q H (AG.refl H))⟩⟩
  |str i=>exact⟨_,rfl,_,"list","str",rfl,rfl,.n (.str i),_,rfl,Ay ⟨_,rfl,_,"dict","str",rfl,rfl,.n (.str i),_,rfl,Ay (q H (AG.refl H))⟩⟩
  |bl i=>simp[Pt.doc]at b
  |Ai=>simp[Pt.doc]at b
  |tup _ _=>simp[Pt.doc]at b
  |@lst a L d h r=>
   simp only[Pt.doc]at b;simp only[Pt.deep]at g;simp only[Pt.size]at e q;have Y:=r.length;have lt:=Pt.CL d;refine⟨_,rfl,_,"list","list",rfl,rfl,.n (.lst h),_,rfl,Bk ⟨_,rfl,a,rfl,⟨_,.inl h⟩,?_⟩⟩;refine LI (fun t=>.int (t.size:Int)) h r (An (by lia)) (fun i x t l R G u y j k=>?_) (fun D l O j z=>?_)
   ·have m:=rZ u;have S:=Pt.Ad m;have z1:=Pt.BX m;exact⟨_,rfl,x,t,rfl,y.up j,Pt.Aw b t m,by lia,by lia,k⟩
   ·refine⟨D,d.map fun x=>(x.size:Int),rfl,Aq.of (by rw[z,List.map_map];rfl),_,_,rfl,rfl,?_⟩;rw[Jn,show(1:Int)+(Pt.AI d:Int)=((1+Pt.AI d:Nat):Int)by lia];exact q l j
  |@BI a kvs Z d h U r=>
   simp only[Pt.doc]at b;simp only[Pt.deep]at g;simp only[Pt.size]at e q;have lt:=Pt.CL d;refine⟨_,rfl,_,"list","dict",rfl,rfl,.n (.dK h),_,rfl,Ay ⟨_,rfl,_,"dict","dict",rfl,rfl,.n (.dK h),_,rfl,Bk ?_⟩⟩;refine⟨a,kvs,h,fun o Hf F=>⟨_,rfl,a,o,kvs,rfl,F.at_,?_⟩⟩;refine Jm (fun t=>.int (t.size:Int)) F U r b.2.1 (An (by lia)) (fun i k x t l R V u G y I X=>?_) (fun D l O j B z=>?_)
   ·have m:=rZ u;have S:=Pt.Ad m;have z1:=Pt.BX m;exact⟨_,rfl,_,rfl,a,x,rfl,.inl ⟨kvs,Sum.inr k,I.rd _ _ h,rfl,G.symm⟩,x,t,rfl,y.EI I,Pt.Aw b.2.2.2.2 t m,by lia,by lia,X⟩
   ·refine⟨B,D,d.map fun x=>(x.size:Int),rfl,Aq.of (by rw[z,List.map_map];rfl),_,_,rfl,rfl,?_⟩;rw[Jn,show(1:Int)+(Pt.AI d:Int)=((1+Pt.AI d:Nat):Int)by lia];exact q _ j
theorem Oh{f:Addr}{c:FuncData}(F:CD K "_law_size" "_law_size" Qy f c)(T:Txt mg)(b:Binds K c ["_law_doc_here"] [])(m:mg "_law_size"=some (.ref f)):∀n:Nat,Ac P w K mg base Bn n f c ["_law_doc_here"] (Eu n)
 |0=>FE (fun vs H Q E h=>by obtain⟨_,a,_,_,_,_,d,_⟩:=h;have:=Pt.CG a;omega)
 |n+1=>XB F T (Df.mk' F b m (Oh F T b m n))
theorem RB:AW ["_law_asks_here"] ["_law_asks_here"] (AJ Mh):={}
theorem VU(F:CD K "_law_least" "_law_least" Mh f Y)(T:Txt mg)(C:Df P w K mg base "_law_size" ["_law_doc_here"] 25 (Eu 25))(e:Df P w K mg base "_law_least" ["_law_asks_here"] n (GS n)):Ac P w K mg base Bn (n+1) f Y ["_law_asks_here"] (GS (n+1)):=by
 refine F.oq RB fun II A outer s H vs Q E L h=>?_
 ·obtain⟨v,a,rfl,hv,c,y,B,I,q⟩:=h;have nd:=RB.nd;have hu:=Az L;refine⟨_,(AD (Aa (AU Bc (DP K 0) Ae (AY _)) (AF (AL (Bg C L.mm (AX (DP K 0))))) AN) (AD (Aa (AU Bc (DP K 0) Ae (AY _)) (AF (AL (AM BU AE (AR (Eb rfl) rfl T.sum NV (AX (cmp [] [] (B_ (DP K 0)) fun _ _ _ _=>(Bg e L.mm (AX (pv 0))))))))) AN) (AD (Aa (AU Bc (DP K 0) Ae (AY _)) (AF (AL (AM BU AE (AR (Eb rfl) rfl T.sum NV (AX (Fu (cmp ["_law_asks_here"] [0] (Cv (DP K 0)) fun _ _ _ _=>(Bg e L.mm (AX (SR hu (DP K 1) (pv 0))))))))))) AN) (AF (AL AE))))),?_⟩;obtain⟨r,w0,rest,rfl,t,cs⟩:=hv.ak;refine⟨_,rfl,r,_,0,_,rfl,rfl,t,EF,rfl,_,rfl,?_⟩;rcases cs with⟨rfl,rfl,rfl⟩|⟨d,u,rfl,rfl,rfl,g⟩|⟨j,m,u,rfl,rfl,rfl,g⟩|⟨ks,j,ls,m,u,z,rfl,rfl,rfl,g,hz⟩
  ·refine Bp ⟨_,rfl,r,_,0,_,rfl,rfl,t,EF,rfl,_,rfl,Bp ?_⟩;exact⟨_,rfl,r,_,0,_,rfl,rfl,t,EF,rfl,_,rfl,Bp (q H (AG.refl H))⟩
  ·simp only[Ak.Ct]at c;simp only[Ak.dp]at B;simp only[Ak.wt]at y q;exact Ez ⟨_,rfl,r,_,1,_,rfl,rfl,t,DK,u,d,rfl,g,c,y,B,q⟩
  ·simp only[Ak.Ct]at c;simp only[Ak.dp]at B;simp only[Ak.deep]at I;simp only[Ak.wt]at y q;obtain⟨a1,ZZ,rfl,l,G⟩:=g.WS;have lv:=G.length;have lx:=Ak.CL j;have lw:=Ak.Cs j;rw[Ak.BG,List.length_map]at lv;refine Bp ⟨_,rfl,r,_,0,_,rfl,rfl,t,EF,rfl,_,rfl,Ez ?_⟩;refine⟨_,rfl,r,_,1,_,rfl,rfl,t,DK,a1,rfl,⟨_,.inl l⟩,?_⟩;rw[Ak.BG]at G;refine Px (fun b=>.int (b.wt:Int)) l G (An (by lia)) (fun i x b M R Z N O J k=>?_) (fun D M hD J S=>?_)
   ·have m:=rZ N;have d1:=Ak.Ad m;have d6:=Ak.GB m;have z1:=Ak.Cz m;exact⟨_,rfl,x,b,rfl,O.up J,Ak.Bi c b m,by lia,by lia,by lia,k⟩
   ·refine⟨D,j.map fun x=>(x.wt:Int),rfl,Aq.of (by rw[S,List.map_map];rfl),_,_,rfl,rfl,?_⟩;rw[Ma,show(1:Int)+(Ak.Dm j:Int)=((1+Ak.Dm j:Nat):Int)by lia];exact q M J
  ·simp only[Ak.Ct]at c;simp only[Ak.dp]at B;simp only[Ak.deep]at I;simp only[Ak.wt]at y q;obtain⟨a1,p,rfl,l,U,G⟩:=g.WT;have lx:=Ak.CL j;have lw:=Ak.Cs j;refine Bp ⟨_,rfl,r,_,0,_,rfl,rfl,t,EF,rfl,_,rfl,Bp ?_⟩;refine⟨_,rfl,r,_,0,_,rfl,rfl,t,EF,rfl,_,rfl,Ez ?_⟩;refine⟨a1,p,l,fun o Hf F=>⟨_,rfl,r,_,1,_,rfl,rfl,t.EI (EH.BP F),DK,a1,o,p,rfl,F.at_,?_⟩⟩;rw[Ak.BG]at G;refine OR (fun b=>.int (b.wt:Int)) F U G c.2.1 (An (by lia)) (fun i k x b M R rG N Z O V k2=>?_) (fun D M hD J X S=>?_)
   ·have m:=rZ N;have d1:=Ak.Ad m;have d6:=Ak.GB m;have z1:=Ak.Cz m;exact⟨_,rfl,r,_,1,_,rfl,rfl,t.EI V,DK,_,rfl,a1,x,rfl,.inl ⟨p,Sum.inr k,V.rd _ _ l,rfl,Z.symm⟩,x,b,rfl,O.EI V,Ak.Bi c.2.2.2.2.2.2 b m,by lia,by lia,by lia,k2⟩
   ·refine⟨X,D,j.map fun x=>(x.wt:Int),rfl,Aq.of (by rw[S,List.map_map];rfl),_,_,rfl,rfl,?_⟩;rw[Ma,show(1:Int)+(Ak.Dm j:Int)=((1+Ak.Dm j:Nat):Int)by lia];exact q _ J
theorem LS{f:Addr}{d:FuncData}(F:CD K "_law_least" "_law_least" Mh f d)(T:Txt mg)(b:Binds K d ["_law_asks_here"] [])(m:mg "_law_least"=some (.ref f))(c:Df P w K mg base "_law_size" ["_law_doc_here"] 25 (Eu 25)):∀n:Nat,Ac P w K mg base Bn n f d ["_law_asks_here"] (GS n)
 |0=>FE (fun vs H Q E h=>by obtain⟨_,a,_,_,_,_,_,e,_⟩:=h;have:=Ak.CG a;omega)
 |n+1=>VU F T c (Df.mk' F b m (LS F T b m c n))
theorem VW:AW ["_law_asks_here","_law_doc_here","_law_found","_law_k","_law_name"] ["_law_asks_here","_law_doc_here"] (AJ Qz):={}
theorem XC(F:CD K "_law_free" "_law_free" Qz f fd)(T:Txt mg)(S:Df P w K mg base "_law_free" ["_law_asks_here","_law_doc_here"] n (IZ n)):Ac P w K mg base Bn (n+1) f fd ["_law_asks_here","_law_doc_here"] (IZ (n+1)):=by
 refine F.oq VW fun II A outer s H vs Q E hr h=>?_
 ·obtain⟨G,v,y,a,b,f0,rfl,sG,hv,hy,p,bu,sm,Vg,q⟩:=h;have nd:=VW.nd;have hu:=Az hr;refine⟨_,(AD (Aa (AU Bc (DP K 0) Ae (AY _)) (AF (AL (Ah (AX (pv 1))))) AN) (AD (Af 2 nd (Ah Be)) (AD (Aa (AU Bc (DP K 0) Ae (AY _)) (AF (Mt (BL rfl T.range (AX (EM T.len (pv 1)))) (CY 3 nd) (AF (Bh (DZ PySem.F.plainAttrs_list PySem.F.slot_list_extend PySem.F.type_list_extend CO (pv 2) (AX (Bg S hr.mm (AA (GV K (AM QX (DP K 0) (AM TU (Ah (AX (BY (AX Ae)))) (EM T.len (pv 1)))) (pv 3)) (AX (GV K (pv 1) (pv 3))))))))))) AN) (AD (Aa (AU Bc (DP K 0) Ae (AY _)) (AF (IM (Mt (Cv (pv 1)) (CY 4 nd) (AF (Bh (DZ PySem.F.plainAttrs_list PySem.F.slot_list_extend PySem.F.type_list_extend CO (pv 2) (AX (Bg S hr.mm (AA (TZ hu (DP K 0) (pv 4) (BY (AX Ae)) ⟨rfl,rfl,rfl,rfl⟩) (AX (SR hu (pv 1) (pv 4)))))))))))) AN) (AF (AL (pv 2))))))),?_⟩;obtain⟨U,w0,rest,rfl,g,cs⟩:=hv.ak;have Xq:=g.EI sG;have C:∀{j:Hp},AG H j->EH G j:=fun s=>sG.trans (.of s);refine⟨_,rfl,U,_,0,_,rfl,rfl,Xq,EF,rfl,_,rfl,?_⟩;rcases cs with⟨rfl,rfl,rfl⟩|⟨d,u,rfl,rfl,rfl,Xx⟩|⟨O,m,u,rfl,rfl,rfl,hx⟩|⟨ks,O,ls,m,u,z,rfl,rfl,rfl,hx,hz⟩
  ·refine Ez ⟨_,rfl,BA,fun D I=>?_⟩;exact q D [y] _ (AG.new I) I AB (by rw[Ak.OH];exact .cons hy .nil) (Nat.le_refl _)
  ·refine Bp ⟨by decide,fun D I=>?_⟩;obtain⟨H1,X,J,f1⟩:=CA (o:=.lst []) I;rw[X];clear X;dsimp only[BR];refine⟨_,rfl,U,_,0,_,rfl,rfl,Bm.EI g (C J),EF,rfl,_,rfl,Bp ?_⟩;refine⟨_,rfl,U,_,0,_,rfl,rfl,Bm.EI g (C J),EF,rfl,_,rfl,Bp ?_⟩;exact⟨_,rfl,q D [] H1 J I f1 (by rw[Ak.LA];exact .nil) (Nat.zero_le _)⟩
  ·cases sm with
   |@row _ _ ys fs sl=>
   simp only[Ak.Ct]at p;simp only[Ak.deep]at Vg;simp only[Ak.wt]at bu q;simp only[Ak.free]at q;obtain⟨a1,ZZ,rfl,Z,r1⟩:=hx.WS;obtain⟨a2,k,rfl,Y,r2⟩:=hy.WS;have lv:=r1.length;rw[Ak.BG,List.length_map]at lv;have bg:=r2.length;have ll:=sl.len;have lx:=Ak.CL O;have lw:=Ak.Cs O;rw[Ak.BG]at r1;refine Bp ⟨by decide,fun D I=>?_⟩;obtain⟨H1,X,J,f1⟩:=CA (o:=.lst []) I;rw[X];clear X;dsimp only[BR];refine⟨_,rfl,U,_,0,_,rfl,rfl,Bm.EI g (C J),EF,rfl,_,rfl,Ez ?_⟩;refine⟨_,rfl,a2,_,rfl,.inl (.inl ((C J).rd _ _ Y)),k.length,rfl,by lia,by lia,CZ (lo:=0) (n:=k.length) (fun i σ j=>∃(t:List V)(o3:Option V),σ=[some (.ref U),some (.ref a2),some (.ref D),o3,none]/\AG H j/\j D=some (.lst t)/\AQ G t (Ak.DN (O.take i) (ys.take i))/\t.length<=Ak.Dm (O.take i))
    ⟨[],none,rfl,J,f1,by simp only[List.take_zero,Ak.DN];exact .nil,Nat.zero_le _⟩ ?_ ?_⟩
   ·rintro i σ j hi ⟨t,o3,rfl,R,l,vw,ju⟩;have e0:(0:Int)+(i:Int)=(i:Int):=by lia
    rw[e0];obtain⟨x,jv⟩:∃x,ZZ[i]?=some x:=⟨_,rW (by lia)⟩;obtain⟨y,jx⟩:∃y,k[i]?=some y:=⟨_,rW hi⟩;obtain⟨tx,g1,vx⟩:=r1.get jv;obtain⟨ty,g2,vy⟩:=r2.get jx;obtain⟨b,L⟩:∃b,O[i]?=some b:=⟨_,rW (by lia)⟩;rw[List.getElem?_map,L]at g1;cases g1;have bm:=rZ L;obtain⟨fb,sb⟩:=sl.get L g2;obtain⟨z1,z2⟩:=Ak.GP L;have zd:=Ak.Ad bm;have zb:=Ak.Cz bm;refine⟨_,rfl,.inl ⟨rfl,_,Aq.of l⟩,_,rfl,U,_,1,_,rfl,rfl,Bm.EI g (C R),DK,BA,fun N hT=>⟨BA,fun pL hL=>?_⟩⟩;have s2:=(AG.new (o:=.tup [V.str "any"]) hT).trans (AG.new (o:=.lst [V.ref N]) hL);have f2:upd (upd j N (.tup [V.str "any"])) pL (.lst [V.ref N]) pL=some (.lst [V.ref N]):=AB;generalize upd (upd j N (.tup [V.str "any"])) pL (.lst [V.ref N])=H2 at s2 f2⊢;have jy:=R.trans s2;refine⟨_,rfl,a2,_,rfl,.inl (.inl ((C jy).rd _ _ Y)),pL,(k.length:Int),_,rfl,rfl,f2,by lia,by lia,Bd (by simp only[List.length_singleton];lia),fun pR hR=>?_⟩;have s3:=AG.new (o:=.lst (List.replicate (k.length:Int).toNat [V.ref N]).flatten) hR;have f3:upd H2 pR (.lst (List.replicate (k.length:Int).toNat [V.ref N]).flatten) pR=some (.lst (List.replicate (k.length:Int).toNat [V.ref N]).flatten):=AB;have lr:(List.replicate (k.length:Int).toNat [V.ref N]).flatten.length<=900:=by rw[len_rep];simp;lia
    generalize(List.replicate (k.length:Int).toNat [V.ref N]).flatten=rs at s3 f3 lr⊢;generalize upd H2 pR (.lst rs)=H3 at s3 f3⊢;have jz:=jy.trans s3;refine⟨a1,pR,ZZ,rs,rfl,rfl,(C jz).rd _ _ Z,.inl f3,Bd (by lia),fun pC hC=>?_⟩;obtain⟨H4,X,s4,f4⟩:=CA (o:=.lst (ZZ++rs)) hC;rw[X];clear X;have gg:=jz.trans s4;have M:=s4 _ _ (s3 _ _ (s2 _ _ l));refine⟨_,rfl,pC,_,_,x,rfl,rfl,Aq.of f4,Ao (by rw[List.getElem?_append_left (by lia)];exact jv),_,rfl,_,rfl,a2,_,_,y,rfl,rfl,.inl ((C gg).rd _ _ Y),Ao jx,G,x,y,b,ty,fb,rfl,C gg,vx,vy,Ak.Bi p b bm,by lia,sb,by lia,fun D7 Za H7 s7 n7 f7 v7 l7=>?_⟩;have Zb:=s7 _ _ M;exact⟨D,D7,_,_,rfl,rfl,Zb,f7,Bd (by lia),t++Za,_,rfl,fun b o e=>by rw[AH (fun z=>by rw[z,I]at e;cases e)];exact(gg.trans s7) _ _ e,AB,by rw[Ak.Jj L g2];exact vw.append v7,by rw[List.length_append];lia⟩
   ·rintro σ j ⟨t,o3,rfl,R,l,vw,ju⟩;rw[bg,List.take_length,ll,List.take_length]at vw;rw[bg,ll,List.take_length]at ju;refine⟨_,rfl,U,_,0,_,rfl,rfl,Bm.EI g (C R),EF,rfl,_,rfl,Bp ?_⟩;exact⟨_,rfl,q D t j R I l vw (by lia)⟩
  ·cases sm with
   |@tab _ _ ss _ as _ ys fs pm so e sl=>
   simp only[Ak.Ct]at p;simp only[Ak.deep]at Vg;simp only[Ak.wt]at bu q;simp only[Ak.free]at q;obtain⟨a1,gh,rfl,Z,dC,r1⟩:=hx.WT;obtain⟨a2,c,rfl,Y,bN,r2⟩:=hy.WT;have kl:c.length=ss.length:=by have:=congrArg List.length bN;simpa using this
   have pa:=Ci p.1 p.2.1 pm e;have cc:as.length=ss.length:=by have:=congrArg List.length e;simpa using this.symm
   have ll:=sl.len;have wp:=Ak.JZ pa;refine Bp ⟨by decide,fun D I=>?_⟩;obtain⟨H1,X,J,f1⟩:=CA (o:=.lst []) I;rw[X];clear X;dsimp only[BR];refine⟨_,rfl,U,_,0,_,rfl,rfl,Bm.EI g (C J),EF,rfl,_,rfl,Bp ?_⟩;refine⟨_,rfl,U,_,0,_,rfl,rfl,Bm.EI g (C J),EF,rfl,_,rfl,Ez ?_⟩;have b_:=(C J).rd _ _ Y;refine⟨a2,c,b_,fun oF Hf F=>⟨_,rfl,a2,oF,c,rfl,F.at_,?_⟩⟩;have Da:D≠a2:=fun z=>by
    rcases b_ with h|⟨o',h⟩<;>rw[<-z,f1]at h<;>cases h
   have gZ:Hf D=some (.lst []):=by rw[F.ne D Da];exact f1
   refine JG (fun i σ j=>∃(t:List V)(o4:Option V),σ=[some (.ref U),some (.ref a2),some (.ref D),none,o4]/\(∀b e,b≠D->Hf b=some e->j b=some e)/\j D=some (.lst t)/\AQ G t (Ak.DI ks O (ss.take i) (ys.take i))/\t.length<=Ak.Dm (as.take i))
    ⟨[],none,rfl,fun b e _ h=>h,gZ,by simp only[List.take_zero,Ak.DI];exact .nil,Nat.zero_le _⟩ (fun i σ j _ ⟨_,_,_,s,_⟩=>s _ _ (Ne.symm Da) F.at_) ?_ ?_
   ·rintro i key y σ j hy ⟨t,o4,rfl,R,l,vw,lw⟩;have kf:EH G Hf:=(C J).trans (.BP F);have kI:EH G j:=Qo kf (fun u r=>by rcases sG.rd _ _ r with h|⟨o',h⟩<;>rw[I]at h<;>cases h) R;obtain⟨ty,h1,h2⟩:=r2.get (show(c.map (·.2))[i]?=some y by rw[List.getElem?_map,hy];rfl);obtain⟨hi,ek⟩:=Gw bN hy;subst ek;have gj:ss[i]?=some (ss.getD i ""):=by rw[List.getD_eq_getElem?_getD,rW hi];rfl
    generalize ss.getD i ""=B at gj hy⊢;obtain⟨b,L⟩:∃b,as[i]?=some b:=⟨_,rW (by lia)⟩;have e3:lk ks O B=some b:=by
     have:=congrArg (fun z=>z[i]?) e;simp only[List.getElem?_map,gj,L]at this;exact rY this
    obtain⟨fb,sb⟩:=sl.get L h1;have bm:=pa.mem_iff.mp (rZ L);obtain⟨z1,z2⟩:=Ak.GP L;have zd:=Ak.Ad bm;have zb:=Ak.Cz bm;have gb:(c.map (·.1)).Nodup:=by rw[bN];exact List.pairwise_map.mpr ((pm.nodup_iff.mpr p.2.1).imp fun h e=>h (Sum.inr.inj e))
    have rd:Rd j a2 (.dK c):=.inr ⟨oF,R _ _ (Ne.symm Da) F.at_⟩;rcases Val.Fw dC r1 B with⟨x,tx,k1,k2,vx⟩|⟨_,k2⟩
    ·have e4:tx=b.pt:=by
      have:Pt.look ks (Ak.Gd O) B=(lk ks O B).map Ak.pt:=by rw[Ak.BG];exact MJ Ak.pt
      rw[this,e3]at k2;exact(rY k2).symm
     subst e4;refine⟨_,rfl,.inl ⟨rfl,_,Aq.of l⟩,_,rfl,U,_,1,_,rfl,rfl,Bm.EI g kI,DK,a1,rfl,.inl ⟨_,kI.rd _ _ Z⟩,_,rfl,BA,fun N hT=>⟨some x,.inl ⟨gh,Sum.inr B,(kI.rd _ _ Z).up ((AG.new hT) _),rfl,k1.symm⟩,?_⟩⟩;have sT:=AG.new (o:=.tup [V.str "any"]) hT;have M:=sT _ _ l;generalize upd j N (.tup [V.str "any"])=H4 at sT M⊢;have pH:=kI.trans (.of sT);refine⟨_,rfl,_,rfl,a2,y,rfl,.inl ⟨_,_,rd.up (sT _),rfl,(GN gb hy).symm⟩,G,x,y,b,ty,fb,rfl,pH,vx,h2,Ak.Bi p.2.2.2.2.2.2 b bm,by lia,sb,by lia,fun D7 Za H7 s7 n7 f7 v7 l7=>?_⟩;have Zb:=s7 _ _ M;exact⟨D,D7,_,_,rfl,rfl,Zb,f7,Bd (by lia),t++Za,_,rfl,fun b e h1 h2=>by rw[AH h1];exact s7 _ _ (sT _ _ (R b e h1 h2)),AB,by rw[Ak.Jk gj h1 e3];exact vw.append v7,by rw[List.length_append];lia⟩
    ·have:Pt.look ks (Ak.Gd O) B=(lk ks O B).map Ak.pt:=by rw[Ak.BG];exact MJ Ak.pt
     rw[this,e3]at k2;cases k2
   ·rintro σ j ⟨t,o4,rfl,R,l,vw,lw⟩;rw[kl,List.take_length,<-cc,<-ll,List.take_length]at vw;rw[kl,<-cc,List.take_length]at lw;refine⟨R _ _ (Ne.symm Da) F.at_,?_⟩;refine⟨_,rfl,q D t _ (fun b e h=>?_) I (by rw[CI Da];exact l) vw (by lia)⟩;by_cases L:b=a2
    ·subst L;rw[Ek];exact J _ _ h
    ·rw[CI L];refine R b e (fun z=>by rw[z,I]at h;cases h) ?_;rw[F.ne b L];exact J _ _ h
theorem Oi{f:Addr}{c:FuncData}(F:CD K "_law_free" "_law_free" Qz f c)(T:Txt mg)(b:Binds K c ["_law_asks_here","_law_doc_here"] [])(m:mg "_law_free"=some (.ref f)):∀n:Nat,Ac P w K mg base Bn n f c ["_law_asks_here","_law_doc_here"] (IZ n)
 |0=>FE (fun vs H Q E h=>by obtain⟨_,_,_,a,_,_,_,_,_,_,_,_,_,d,_⟩:=h;have:=Ak.CG a;omega)
 |n+1=>XC F T (Df.mk' F b m (Oi F T b m n))
theorem RC:AW ["_law_asks_here","_law_doc_here","_law_avoid","_law_free_here","_law_known","_law_one","_law_k"] ["_law_asks_here","_law_doc_here","_law_avoid"] (AJ P_):={}
theorem VX(F:CD K "_law_fresh" "_law_fresh" P_ f fd)(T:Txt mg)(u:Df P w K mg base "_law_justs" ["_law_asks_here"] 25 (GR 25))(c:Df P w K mg base "_law_leaves" ["_law_doc_here"] 25 (Dp 25))(L:Df P w K mg base "_law_free" ["_law_asks_here","_law_doc_here"] 25 (IZ 25)):Ac P w K mg base Bn 26 f fd ["_law_asks_here","_law_doc_here","_law_avoid"] OS:=by
 refine F.oq RC fun II A outer s H vs Q E hr h=>?_
 ·obtain⟨v,y,a,b,f0,l,ws,M,rfl,hv,hy,N,hz,sm,Vg,hl,U,hd,my,j_,Zs,pK,q⟩:=h;have nd:=RC.nd;have hu:=Az hr;refine⟨_,(AD (Af 3 nd (Bg L hr.mm (AA (pv 0) (AX (pv 1))))) (AD (Af 4 nd (Ah Be)) (AD (Mt (B_ (AM QX (Bg u hr.mm (AX (pv 0))) (pv 2))) (CY 5 nd) (AF (Bh (DZ PySem.F.plainAttrs_list PySem.F.slot_list_extend PySem.F.type_list_extend CO (pv 4) (AX (Bg c hr.mm (AX (pv 5)))))))) (AD (Mt (BL rfl T.range (AX (EM T.len (pv 3)))) (CY 6 nd) (AD (Aa (PW.pt (pw_or (Ar (AR (LC:BE _ _ (VA K)) rfl T.isinstance AO (AA (GV K (pv 3) (pv 6)) (AX (BY (AA (Ab (v:=.ty "list") rfl T.list Bw rfl) (AA (Ab (v:=.ty "dict") rfl T.dict Cd rfl) (AX (Ab (v:=.ty "bool") rfl T.bool PY rfl))))))))) (pw_or1 (CS (Ar (AR (LC:BE _ _ (VA K)) rfl T.isinstance AO (AA (GV K (pv 3) (pv 6)) (AX (BY (AA (Ab (v:=.ty "int") rfl T.int Tr rfl) (AX (Ab (v:=.ty "str") rfl T.str Ts rfl)))))))))))) (AF (AL C')) AN) (AF (Aa (PW.pt (pw_or (AU (Eg:ET _ _ (aS K false)) (GV K (pv 3) (pv 6)) (pv 4) rfl) (pw_or1 (AU (Eg:ET _ _ (aS K false)) (GV K (pv 3) (pv 6)) (DY (r:=YU K) QM (pv 3) Fh (Dv (pv 6))) rfl)))) (AF (AL C')) AN)))) (AF (AL C')))))),?_⟩;have hG:=Ak.Pj a N;have bj:=Ak.Ny a N;have bx:=Ak.QZ a N;obtain⟨dj,zj,pj⟩:=Ak.Qp a hG;have m_:=U.length;have nA:=Pt.CL M;have kr:=EH.of (AG.refl H);refine⟨_,rfl,_,rfl,H,v,y,a,b,f0,rfl,kr,hv,hy,hG,by lia,sm,by lia,fun G es H1 s1 n3 f3 v3 l3=>?_⟩;dsimp only[BR];obtain⟨g,eg,ng,hg⟩:=SG sm.free;have ng:=ng Zs;rw[eg]at v3;have pM:=OQ v3;subst pM;have lg:g.length<=800:=by rw[List.length_map]at l3;lia
  refine⟨by decide,fun D hD=>?_⟩;obtain⟨H2,X,s2,f2⟩:=CA (o:=.lst []) hD;rw[X];clear X;dsimp only[BR];have Y:=s1.trans s2;refine⟨_,rfl,H,v,a,rfl,.of Y,hv,hG,by lia,by lia,fun pJ eJ H3 s3 nJ fJ vJ lJ=>?_⟩;have s03:=Y.trans s3;refine⟨_,rfl,pJ,l,eJ,ws,rfl,rfl,.inl fJ,.inl (s03 _ _ hl),Bd (by lia),fun pC hC=>?_⟩;obtain⟨H4,X,s4,f4⟩:=CA (o:=.lst (eJ++ws)) hC;rw[X];clear X;have s14:=s2.trans (s3.trans s4);have pN:=s4 _ _ (s3 _ _ f2);have DC:pC≠D:=fun z=>by have:=s3 _ _ f2;rw[<-z,hC]at this;cases this
  have va:AQ H (eJ++ws) (a.BV++M):=vJ.append U;have da:Pt.Bl (a.BV++M):=Pt.GQ dj hd;have za:Pt.AI (a.BV++M)<=860:=by rw[Pt.Ce];lia
  have pa:Pt.AS (a.BV++M)<=25:=by rw[Pt.Es];lia
  have na:∀x∈g,Pt.int x∉Pt.EL (a.BV++M):=fun x O hm=>by
   obtain⟨d,hd,h⟩:=Pt.Ea.mp hm;exact pK x (hg x O) d (List.mem_append.mp hd) h
  generalize a.BV++M=al at va da za pa na;generalize eJ++ws=ew at va f4;have pO:=va.length;refine⟨pC,rfl,⟨_,Aq.of f4⟩,Cj (K:=K) (xs:=ew) (fun i I k=>∃(R:List V)(o5:Option V),I=[some v,some y,some (.ref l),some (.ref G),some (.ref D),o5,none]/\AG H1 k/\k pC=some (.lst ew)/\k D=some (.lst R)/\AQ H R (Pt.EL (al.take i))/\R.length<=Pt.AI (al.take i))
   ⟨[],none,rfl,s14,f4,pN,.nil,Nat.zero_le _⟩ (fun i I k _ ⟨_,_,_,_,h,_⟩=>Aq.of h) ?_ ?_⟩
  ·rintro i x I k O ⟨R,o5,rfl,J,pP,B,vw,lw⟩;obtain⟨t,ht,vx⟩:=va.get O;have m:=rZ ht;obtain⟨z1,z2⟩:=Pt.LG ht;have zd:=Pt.Ad m;have zb:=Pt.BX m;refine⟨_,rfl,.inl ⟨rfl,_,Aq.of B⟩,_,rfl,H,x,t,rfl,.of (s1.trans J),vx,Pt.Aw da t m,by lia,by lia,fun D7 Za H7 s7 n7 f7 v7 l7=>?_⟩;have Zb:=s7 _ _ B;exact⟨D,D7,_,_,rfl,rfl,Zb,f7,Bd (by lia),R++Za,_,rfl,fun b o e=>by rw[AH (fun z=>by rw[z,hD]at e;cases e)];exact(J.trans s7) _ _ e,by rw[AH DC];exact s7 _ _ pP,AB,by rw[Pt.LF ht];exact vw.append v7,by rw[List.length_append];lia⟩
  rintro I H5 ⟨R,o5,rfl,s5,rH,pQ,vw,lw⟩;rw[pO,List.take_length]at vw lw;obtain⟨fk,nk⟩:=Qq vw (Pt.Et al da);have Z:=s5 _ _ f3;refine⟨_,rfl,G,_,rfl,.inl (Aq.of Z),(g.map V.int).length,rfl,by rw[List.length_map];lia,by rw[List.length_map];lia,CZ (lo:=0) (n:=(g.map V.int).length) (fun i I k=>∃(o6:Option V),I=[some v,some y,some (.ref l),some (.ref G),some (.ref D),o5,o6]/\AG H5 k) ⟨none,rfl,AG.refl _⟩ ?_ ?_⟩
  ·rintro i I k hi ⟨o6,rfl,J⟩;rw[List.length_map]at hi;have e0:(0:Int)+(i:Int)=(i:Int):=by lia
   rw[e0];obtain⟨x,O⟩:∃x,g[i]?=some x:=⟨_,rW hi⟩;have C:(g.map V.int)[i]?=some (.int x):=by rw[List.getElem?_map,O];rfl
   have xm:=rZ O;have p:=J _ _ Z;have B:=J _ _ pQ;dsimp only[BR];refine⟨_,rfl,_,rfl,G,_,_,_,rfl,rfl,Aq.of p,Ao C,Bd (by decide),fun pX hX=>?_⟩;have sX:=AG.new (o:=.tup [V.ty "list",V.ty "dict",V.ty "bool"]) hX;refine⟨_,pX,"int",["list","dict","bool"],false,rfl,AB,.int x,by kernel_rfl,_,rfl,Ay ?_⟩;generalize upd k pX (.tup [V.ty "list",V.ty "dict",V.ty "bool"])=H6 at sX⊢;refine⟨_,rfl,_,rfl,G,_,_,_,rfl,rfl,Aq.of (sX _ _ p),Ao C,Bd (by decide),fun pY hY=>?_⟩;have S:=sX.trans (AG.new (o:=.tup [V.ty "int",V.ty "str"]) hY);refine⟨_,pY,"int",["int","str"],true,rfl,AB,.int x,by kernel_rfl,_,rfl,Ay ?_⟩;generalize upd H6 pY (.tup [V.ty "int",V.ty "str"])=H7 at S⊢;refine⟨_,rfl,_,rfl,G,_,_,_,rfl,rfl,Aq.of (S _ _ p),Ao C,_,rfl,D,R,rfl,.inl (Aq.of (S _ _ B)),rfl,fk,_,rfl,?_⟩;refine Cp (nk x (na x xm)) ?_;refine⟨_,rfl,_,rfl,G,_,_,_,rfl,rfl,Aq.of (S _ _ p),Ao C,_,rfl,_,rfl,_,rfl,G,_,rfl,Aq.of (S _ _ p),fun pZ hZ=>?_⟩;have sZ:=S.trans (AG.new (o:=.lst (Ld (g.map V.int) none (some (i:Int)))) hZ);refine⟨pZ,_,rfl,.inl (Aq.of AB),rfl,by rw[QQ,<-List.map_take];exact SH _,_,rfl,?_⟩;refine Cp ?_ ⟨_,rfl,J.trans sZ⟩;show Sg _ _=false;rw[QQ,<-List.map_take];refine ints_in fun hm=>?_;obtain⟨j,hj,e⟩:=List.getElem_of_mem hm;rw[List.getElem_take]at e;have jU:j<i:=by rw[List.length_take]at hj;lia
   have e2:=(rX O).2;have:=(List.getElem_inj ng).mp (e.trans e2.symm);lia
  ·rintro I k ⟨o6,rfl,J⟩;exact q k ((s1.trans s5).trans J)
theorem Oj:AW ["_law_thing","_law_least_here","_law_most"] ["_law_thing","_law_least_here","_law_most"] (AJ Mi):={}
theorem SY{k:FuncData}(F:CD K "_law_is_text" "_law_is_text" Mi f k)(T:Txt mg):Ac P w K mg base Bn 1 f k ["_law_thing","_law_least_here","_law_most"] Jo:=by
 refine F.oq Oj fun o A outer s H O Q E l h=>?_
 ·obtain⟨x,lo,a,rfl,p,t,j,u,q⟩:=h;have nd:=Oj.nd;have S:=Az l;refine⟨_,(AD (Aa (PW.pt (pw_or (CS (Ar (AR B' rfl T.isinstance AO (AA (pv 0) (AX (Ab (v:=.ty "str") rfl T.str Ts rfl)))))) (pw_or1 (CS (S' XP XP (pv 1) (AR Li rfl T.len PySem.boot_len (AX (pv 0))) (pv 2)))))) (AF (AL C')) AN) (AF (AL (Dt (To (BQ.LZ l)) (IK (fv:=[]) (fs:=[]) rfl (.of (by rfl)) (Yi (pv 0)) (fun C z B G=>IJ (AU LX (pv 0) Ae rfl)) (fun C z B G=>(pv 0))) (Ah Be) (AY _))))),?_⟩;have m:x.length<=sizeLine:=Nat.le_of_lt (Am (by lia));refine⟨_,rfl,_,"str","str",rfl,rfl,.str x,_,rfl,Ay ?_⟩;refine⟨_,rfl,_,rfl,x,rfl,m,_,_,rfl,rfl,_,rfl,?_⟩;have I:decide ((lo:Int)<=(x.length:Int))=true:=by simp;omega
  have J:decide ((x.length:Int)<=(a:Int))=true:=by simp;omega
  refine FC I ⟨_,rfl,_,_,rfl,rfl,_,rfl,?_⟩;rw[J];refine Ay ⟨.str x,rfl,x,rfl,?_⟩;have lt:∀i,i<x.cps.size->Sh (x.cps.getD i 0)=true:=fun i a=>by
   refine List.all_eq_true.mp j _ ?_;rw[Array.getD_eq_getD_getElem?,Array.getElem?_eq_getElem a];exact Array.mem_toList_iff.mpr (Array.getElem_mem a)
  refine Ei (n:=x.cps.size) (fun i=>.str ⟨#[x.cps.getD i 0]⟩) (fun i=>.str ⟨#[x.cps.getD i 0]⟩) (fun i=> !Sh (x.cps.getD i 0)) ?_ (fun i D g a b=>a) (fun i D g v U a b y=>?_) (fun D g b=>rfl) (fun i D g R a b r=>?_) (fun i D g R a b _ r=>⟨_,rfl,r⟩) (fun D b=>?_)
  ·exact m
  ·obtain⟨e,c,L,M⟩:=y;subst e M;have:x.cps.getD i 0=c:=by rw[Array.getD_eq_getD_getElem?,L];rfl
   exact⟨by rw[this],rfl⟩
  ·refine⟨_,rfl,_,_,rfl,rfl,_,rfl,?_⟩;rw[StrLaws.found_one];exact r
  ·have e:(List.range x.cps.size).filter (fun i=> !Sh (x.cps.getD i 0))=[]:=List.filter_eq_nil_iff.mpr fun i a=>by
    rw[lt i (List.mem_range.mp a)];simp
   rw[e];refine⟨Nat.zero_le _,fun N d=>⟨D,N,_,rfl,rfl,Aq.of ((AG.new d) _ _ AB),Aq.of AB,?_⟩⟩;exact q _ ((AG.new b).trans (AG.new d))
theorem Ol:AW ["_law_doc_here"] ["_law_doc_here"] (AJ Ib):={}
theorem Sa(F:CD K "_law_is_doc" "_law_is_doc" Ib f M)(T:Txt mg)(c:Df P w K mg base "_law_is_text" ["_law_thing","_law_least_here","_law_most"] 1 Jo)(d:Df P w K mg base "_law_is_doc" ["_law_doc_here"] n (GU n)):Ac P w K mg base Bn (n+1) f M ["_law_doc_here"] (GU (n+1)):=by
 refine F.oq Ol fun V A outer s H X Q E j h=>?_
 ·obtain⟨v,t,rfl,Y,b,e,l,p,q⟩:=h;have nd:=Ol.nd;have Z:=Az j;refine⟨_,(AD (Aa (Ar (AR (BO:BE _ _ (DE K)) rfl T.isinstance AO (AA (pv 0) (AX (Ab (v:=.ty "list") rfl T.list Bw rfl))))) (AF (AL (AR (Fp rfl) rfl T.all QT (AX (cmp [] [] (B_ (pv 0)) fun _ _ _ _=>(Bg d j.mm (AX (pv 0)))))))) AN) (AD (Aa (Ar (AR (BO:BE _ _ (DE K)) rfl T.isinstance AO (AA (pv 0) (AX (Ab (v:=.ty "dict") rfl T.dict Cd rfl))))) (AF (AL (AR (Fp rfl) rfl T.all QT (AX (Fu (cmp ["_law_doc_here"] [0] (Cv (pv 0)) fun _ _ _ _=>(Ie (Bg c j.mm (AA (pv 0) (AA AE (AX AE)))) (LV (Bg d j.mm (AX (SR Z (pv 1) (pv 0)))))))))))) AN) (AD (Aa (Ar (AR (BO:BE _ _ (DE K)) rfl T.isinstance AO (AA (pv 0) (AX (Ab (v:=.ty "str") rfl T.str Ts rfl))))) (AF (AL (Bg c j.mm (AA (pv 0) (AA AE (AX AE)))))) AN) (AF (AL (Ie (AR (BO:BE _ _ (DE K)) rfl T.isinstance AO (AA (pv 0) (AX (Ab (v:=.ty "int") rfl T.int Tr rfl)))) (LV (Sn (AR (BO:BE _ _ (DE K)) rfl T.isinstance AO (AA (pv 0) (AX (Ab (v:=.ty "bool") rfl T.bool PY rfl)))))))))))),?_⟩;cases Y with
  |int i=>
   refine⟨_,rfl,_,"list","int",rfl,rfl,.n (.int i),_,rfl,Ay ⟨_,rfl,_,"dict","int",rfl,rfl,.n (.int i),_,rfl,Ay ⟨_,rfl,_,"str","int",rfl,rfl,.n (.int i),_,rfl,Ay ?_⟩⟩⟩;refine⟨_,rfl,_,"int","int",rfl,rfl,.n (.int i),?_⟩;exact⟨_,rfl,Bk ⟨_,rfl,_,"bool","int",rfl,rfl,.n (.int i),_,rfl,q H (AG.refl H)⟩⟩
  |str x=>
   refine⟨_,rfl,_,"list","str",rfl,rfl,.n (.str x),_,rfl,Ay ⟨_,rfl,_,"dict","str",rfl,rfl,.n (.str x),_,rfl,Ay ⟨_,rfl,_,"str","str",rfl,rfl,.n (.str x),_,rfl,Bk ?_⟩⟩⟩;have z:KP x=true:=e;have tl:=Tt z;refine⟨_,rfl,x,0,12,rfl,Nat.zero_le _,tl,?_,by decide,q⟩;unfold KP at z;rw[Bool.and_eq_true]at z;exact z.2
  |bl i=>simp[Pt.doc]at b
  |Ai=>simp[Pt.doc]at b
  |tup _ _=>simp[Pt.doc]at b
  |@lst a X g h r=>
   simp only[Pt.doc]at b;simp only[Pt.txt]at e;simp only[Pt.deep]at p;simp only[Pt.size]at l;have lv:=r.length;have lt:=Pt.CL g;refine⟨_,rfl,_,"list","list",rfl,rfl,.n (.lst h),_,rfl,Bk ⟨_,rfl,a,rfl,⟨_,.inl h⟩,?_⟩⟩;refine LI (fun _=>.bl true) h r (An (by lia)) (fun i x t B R N C G u k=>?_) (fun D B hD u I=>?_)
   ·have m:=rZ C;have d1:=Pt.Ad m;have z1:=Pt.BX m;exact⟨_,rfl,x,t,rfl,G.up u,Pt.Aw b t m,Pt.JQ e t m,by lia,by lia,k⟩
   ·refine⟨D,g.map fun _=>true,rfl,Aq.of (by rw[I,List.map_map];rfl),?_⟩;rw[show(g.map fun _=>true).all id=true by simp];exact q B u
  |@BI a kvs ks g h hk r=>
   simp only[Pt.doc]at b;simp only[Pt.txt]at e;simp only[Pt.deep]at p;simp only[Pt.size]at l;have lt:=Pt.CL g;refine⟨_,rfl,_,"list","dict",rfl,rfl,.n (.dK h),_,rfl,Ay ⟨_,rfl,_,"dict","dict",rfl,rfl,.n (.dK h),_,rfl,Bk ?_⟩⟩;refine⟨a,kvs,h,fun o Hf F=>⟨_,rfl,a,o,kvs,rfl,F.at_,?_⟩⟩;refine Jm (fun _=>.bl true) F hk r b.2.1 (An (by lia)) (fun i k x t B R J C N G kp k2=>?_) (fun D B hD u L I=>?_)
   ·have m:=rZ C;have d1:=Pt.Ad m;have z1:=Pt.BX m;have nb:=b.2.2.1 k (rZ J);obtain⟨O,S,n3⟩:=RY nb;rw[FQ]at O S;refine⟨_,rfl,k,1,8,rfl,O,S,n3,by decide,fun H3 U=>?_⟩;have y:=kp.trans (.of U);refine⟨_,rfl,Bk ?_⟩;exact⟨_,rfl,_,rfl,a,x,rfl,.inl ⟨kvs,Sum.inr k,y.rd _ _ h,rfl,N.symm⟩,x,t,rfl,G.EI y,Pt.Aw b.2.2.2.2 t m,Pt.JQ e t m,by lia,by lia,fun H4 s4=>k2 H4 (U.trans s4)⟩
   ·refine⟨L,D,g.map fun _=>true,rfl,Aq.of (by rw[I,List.map_map];rfl),?_⟩;rw[show(g.map fun _=>true).all id=true by simp];exact q _ u
theorem J_{f:Addr}{d:FuncData}(F:CD K "_law_is_doc" "_law_is_doc" Ib f d)(T:Txt mg)(b:Binds K d ["_law_doc_here"] [])(m:mg "_law_is_doc"=some (.ref f))(c:Df P w K mg base "_law_is_text" ["_law_thing","_law_least_here","_law_most"] 1 Jo):∀n:Nat,Ac P w K mg base Bn n f d ["_law_doc_here"] (GU n)
 |0=>FE (fun vs H Q E h=>by obtain⟨_,a,_,_,_,_,_,e,_⟩:=h;have:=Pt.CG a;omega)
 |n+1=>Sa F T c (Df.mk' F b m (J_ F T b m c n))
theorem RD:AW ["_law_asks_here","_law_avoid","_law_doc_here","_law_found"] ["_law_asks_here","_law_avoid"] (AJ P'):={}
theorem VY{O:Addr}(F:CD K "_law_right" "_law_right" P' f fd)(T:Txt mg)(c:Df P w K mg base "least_size" ["asks"] 9 OM)(i:Df P w K mg base "sample" ["asks","avoid"] 11 (VD O Xm Xn))(G:Df P w K mg base "_law_ruin" ["_law_thing"] 50 (IW 50))(I:Df P w K mg base "_law_lets" ["_law_asks_here","_law_doc_here"] 50 (GG 50))(J:Df P w K mg base "_law_size" ["_law_doc_here"] 25 (Eu 25))(d:Df P w K mg base "_law_least" ["_law_asks_here"] 48 (GS 48))(u:Df P w K mg base "_law_fresh" ["_law_asks_here","_law_doc_here","_law_avoid"] 26 OS)(j:Df P w K mg base "_law_is_doc" ["_law_doc_here"] 27 (GU 27)):Ac P w K mg base Bn 52 f fd ["_law_asks_here","_law_avoid"] (LK O Xm Xn):=by
 refine F.oq RD fun II A outer s H vs Q E t h=>?_
 ·obtain⟨v,a,l,ws,ds,rfl,hv,k,hz,Vg,dD,hl,S,hd,U,j_,tab,q⟩:=h;have nd:=RD.nd;have hu:=Az t;refine⟨_,(AD (Af 2 nd (ZA (Bg i t.mm (AA (pv 0) (AX (pv 1)))))) (AD (Aa (PW.pt (pw_or (CS (Ar (Bg j t.mm (AX (pv 2))))) (pw_or (CS (Ar (Bg I t.mm (AA (pv 0) (AX (pv 2)))))) (pw_or1 (AU aE (Bg J t.mm (AX (pv 2))) (Bg d t.mm (AX (pv 0))) (AY _)))))) (AF (AL C')) AN) (AD (Aa (CS (Ar (Bg u t.mm (AA (pv 0) (AA (pv 2) (AX (pv 1))))))) (AF (AL C')) AN) (AD (Bh (Bg G t.mm (AX (pv 2)))) (AD (Af 3 nd (Bg c t.mm (AX (pv 0)))) (AF (AL (Ie (AR B' rfl T.isinstance AO (AA (pv 3) (AX (Ab (v:=.ty "int") rfl T.int Tr rfl)))) (Ie (Sn (AR B' rfl T.isinstance AO (AA (pv 3) (AX (Ab (v:=.ty "bool") rfl T.bool PY rfl))))) (LV (Dt Bc (pv 3) (Bg d t.mm (AX (pv 0))) (AY _)))))))))))),?_⟩;have V:=Ak.Pj a k;have bj:=Ak.Ny a k;have bx:=Ak.QZ a k;have sw:=Ak.MQ a;obtain⟨tx,hT⟩:=tab.IC;obtain⟨y,g⟩:∃y,y=Bo [O] H:=⟨_,rfl⟩;have gp:y O=none:=by rw[g];exact DF List.mem_cons_self
  have sj:AG y H:=fun b e h=>by rw[g]at h;exact(DG h).2
  have p:Val y v a.pt:=by rw[g];exact hv.Rx (Er hT)
  have pU:AQ y ws ds:=by rw[g];exact S.Rx (Er hT)
  have pW:y l=some (.lst ws):=by
   rw[g,Ag]
   ·exact hl
   ·exact fun m=>by rw[List.mem_singleton.mp m,hT]at hl;cases hl
  refine⟨_,rfl,_,rfl,v,a,l,ws,ds,rfl,hv,k,hz,hl,S,hd,U,tab,fun X L f C keep pd R sm nd no kf=>?_⟩;have pf:H O≠none:=by rw[hT];exact fun z=>nomatch z
  have kp:∀b o,b≠O->H b=some o->HQ H C b=some o:=fun b o n e=>by rw[IV e];exact keep b o n e
  have Y:AG y (HQ H C):=fun b o e=>kp b o (fun z=>by rw[z,gp]at e;cases e) (sj _ _ e);have Z:=pd.fj pf;have D:Vf (nw H C) (HQ H C):=.HQ;have kA:KF K (nw H C):=kf.nw;have kB:∀b x,H b=some x->nw H C b=none:=fun b x e=>D' e;generalize HQ H C=Hk at Y Z D kf kp⊢;generalize nw H C=Nw at R D kA kB⊢;dsimp only[BR];obtain⟨bd,bt,bz,bp,bl⟩:=sm.is V dD;refine⟨_,rfl,X,L,rfl,D.val R,bd,bt,by lia,by lia,fun H1 s1=>⟨_,rfl,Ay ?_⟩⟩;refine⟨_,rfl,_,rfl,v,X,a,L,rfl,p.up (Y.trans s1),(D.up s1).val R,V,bd,by lia,by lia,by lia,by lia,fun H2 s2=>⟨_,rfl,?_⟩⟩;rw[bl];have s02:=s1.trans s2;refine Ay ⟨_,rfl,X,L,rfl,(D.up s02).val R,bd,by lia,by lia,fun H3 s3=>?_⟩;have s03:=s02.trans s3;refine⟨_,rfl,v,a,rfl,p.up (Y.trans s03),V,by lia,by lia,by lia,fun H4 s4=>?_⟩;have M:=s03.trans s4;refine⟨rfl,_,rfl,?_⟩;refine Cp (by rw[bz];simp) ?_;have N:=Y.trans M;refine⟨_,rfl,_,rfl,_,rfl,v,X,a,L,f,l,ws,ds,rfl,p.up N,(D.up M).val R,k,hz,sm,by lia,N _ _ pW,pU.up N,hd,U,j_,nd,no,fun H5 s5=>⟨_,rfl,Ay ?_⟩⟩;have B:=M.trans s5;have hg:=Pt.OF L;refine⟨_,rfl,Nw,X,L,0,rfl,kA,R,Pt.Qd L bd,by lia,by lia,Wn.of (D.up B) _,fun HL wn fr=>?_⟩;have SL:AG y HL:=fr.out (Y.trans B) fun b x e=>kB b x (sj _ _ e);have ph:=(Z.up B).bQ fr (D.up B);refine⟨_,rfl,v,a,rfl,p.up SL,V,by lia,fun H6 s6=>?_⟩;dsimp only[BR];refine⟨_,rfl,_,"int","int",rfl,rfl,.int _,_,rfl,Bk ?_⟩;refine⟨_,rfl,_,"bool","int",rfl,rfl,.int _,_,rfl,_,rfl,Bk ?_⟩;refine⟨_,rfl,_,rfl,v,a,rfl,p.up (SL.trans s6),V,by lia,by lia,by lia,fun H7 s7=>?_⟩;have S7:=SL.trans (s6.trans s7);have r:=q H7 (fun z e n h=>S7 _ _ (by rw[g,Ag (fun m=>n (List.mem_singleton.mp m))];exact h)) (ph.up (s6.trans s7));refine⟨rfl,?_⟩;rw[decide_eq_true rfl];exact r
theorem RE:AW ["_law_asks_here","_law_cell_here","_law_names_here","_law_way","_law_number","_law_k","_law_more","_law_cells"] ["_law_asks_here","_law_cell_here","_law_names_here"] (AJ QA):={}
theorem VZ(F:CD K "_law_large" "_law_large" QA f fd)(T:Txt mg)(d:Df P w K mg base "_law_mix" ["_law_cell_here","_law_k"] 1 HK):Ac P w K mg base Bn 2 f fd ["_law_asks_here","_law_cell_here","_law_names_here"] OT:=by
 refine F.oq RE fun II A outer s H vs Q E hr h=>?_
 ·obtain⟨v,a0,c,nm,ys,rfl,hv,Ap,za,da,dD,hn,q⟩:=h;have nd:=RE.nd;have hu:=Az hr;refine⟨_,(AD (Af 3 nd (AM As (Bg d hr.mm (AA (pv 1) (AX AE))) AE)) (AD (Af 4 nd (Bg d hr.mm (AA (pv 1) (AX AE)))) (AD (Aa (AU Bc (pv 3) AE (AY _)) (AF (Mt (BL rfl T.range (AX (AM BU AE (AM As (pv 4) AE)))) (CY 5 nd) (AD (Af 6 nd (Dt Bc (AM As (AM Bq (Bg d hr.mm (AA (pv 1) (AX AE))) (GV K (@Ah _ _ _ _ (@AA _ _ _ _ _ (@AE _ _ _ _) (@AA _ _ _ _ _ (@AE _ _ _ _) (@AA _ _ _ _ _ (@AE _ _ _ _) (@AA _ _ _ _ _ (@AE _ _ _ _) (@AA _ _ _ _ _ (@AE _ _ _ _) (@AA _ _ _ _ _ (@AE _ _ _ _) (@AA _ _ _ _ _ (@AE _ _ _ _) (@AA _ _ _ _ _ (@AE _ _ _ _) (@AA _ _ _ _ _ (@AE _ _ _ _) (@AA _ _ _ _ _ (@AE _ _ _ _) Be rfl) rfl) rfl) rfl) rfl) rfl) rfl) rfl) rfl) rfl)) (pv 5))) AE) AE (AY _))) (AF (Aa (AU Bc (AM As (AM Bq (Bg d hr.mm (AA (pv 1) (AX AE))) (GV K (@Ah _ _ _ _ (@AA _ _ _ _ _ (@AE _ _ _ _) (@AA _ _ _ _ _ (@AE _ _ _ _) (@AA _ _ _ _ _ (@AE _ _ _ _) (@AA _ _ _ _ _ (@AE _ _ _ _) (@AA _ _ _ _ _ (@AE _ _ _ _) (@AA _ _ _ _ _ (@AE _ _ _ _) (@AA _ _ _ _ _ (@AE _ _ _ _) (@AA _ _ _ _ _ (@AE _ _ _ _) (@AA _ _ _ _ _ (@AE _ _ _ _) (@AA _ _ _ _ _ (@AE _ _ _ _) Be rfl) rfl) rfl) rfl) rfl) rfl) rfl) rfl) rfl) rfl)) (pv 5))) AE) AE (AY _)) (AF (Af 0 nd (BY (AA Ae (AA (Ah (AX (pv 0))) (AX (pv 6))))))) (AF (Af 0 nd (BY (AA Ae (AA (Ll (Fn (GV K (pv 2) (AM As (pv 5) AE)) (pv 0) Lk) rfl rfl (by simp) (by simp)) (AA (Ah Be) (AX (pv 6))))))))))))) AN) (AD (Aa (AU Bc (pv 3) AE (AY _)) (AD (FP (i:=7) (fv:=["_law_cell_here"]) (fs:=[1]) rfl (.of (by rfl)) nd rfl (Or.inl rfl) (BL rfl T.range (AX (AM BU AE (AM As (pv 4) AE)))) (fun _ _ _ _=>Lm) (fun C s0 H0 fp=>(GV K (Ah (AA (BY (AX Ae)) (AX (BY (AA Ae (AX (pv 0))))))) (AM As (AM Bq (Bg d hr.mm (AA (pv 1) (AX AE))) (AM BU (pv 0) AE)) AE)))) (AF (Af 0 nd (BY (AA Ae (AA (AM PL (pv 7) (Ah (AX (pv 0)))) (AX (Dt Bc (AM As (AM Bq (pv 4) AE) AE) AE (AY _))))))))) AN) (AF (AL (pv 0))))))),?_⟩;refine⟨_,rfl,c,6,rfl,by decide,fun r6 _ _=>⟨_,_,rfl,rfl,(by show(0:Int)<_;decide),?_⟩⟩;generalize r6 % 8=wy;refine⟨_,rfl,c,7,rfl,by decide,fun r _ _=>?_⟩;dsimp only[BR];refine UK (t:=Sq _ _ _) (fun σ' H1=>∃(w:V)(b:Ak)(I J:Option V),σ'=[some w,some (.int c),some (.ref nm),some (.int wy),some (.int r),I,J,none]/\AG H H1/\Val H1 w b.pt/\b.ok/\b.size<=75/\b.deep<=15/\b.Mp/\(wy≠0->b.size<=65/\b.deep<=5)) (fun σ' H1 ⟨w,b,I,J,es,s1,vb,M,bz,bd,N,bw⟩=>?_) (fun key=>?_);rotate_left
  ·refine⟨_,rfl,rfl,_,rfl,DD (fun h0=>?_) (fun h0=>key _ _ ⟨v,a0,none,none,rfl,AG.refl H,hv,Ap,by lia,by lia,dD,fun _=>⟨za,da⟩⟩)⟩;have pq:wy=0:=V.int.inj (of_decide_eq_true h0);have m5:=FD r (n:=5) (by decide);obtain⟨k5,pw⟩:∃k:Nat,6+r % 5=(k:Int):=⟨(6+r % 5).toNat,by lia⟩;have k10:k5<=10:=by lia
   refine⟨_,rfl,_,_,rfl,rfl,(by show(0:Int)<_;decide),_,_,rfl,rfl,?_⟩;rw[pw];refine⟨k5,rfl,by lia,by lia,CZ (lo:=0) (n:=k5) (fun i σ Hi=>∃(w:V)(b:Ak)(I J:Option V),σ=[some w,some (.int c),some (.ref nm),some (.int wy),some (.int r),I,J,none]/\AG H Hi/\Val Hi w b.pt/\b.ok/\b.size<=65+i/\b.deep<=5+i/\b.Mp) ⟨v,a0,none,none,rfl,AG.refl H,hv,Ap,by lia,by lia,dD⟩ ?_ ?_⟩
   ·rintro i σ Hi hi ⟨w,b,I,J,rfl,si,vb,M,bz,bd,N⟩;obtain⟨L,hL⟩:∃L:List V,L=[V.int 1,.int 2,.int 4,.int 8,.int 16,.int 32,.int 64,.int 128,.int 256,.int 512]:=⟨_,rfl⟩;obtain⟨v4,O,u⟩:=Fq (xs:=L) (i:=0+(i:Int)) (by lia) (by rw[hL];simp only[List.length_cons,List.length_nil];lia);have pz:∃m:Int,v4=.int m/\0<m/\m<1073741824:=by
     rw[hL]at u;simp only[List.mem_cons,List.not_mem_nil,or_false]at u;rcases u with rfl|rfl|rfl|rfl|rfl|rfl|rfl|rfl|rfl|rfl<;>exact⟨_,rfl,by decide,by decide⟩
    obtain⟨m,rfl,c_,dA⟩:=pz;rw[hL]at O;clear u hL;refine⟨_,rfl,c,8,rfl,by decide,fun r8 _ _=>⟨An (show 10<=1000 by decide),fun pl bD=>⟨_,rfl,pl,_,_,_,rfl,rfl,Aq.of AB,O,_,_,rfl,rfl,⟨c_,dA⟩,_,_,rfl,rfl,(by show(0:Int)<_;decide),rfl,?_⟩⟩⟩;have sl:=AG.new (o:=.lst [V.int 1,.int 2,.int 4,.int 8,.int 16,.int 32,.int 64,.int 128,.int 256,.int 512]) bD;generalize upd Hi pl (.lst [V.int 1,.int 2,.int 4,.int 8,.int 16,.int 32,.int 64,.int 128,.int 256,.int 512])=Hj at sl⊢;generalize decide (V.int (r8/m % 2)=V.int 1)=S;refine⟨_,rfl,c,9,rfl,by decide,fun r9 _ _=>⟨An (show 10<=1000 by decide),fun kC gq=>⟨_,rfl,kC,_,_,_,rfl,rfl,Aq.of AB,O,_,_,rfl,rfl,⟨c_,dA⟩,_,_,rfl,rfl,(by show(0:Int)<_;decide),rfl,_,rfl,?_⟩⟩⟩;have U:=AG.new (o:=.lst [V.int 1,.int 2,.int 4,.int 8,.int 16,.int 32,.int 64,.int 128,.int 256,.int 512]) gq;generalize upd Hj kC (.lst [V.int 1,.int 2,.int 4,.int 8,.int 16,.int 32,.int 64,.int 128,.int 256,.int 512])=Hk at U⊢;have sk:=(si.trans sl).trans U;have vk:=(vb.up sl).up U;refine DD (fun _=>?_) (fun _=>?_)
    ·refine⟨_,rfl,BA,fun g l=>⟨_,rfl,Qt,fun p2 p=>?_⟩⟩;have t1:=AG.new (o:=.lst [w]) l;have B:upd Hk g (.lst [w]) g=some (.lst [w]):=AB;generalize upd Hk g (.lst [w])=Hm at t1 B p⊢;have t2:=AG.new (o:=.tup [.str "row",.ref g,.bl S]) p;refine⟨.ref p2,.row [b] S,_,_,rfl,(sk.trans t1).trans t2,.tup (Bm.of AB) (.cons (.str _) (.cons (.lst (.inl (t2 _ _ B)) (.cons ((vk.up t1).up t2) .nil)) (.cons (.bl _) .nil))),⟨M,trivial⟩,?_,?_,⟨N,trivial⟩⟩
     ·simp only[Ak.size,Ak.AI];lia
     ·simp only[Ak.deep,Ak.AS];lia
    ·have m4:=FD (0+(i:Int)) (n:=4) (by decide);obtain⟨jj,bh⟩:∃j:Nat,(0+(i:Int)) % 4=(j:Int):=⟨((0+(i:Int)) % 4).toNat,by lia⟩;obtain⟨y,hy⟩:∃y,ys[jj]?=some y:=⟨_,rW (by rw[hn.len];lia)⟩;refine fun g l=>?_;have t1:=AG.new (o:=.dK []) l;refine⟨_,rfl,_,rfl,_,_,rfl,rfl,(by show(0:Int)<_;decide),nm,_,_,_,rfl,rfl,Aq.of ((sk.trans t1) _ _ hn.at_),by rw[bh];exact Ao (by rw[List.getElem?_map,hy];rfl),_,rfl,AB,[(Sum.inr y,w)],rfl,by simp,?_⟩;have m1:CC [] [((Sum.inr y:Key),w)]=[(Sum.inr y,w)]:=rfl;rw[m1];have kD:AG Hk (upd (upd Hk g (.dK [])) g (.dK [(Sum.inr y,w)])):=t1.put l;have B:upd (upd Hk g (.dK [])) g (.dK [(Sum.inr y,w)]) g=some (.dK [(Sum.inr y,w)]):=AB;generalize upd (upd Hk g (.dK [])) g (.dK [(Sum.inr y,w)])=Hm at kD B⊢;refine⟨Nat.zero_le _,fun p2 p=>?_⟩;obtain⟨Hn,e,t2,f2⟩:=CA (o:=.lst []) p;rw[e];clear e;refine⟨_,rfl,An (show 4<=1000 by decide),fun p3 X=>?_⟩;have t3:=AG.new (o:=.tup [.str "table",.ref g,.ref p2,.bl S]) X;have t12:=kD.trans t2;refine⟨.ref p3,.tab [y] [b] [] S,_,_,rfl,(sk.trans t12).trans t3,.tup (Bm.of AB) (.cons (.str _) (.cons (.BI (ks:=[y]) (.inl (t3 _ _ (t2 _ _ B))) rfl (.cons ((vk.up t12).up t3) .nil)) (.cons (.lst (.inl (t3 _ _ f2)) .nil) (.cons (.bl _) .nil)))),?_,?_,?_,⟨by simp,N,trivial⟩⟩
     ·simp only[Ak.ok];exact⟨rfl,by simp,fun k hk=>by rw[List.mem_singleton.mp hk];exact hn.nb _ (rZ hy),by simp,⟨by simp,.nil,rfl⟩,fun x hx=>(nomatch hx),M,trivial⟩
     ·simp only[Ak.size,Ak.AI];lia
     ·simp only[Ak.deep,Ak.AS];lia
   ·rintro σ Hi ⟨w,b,I,J,rfl,si,vb,M,bz,bd,N⟩;exact key _ _ ⟨w,b,I,J,rfl,si,vb,M,by lia,by lia,N,fun z=>absurd pq z⟩
  subst es;refine⟨_,rfl,rfl,_,rfl,DD (fun h1=>?_) (fun _=>⟨_,rfl,q w b H1 s1 vb M (by lia) bd N⟩)⟩;have rJ:wy=1:=V.int.inj (of_decide_eq_true h1);have bw:=bw (by lia);have m4:=FD r (n:=4) (by decide);obtain⟨n4,gs⟩:∃k:Nat,9+r % 4=(k:Int):=⟨(9+r % 4).toNat,by lia⟩;have n12:n4<=12:=by lia
  refine⟨_,rfl,_,_,rfl,rfl,(by show(0:Int)<_;decide),_,_,rfl,rfl,?_⟩;rw[gs];refine⟨n4,rfl,by lia,by lia,?_⟩;refine F_ none n4 (fun i=>.int (0+(i:Int))) (fun i Y Z=>∃G:List Ak,Y=Ak.Gd G/\Ak.Hv G/\Ak.AI G<=i/\Ak.AS G<=1/\Ak.KS G) (by lia) (fun D hD=>⟨[],rfl,trivial,by simp[Ak.AI],by simp[Ak.AS],trivial⟩) (fun i Y Z D ws bt hD iv=>iv) (fun l' z=>nomatch z) (fun i Y Z hi s iv=>hi) (fun i Y Z v H' hi s iv y=>⟨y.2,y.1⟩) (fun Y Z s iv=>Nat.le_refl _) (fun i Y Z R hi bt ⟨G,e1,e2,e3,e4,e5⟩ lu k=>?_) (fun D Z ws Y hD bt d2 lu vl ⟨G,e1,e2,e3,e4,e5⟩=>?_)
  ·refine⟨BA,fun q1 kE=>?_⟩;obtain⟨H3,e,t1,B⟩:=CA (o:=.tup [.str "any"]) kE;rw[e];clear e;refine⟨_,rfl,A',fun q2 kF=>?_⟩;obtain⟨H4,e,t2,f2⟩:=CA (o:=.tup [.str "just",.int (0+(i:Int))]) kF;rw[e];clear e;refine⟨A',fun q3 p_=>?_⟩;obtain⟨H5,e,t3,f3⟩:=CA (o:=.lst [.ref q1,.ref q2]) p_;rw[e];clear e;refine⟨_,rfl,c,8,rfl,by decide,fun r8 _ _=>?_⟩;have m2:=FD (r8/(0+(i:Int)+1)) (n:=2) (by decide);obtain⟨v2,fG,kH⟩:=Fq (xs:=[V.ref q1,V.ref q2]) (i:=r8/(0+(i:Int)+1) % 2) m2.1 m2.2;refine⟨_,rfl,_,_,rfl,rfl,_,_,rfl,rfl,⟨by lia,by lia⟩,_,_,rfl,rfl,(by show(0:Int)<_;decide),q3,_,_,_,rfl,rfl,Aq.of f3,fG,?_⟩;have tt:=(t1.trans t2).trans t3;have add:∀a:Ak,a.ok->a.size=1->a.deep=1->Val (nw Z H5) v2 a.pt->a.Mp->R v2 H5:=fun a h1 h2 h3 h4 h5=>k v2 a.pt H5 (.of tt) h4 ⟨G++[a],by rw[Ak.EA,e1];rfl,Ak.EB e2 (Ak.IS h1),by rw[Ak.A_,Ak.En];lia,by rw[Ak.Cy,Ak.Eo];lia,Ak.DM e5 ⟨h5,trivial⟩⟩;simp only[List.mem_cons,List.not_mem_nil,or_false]at kH;rcases kH with rfl|rfl
   ·exact add .any trivial rfl rfl (.tup (Bm.of (by rw[Ax kE];exact(t2.trans t3) _ _ B)) (.cons (.str _) .nil)) trivial
   ·exact add (.BC (.int (0+(i:Int)))) (by simp only[Ak.ok];exact⟨.one (.int _),trivial,by simp[Pt.size]⟩) rfl rfl (.tup (Bm.of (by rw[Ax (t1.free kF)];exact t3 _ _ f2)) (.cons (.str _) (.cons (.int _) .nil))) trivial
  ·subst e1;have s2:=bt.same;refine⟨_,rfl,_,rfl,BA,fun g l=>?_⟩;obtain⟨H3,e,t1,B⟩:=CA (o:=.lst [w]) l;rw[e];clear e;have rK:=vl.length;refine⟨D,g,_,_,rfl,rfl,t1 _ _ d2,B,An (by simp only[List.length_cons,List.length_nil];lia),fun p2 p=>?_⟩;obtain⟨H4,e,t2,f2⟩:=CA (o:=.lst (ws++[w])) p;rw[e];clear e;refine⟨_,rfl,_,_,rfl,rfl,⟨by decide,by decide⟩,_,_,rfl,rfl,(by show(0:Int)<_;decide),rfl,Qt,fun p3 X=>?_⟩;generalize decide (V.int (r/4 % 2)=V.int 1)=S;have t3:=AG.new (o:=.tup [.str "row",.ref p2,.bl S]) X;have tt:=(t1.trans t2).trans t3;refine⟨_,rfl,q (.ref p3) (.row (G++[b]) S) _ ((s1.trans s2).trans tt) (.tup (Bm.of AB) (.cons (.str _) (.cons (.lst (.inl (t3 _ _ f2)) ?_) (.cons (.bl _) .nil)))) (Ak.EB e2 (Ak.IS M)) ?_ ?_ (Ak.DM e5 ⟨N,trivial⟩)⟩
   ·rw[Ak.EA];exact((vl.up MK).up tt).snoc ((vb.up s2).up tt)
   ·simp only[Ak.size];rw[Ak.A_,Ak.En];lia
   ·simp only[Ak.deep];rw[Ak.Cy,Ak.Eo];lia
theorem Xy:AW ["_law_script","_law_names_here","_law_drawn","_law_asks_here","_law_cell_here","_law_avoid","_law_kept","_law_turn"] ["_law_script"] (AJ Mj):={}
theorem Zc{TM:Addr}(F:CD K "law" "law" Mj f fd)(T:Txt mg)(j:Df P w K mg base "_law_cell" ["_law_script","_law_k"] 1 (Tu K))(M:Df P w K mg base "_law_mix" ["_law_cell_here","_law_k"] 1 HK)(Y:Df P w K mg base "_law_names" ["_law_cell_here"] 2 Nq)(ZY:Df P w K mg base "_law_doc" ["_law_cell_here","_law_k","_law_names_here"] 2 MM)(cA:Df P w K mg base "_law_copy" ["_law_thing"] 50 (IQ 50))(cB:Df P w K mg base "_law_asks" ["_law_cells","_law_deep","_law_names_here"] 10 (MN 10))(p:Df P w K mg base "_law_right" ["_law_asks_here","_law_avoid"] 52 (LK TM Xm Xn))(Z:Df P w K mg base "_law_large" ["_law_asks_here","_law_cell_here","_law_names_here"] 2 OT):Ac P w K mg base Bn 80 f fd ["_law_script"] (Js K TM):=by
 refine F.oq Xy fun II A outer s H vs Q E g h=>?_
 ·obtain⟨a,ns,rfl,hS,hlen,hT,q⟩:=h;have nd:=Xy.nd;have hu:=Az g;refine⟨_,(AD (ER (i:=1) nd rfl (Or.inr rfl) (Bg Y g.mm (AX (Bg j g.mm (AA (pv 0) (AX AE)))))) (AD (Af 2 nd (Bg cB g.mm (AA (cmp ["_law_script"] [0] (BL rfl T.range (AX AE)) fun _ _ _ _=>(Bg j g.mm (AA (pv 1) (AX (AM BU AE (pv 0)))))) (AA AE (AX (pv 1)))))) (AD (Af 3 nd (Bg Z g.mm (AA (pv 2) (AA (Bg j g.mm (AA (pv 0) (AX AE))) (AX (pv 1)))))) (AD (ER (i:=4) nd rfl (Or.inr rfl) (Bg j g.mm (AA (pv 0) (AX AE)))) (AD (FP (i:=5) (fv:=["_law_cell_here","_law_names_here"]) (fs:=[4,1]) rfl (.of (by rfl)) nd rfl (Or.inl rfl) (BL rfl T.range (AX (AM As (Bg M g.mm (AA (pv 4) (AX AE))) AE))) (fun _ _ _ _=>Lm) (fun C s0 H0 fp=>(Bg ZY g.mm (AA (pv 1) (AA (AM BU AE (pv 0)) (AX (pv 2))))))) (AD (Aa (AU Bc (AM As (AM Bq (Bg M g.mm (AA (pv 4) (AX AE))) AE) AE) AE (AY _)) (AF (Bh (DZ PySem.F.plainAttrs_list PySem.F.slot_list_append PySem.F.type_list_append Dd (pv 5) (AX (CN (FF rfl) rfl T.list Bw (AX (NY rfl T.range (AX (AM As (Bg M g.mm (AA (pv 4) (AX AE))) AE))))))))) AN) (AD (Af 6 nd (Bg cA g.mm (AX (BY (AA (pv 3) (AX (pv 5))))))) (AD (Mt (BL rfl T.range (AX AE)) (CY 7 nd) (AF (Aa (PW.pt (pw_or (CS (Ar (Bg p g.mm (AA (pv 3) (AX (pv 5)))))) (pw_or1 (CS (Ar (Bg p g.mm (AA (BY (AA Ae (AA (Ah (AA (BY (AX Ae)) (AX (pv 3)))) (AX C')))) (AX (pv 5))))))))) (AF (AL C')) AN))) (AF (AL (Ie (Bg p g.mm (AA (pv 3) (AX (Ah Be)))) (LV (Dt (Uq (BQ.units g):ET _ _ Y') (BY (AA (pv 3) (AX (pv 5)))) (pv 6) (AY _)))))))))))))),?_⟩;refine⟨_,rfl,a,ns,0,rfl,hS,fun c0 _=>⟨c0,rfl,fun nm ys H1 s1 nn hn=>?_⟩⟩;refine⟨16,rfl,by decide,by decide,CU (n:=16) (fun i=>.int (0+(i:Int))) (fun _ v=>∃z:Int,v=.int z) (by decide) (fun i U hi s2=>hi) (fun i U v H' hi s2 y=>⟨y.2,y.1⟩) (fun U s2=>Nat.le_refl _) (fun i U R hi s2 r=>⟨_,rfl,_,rfl,_,_,rfl,rfl,a,ns,2+i,(by show[V.ref a,V.int (2+(0+(i:Int)))]=_;simp),(s1.trans s2).seq hS,fun c _=>r _ U (AG.refl _) ⟨c,rfl⟩⟩) (fun D1 U ZZ gw s2 d1 gL qA=>?_)⟩;obtain⟨qB,rfl⟩:=ints_of qA;rw[List.length_map]at gL;have qC:nm≠D1:=fun z=>by rw[<-z,hn.at_]at gw;cases gw
  refine⟨_,rfl,D1,4,nm,qB,ys,rfl,by decide,d1,by lia,qC,hn.up s2,fun v1 a1 qD H3 qE rL rM v3 qF rN rO qG=>?_⟩;have s13:AG H1 H3:=qE.over s2 gw;have S3:=s1.trans s13;have V1:Val H3 v1 a1.pt:=v3.up MK;refine⟨_,rfl,_,rfl,a,ns,0,rfl,S3.seq hS,fun c1 _=>⟨_,rfl,v1,a1,c1,nm,ys,rfl,V1,qF,by lia,by lia,qG,hn.up s13,fun w b H4 s4 vb bo bz bd bf=>?_⟩⟩;have bG:=Ak.Pj b bo;have bw:=Ak.Ny b bo;have rP:=Ak.QZ b bo;have S4:=S3.trans s4;have gs:=(hn.up s13).up s4;clear V1 v3;refine⟨_,rfl,a,ns,1,rfl,S4.seq hS,fun c4 _=>?_⟩;dsimp only[BR];refine⟨_,rfl,c4,0,rfl,by decide,fun r0 g0 g1=>?_⟩;obtain⟨k4,gQ⟩:∃k:Nat,r0 % 4=(k:Int):=⟨(r0 % 4).toNat,by lia⟩;have rQ:k4<=3:=by lia
  refine⟨r0,4,rfl,rfl,by decide,?_⟩;rw[gQ];refine⟨k4,rfl,by lia,by lia,?_⟩;refine SJ none k4 (fun i=>.int (0+(i:Int))) (fun i N H5=>∀u∈N,u.doc/\u.size<=4/\u.deep<=2) (by lia) (fun D hD u hu=>nomatch hu) (fun i N U D ws s hD iv=>iv) (fun l z=>nomatch z) (fun i N U hi s iv=>hi) (fun i N U v H' hi s iv y=>⟨y.2,y.1⟩) (fun N U s iv=>Nat.le_refl _) (fun i N U R hi s iv lu k=>?_) (fun I H5 ws N qH s5 d5 rR v5 dE=>?_)
  ·refine⟨_,rfl,_,rfl,_,_,rfl,rfl,_,rfl,c4,1+i,nm,ys,(by show[V.int c4,V.int (1+(0+(i:Int))),V.ref nm]=_;simp),by lia,gs.up s.same,fun v t H' s' sm=>?_⟩;refine k v t H' (.of s') sm.val fun u hu=>?_;rcases List.mem_append.mp hu with h|h
   ·exact iv u h
   ·rw[List.mem_singleton.mp h];exact⟨sm.doc,sm.size,sm.deep⟩
  have s45:AG H4 H5:=s5.same;have rS:=v5.length;have z5:=Pt.DO (n:=4) fun d hd=>(dE d hd).2.1;have kK:Pt.Bl N:=Pt.Dz fun d hd=>(dE d hd).1;have p5:Pt.AS N<=2:=Pt.Ec fun d hd=>(dE d hd).2.2;clear dE;dsimp only;refine UK (t:=Sq _ _ _) (fun σ' H6=>∃(B:List V)(G:List Pt),σ'=[some (.ref a),some (.ref nm),some v1,some w,some (.int c4),some (.ref I),none,none]/\AG H4 H6/\H6 I=some (.lst B)/\AQ H6 B G/\Pt.Bl G/\Pt.AI G<=60/\Pt.AS G<=20) (fun σ' H6 ⟨B,G,es,s6,d6,v6,gx,z6,p6⟩=>?_) (fun key=>?_);rotate_left
  ·refine⟨_,rfl,c4,0,rfl,by decide,fun r1 _ _=>⟨_,_,rfl,rfl,⟨by decide,by decide⟩,_,_,rfl,rfl,(by show(0:Int)<_;decide),rfl,_,rfl,DD (fun _=>?_) (fun _=>?_)⟩⟩
   ·refine⟨_,rfl,.inl ⟨rfl,_,Aq.of d5⟩,_,rfl,c4,5,rfl,by decide,fun r2 g2 _=>⟨_,_,rfl,rfl,(by show(0:Int)<_;decide),_,rfl,fun r g=>?_⟩⟩;obtain⟨n,hn⟩:∃n:Nat,r2 % 20=(n:Int):=⟨(r2 % 20).toNat,by lia⟩;have qI:n<=19:=by lia
    refine⟨r,n,rfl,by rw[AB,hn],by lia,fun L hL=>?_⟩;have sr:=(AG.new (o:=.Va 0 (r2 % 20)) g).trans (AG.new (o:=.lst ((List.range n).map fun(i:Nat)=>V.int (i:Int))) hL);have fL:upd (upd H5 r (.Va 0 (r2 % 20))) L (.lst ((List.range n).map fun(i:Nat)=>V.int (i:Int))) L=some (.lst ((List.range n).map fun(i:Nat)=>V.int (i:Int))):=AB;have kL:H5 L=none:=(AG.new g).free hL;generalize upd (upd H5 r (.Va 0 (r2 % 20))) L (.lst ((List.range n).map fun(i:Nat)=>V.int (i:Int)))=H6 at sr fL⊢;have LD:L≠I:=fun z=>by rw[z,d5]at kL;cases kL
    refine⟨I,ws,_,rfl,rfl,sr _ _ d5,Am (by lia),key _ _ ⟨ws++[.ref L],N++[.lst ((List.range n).map fun(i:Nat)=>Pt.int (i:Int))],rfl,fun b e h=>?_,AB,?_,?_,?_,?_⟩⟩
    ·rw[AH (fun z=>by rw[z,qH]at h;cases h)];exact sr _ _ (s45 _ _ h)
    ·have vn:∀(X:Hp)(l:List Nat),AQ X (l.map fun(i:Nat)=>V.int (i:Int)) (l.map fun(i:Nat)=>Pt.int (i:Int)):=fun X l=>by
      induction l with
      |nil=>exact .nil
      |cons x r ih=>exact .cons (.int _) ih
     refine(v5.up fun b e h=>?_).append (.cons (.lst (.inl (by rw[AH LD];exact fL)) (vn _ _)) .nil);cases hb:upd H4 I (.lst []) b with
     |some z=>rw[D' hb]at h;cases h
     |none=>
      rw[Ax hb]at h;rw[AH (Bx hb).1];exact sr _ _ h
    ·refine Pt.GQ kK ⟨?_,trivial⟩;exact Pt.Dz fun x hx=>by obtain⟨i,_,rfl⟩:=List.mem_map.mp hx;trivial
    ·have:=Pt.DO (n:=1) (l:=(List.range n).map fun(i:Nat)=>Pt.int (i:Int)) fun x hx=>by obtain⟨i,_,rfl⟩:=List.mem_map.mp hx;exact Nat.le_refl _
     rw[List.length_map,List.length_range]at this;rw[Pt.Ce];simp only[Pt.AI,Pt.size];lia
    ·have:=Pt.Ec (n:=1) (l:=(List.range n).map fun(i:Nat)=>Pt.int (i:Int)) fun x hx=>by obtain⟨i,_,rfl⟩:=List.mem_map.mp hx;exact Nat.le_refl _
     rw[Pt.Es];simp only[Pt.AS,Pt.deep];lia
   ·refine key _ _ ⟨ws,N,rfl,s45,d5,v5.up MK,kK,by lia,by lia⟩
  subst es;have S6:=S4.trans s6;have kM:=vb.up s6;refine⟨_,rfl,_,rfl,A',fun pT qJ=>?_⟩;obtain⟨HE,eH,tT,fT⟩:=CA (o:=.tup [w,.ref I]) qJ;rw[eH];clear eH;have rT:=Ak.Xh b;have nb:=Ak.Nz b bG (by lia);have nK:(Pt.tup [b.pt,.lst G]).nice:=by
   simp only[Pt.nice,Pt.Cu];exact⟨by simp,nb,Pt.JW (.lst G) gx (by simp only[Pt.size];lia),trivial⟩
  have dK:(Pt.tup [b.pt,.lst G]).deep<=40:=by simp only[Pt.deep,Pt.AS];lia
  have eK:=Pt.GD _ (Pt.Up _ nK);refine⟨.ref pT,.tup [b.pt,.lst G],rfl,.tup (Bm.of fT) (.cons (kM.up tT) (.cons (.lst (.inl (tT _ _ d6)) (v6.up tT)) .nil)),nK,by lia,fun wK HF sF vK=>?_⟩;have qK:=vK.up MK;have SF:=tT.trans sF;have qL:=kM.up SF;have dF:=SF _ _ d6;have vF:=v6.up SF;have O:HF TM=some (.IC #[]):=SF _ _ (S6 _ _ hT);clear vK;dsimp only[BR];obtain⟨S,J⟩:∃S,S=Bo [TM] HF:=⟨_,rfl⟩;have gp:S TM=none:=by rw[J];exact DF List.mem_cons_self
  have sj:AG S HF:=fun b e h=>by rw[J]at h;exact(DG h).2
  have dG:Val S w b.pt:=by rw[J];exact qL.Rx (Er O)
  have qM:Val S wK (.tup [b.pt,.lst G]):=by rw[J];exact qK.Rx (Er O)
  have vk:AQ S B G:=by rw[J];exact vF.Rx (Er O)
  have dk:S I=some (.lst B):=by
   rw[J,Ag]
   ·exact dF
   ·exact fun m=>by rw[List.mem_singleton.mp m,O]at dF;cases dF
  have gy:∀{Ha Hb:Hp},AG S Ha->(∀z e,z≠TM->Ha z=some e->Hb z=some e)->AG S Hb:=fun{Ha Hb} s k b e h=>k b e (fun z=>by rw[z,gp]at h;cases h) (s _ _ h);refine⟨2,rfl,by decide,by decide,CZ (lo:=0) (n:=2) (fun i σ Hi=>∃(o7:Option V),σ=[some (.ref a),some (.ref nm),some v1,some w,some (.int c4),some (.ref I),some wK,o7]/\AG S Hi/\DU Xm Xn TM Hi) ⟨none,rfl,sj,.new O⟩ ?_ ?_⟩
  ·rintro i σ Hi hi ⟨o7,rfl,si,g_⟩;dsimp only[BR];refine⟨_,rfl,_,rfl,w,b,I,B,G,rfl,dG.up si,bo,by lia,by lia,bf,si _ _ dk,vk.up si,gx,z6,p6,g_,fun H7 k7 qN=>⟨_,rfl,Ay ?_⟩⟩;have s7:=gy si k7;refine⟨BA,fun pA qO=>⟨_,rfl,A',fun pL qP=>⟨Qt,fun pR qQ=>?_⟩⟩⟩;have tA:=AG.new (o:=.tup [V.str "any"]) qO;have tL:=AG.new (o:=.lst [V.ref pA,w]) qP;have tR:=AG.new (o:=.tup [V.str "row",V.ref pL,V.bl true]) qQ;have fA:=tR _ _ (tL _ _ (AB (H:=H7) (a:=pA) (o:=.tup [V.str "any"])));have fL:=tR _ _ (AB (H:=upd H7 pA (.tup [V.str "any"])) (a:=pL) (o:=.lst [V.ref pA,w]));have fR:upd (upd (upd H7 pA (.tup [V.str "any"])) pL (.lst [V.ref pA,w])) pR (.tup [V.str "row",V.ref pL,V.bl true]) pR=some (.tup [V.str "row",V.ref pL,V.bl true]):=AB;have tX:=tA.trans (tL.trans tR);generalize upd (upd (upd H7 pA (.tup [V.str "any"])) pL (.lst [V.ref pA,w])) pR (.tup [V.str "row",V.ref pL,V.bl true])=HX at fA fL fR tX⊢;have sX:=s7.trans tX;refine⟨_,rfl,.ref pR,.row [.any,b] true,I,B,G,rfl,.tup (Bm.of fR) (.cons (.str _) (.cons (.lst (.inl fL) (.cons (.tup (Bm.of fA) (.cons (.str _) .nil)) (.cons (dG.up sX) .nil))) (.cons (.bl _) .nil))),⟨trivial,bo,trivial⟩,by simp only[Ak.size,Ak.AI];lia,by simp only[Ak.deep,Ak.AS];lia,⟨trivial,bf,trivial⟩,sX _ _ dk,vk.up sX,gx,z6,p6,qN.up tX,fun H8 k8 qR=>⟨_,rfl,Ay ?_⟩⟩;exact⟨_,rfl,gy sX k8,qR⟩
  rintro σ Hi ⟨o7,rfl,si,g_⟩;refine⟨_,rfl,Nat.zero_le _,fun pE qS=>?_⟩;obtain⟨H8,eH,sE,fE⟩:=CA (o:=.lst []) qS;rw[eH];clear eH;have s8:=si.trans sE;refine⟨w,b,pE,[],[],rfl,dG.up s8,bo,by lia,by lia,bf,fE,.nil,trivial,Nat.zero_le _,Nat.zero_le _,g_.up sE,fun H9 k9 rV=>⟨_,rfl,Bk ?_⟩⟩;have s9:=gy s8 k9;refine⟨_,rfl,_,rfl,A',fun pV qT=>?_⟩;have tV:=s9.trans (AG.new (o:=.tup [w,.ref I]) qT);have fV:upd H9 pV (.tup [w,.ref I]) pV=some (.tup [w,.ref I]):=AB;generalize upd H9 pV (.tup [w,.ref I])=HR at tV fV⊢;refine⟨_,rfl,.tup [b.pt,.lst G],.tup [b.pt,.lst G],.tup (Bm.of fV) (.cons (dG.up tV) (.cons (.lst (.inl (tV _ _ dk)) (vk.up tV)) .nil)),qM.up tV,(fun _ z=>nomatch z),.inr eK,by lia,?_⟩;rw[eK];exact q _
theorem Ga:AW ["self","docs"] ["self","docs"] (AJ CQ):={}
theorem Ka{e:FuncData}(F:CD K "__init__" "Leaves.__init__" CQ f e)(T:Txt mg)(a:Df P w K mg base "leaves_in" ["docs"] 5 Xl)(g:RN K C)(n:DQ K C "used")(p:DQ K C "number"):Ac P w K mg base Bn 6 f e ["self","docs"] (Qj C):=by
 refine F.oq Ga fun r A outer s H I Q E i h=>?_
 ·obtain⟨o,b,v,t,rfl,j,x,y,B,q⟩:=h;have nd:=Ga.nd;have k:=Az i;refine⟨_,(AD (PB (pv 0) (Bg a i.mm (AX (pv 1))) rfl) (AF (PB (pv 0) AE rfl))),?_⟩;have D:AG (Zm o H) H:=WV;refine⟨_,rfl,v,t,rfl,x.up D,y,B,fun u kvs J l c k lk G=>?_⟩;have d:=l _ _ j;refine⟨_,rfl,o,C,b,[],rfl,d,g,n,by decide,?_⟩;have m:u≠o:=fun z=>by rw[z,j]at c;cases c
  refine⟨_,rfl,o,C,b,_,rfl,AB,g,p,Nat.lt_of_le_of_lt (Cm _ _ _) (by decide),?_⟩;refine q u kvs _ (((Bz.of l).put (List.mem_singleton.mpr rfl)).put (List.mem_singleton.mpr rfl)) c ⟨⟨b,_,AB,rfl,rfl,rfl,Nat.le_trans (Cm _ _ _) (Nat.le_trans (Nat.succ_le_succ (Cm _ _ _)) (by decide))⟩,?_⟩ lk G;rw[AH m,AH m];exact k
theorem FH:AW ["self"] ["self"] (AJ CB):={}
theorem J'{v:FuncData}(F:CD K "fresh" "Leaves.fresh" CB f v)(T:Txt mg)(e:RN K C)(x:DQ K C "used")(j:DQ K C "number"):Ac P w K mg base Bn 1 f v ["self"] (Qk C):=by
 refine F.oq FH fun G A outer s H vs Q E I h=>?_
 ·obtain⟨o,u,N,kvs,rfl,y,J,q⟩:=h;have nd:=FH.nd;have B:=Az I;refine⟨_,(AD (Ff PassesOwn.never (Sl (Yb B (Gh (pv 0) (by rfl)) (Gh (pv 0) (by rfl)))) (AF (PB (pv 0) (AM BU (Gh (pv 0) (by rfl)) AE) rfl))) (AD (Fl B (Gh (pv 0) (by rfl)) (Gh (pv 0) (by rfl)) C' rfl) (AF (AL (Gh (pv 0) (by rfl)))))),?_⟩;have ne:=y.ne;dsimp only[KH];refine IL (fun m t p=>∃a,t=[some (.ref o)]/\Bz [o,u] H p/\Lv C p o u a kvs/\m=HU a kvs) (HU N kvs) ⟨N,rfl,.of (AG.refl _),y,rfl⟩ ?_ ?_
  ·rintro m t p ⟨a,rfl,D,⟨⟨c,fs,g,d,b,l,l1⟩,i⟩,rfl⟩;refine⟨_,rfl,o,C,c,fs,.int a,rfl,g,e,j,b,_,rfl,o,C,c,fs,.ref u,rfl,g,e,x,d,u,_,rfl,.inl ⟨kvs,Sum.inl a,.inl i,rfl,rfl⟩,_,rfl,?_⟩;refine DD (fun r=>?_) (fun r=>?_)
   ·refine⟨_,rfl,o,C,c,fs,.int a,rfl,g,e,j,b,_,_,rfl,rfl,_,rfl,o,C,c,fs,rfl,g,e,j,by omega,?_⟩;refine⟨_,Wr r,a+1,rfl,D.put List.mem_cons_self,⟨⟨c,_,AB,?_,?_,?_,?_⟩,?_⟩,rfl⟩
    ·rw[Ck,if_neg (by decide)];exact d
    ·rw[Ck,if_pos rfl]
    ·rw[Ck,if_neg (by decide)];exact l
    ·rw[ON b];exact l1
    ·rw[AH (Ne.symm ne)];exact i
   ·have L:Av kvs (Sum.inl a)=none:=by
     cases h:Av kvs (Sum.inl a)with
     |none=>rfl
     |some z=>rw[h]at r;cases r
    refine⟨_,rfl,o,C,c,fs,.ref u,rfl,g,e,x,d,_,rfl,o,C,c,fs,.int a,rfl,g,e,j,b,u,_,rfl,Lj.k (k:=Sum.inl a) i (Nat.lt_of_le_of_lt J (by decide)),?_⟩;have n:upd p u (.dK (putK kvs (Sum.inl a) (.bl true))) o=some (.ins C c fs):=by rw[AH ne];exact g
    exact⟨_,rfl,o,C,c,fs,.int a,rfl,n,e,j,b,q a _ L (D.put (List.mem_cons_of_mem _ (List.mem_singleton.mpr rfl))) ⟨⟨c,fs,n,d,b,l,l1⟩,AB⟩⟩
  ·rintro t H1 Q1 Q2 h ⟨M,O,a1,R,S,U,V,X,Y,Z,x4,x5,v2,e2,a2,C2,d2,f2,w2,y1,y2,y3,y4,y5,z1,z2,z3,z4,b1,z5,z6⟩;exact⟨M,O,a1,R,S,U,V,X,Y,Z,x4,x5,v2,e2,a2,C2,d2,f2,w2,y1,y2,y3,y4,y5,z1,z2,z3,z4,b1,z5,h _ _ z6⟩
end
end ZM
namespace ZM
open PySem L2
abbrev NZ(K:rg)(x:Str):Prop:=PySem.W.nsIn K mainGlobals x=some none
variable{P:List Value->Prop}
theorem ls{n:Nat}(h:∀a r,r.length=n->P (a::r)):∀us,us.length=n+1->P us:=fun us e=>by
 cases us with
 |nil=>cases e
 |cons a r=>exact h a r (Nat.succ.inj e)
theorem lz(h:P []):∀us,us.length=0->P us:=fun us e=>by
 cases us with
 |nil=>exact h
 |cons a r=>cases e
variable{mg:Str->Option Value}
theorem gn{K:rg}{h:Heap}{x:Str}{st:Stmt}(X:K.In h)(G:h.Ns mainGlobals mg)(A:FA K x st)(ps:List Str)(b:∀(kV doc pm:Value) (e:Option Addr) (d ct:Value) (us:List Value),us.length=ps.length->bindArgs (PySem.W.fnOf x x (CT st) (Br st) (AJ st) .none kV doc pm e d ct) ⟨us,[]⟩=pure (ps.zip us):=by intro _ _ _ _ _ _;(repeat refine ls fun _=>?_);exact lz rfl):∃f c,CD K x x st f c/\Binds K c ps []/\mg x=some (.ref f):=by
 obtain⟨f,c,F,a⟩:=A;exact⟨f,c,F,F.binds b,PySem.W.mg_of X G a⟩
theorem dk{P:Program}{w:World}{K:rg}{mg:Str->Option Value}{base:Heap}{x:Str}{st:Stmt}{n:Nat}{sp:Sp}{ps:List Str}(g:∃f a,CD K x x st f a/\Binds K a ps []/\mg x=some (.ref f))(ok:∀f a,CD K x x st f a->Binds K a ps []->mg x=some (.ref f)->Ac P w K mg base Bn n f a ps sp):Df P w K mg base x ps n sp:=by
 obtain⟨f,a,F,b,m⟩:=g;exact .mk' F b m (ok f a F b m)
variable{l:PySem.W.OpenLaw}
theorem all_mk{w:World}{K:rg}{h:Heap}{fa f16 f36:Addr}(X:K.In h)(G:h.Ns mainGlobals mg)(qU:mg "law"=some (.ref fa)){hE hJ hO cD:Option Addr}{hU hV:Array (Option Value)}{h_ iA iB iC R iD iE cE cF cG S cH:Value}(h1:FA K "gathered" Ew)(h2:FA K "folded" Mb)(h3:FA K "steps_of" GW)(h4:FA K "inner_of" Jt)(h5:FA K "size_of" Mc)(h6:FA K "outer_copy" Fc)(h7:FA K "copy_of" Md)(h8:FA K "holder_in" HH)(h9:FA K "inner_nodes" Ed)(h10:FA K "filled" Me)(h11:FA K "least_size" Fd)(h12:FA K "least_part" Fe)(h13:FA K "justs_in" Ju)(h14:FA K "leaves_in" HI)(h15:FA K "sample" Mf)(a16:PySem.W.nsIn K mainGlobals "sample_of"=some (some (.ref f16)))(l16:K.lookup f16=some ⟨h_,hE,.func (PySem.W.fnOf "sample_of" "sample_of" (CT Cf) (Br Cf) (AJ Cf) .none iA iB iC hJ R iD),hU⟩)(c16:PySem.W.codeIn K R "sample_of"=true)(k16:PySem.W.keepIn K (.ref f16)=true)(h17:FA K "sample_part" Ee)(h18:FA K "_law_cell" VJ)(h19:FA K "_law_mix" Wv)(h20:FA K "_law_names" Pz)(h21:FA K "_law_doc" ZN)(h22:FA K "_law_copy" Qu)(h23:FA K "_law_ruin" Qv)(h24:FA K "_law_asks" Qw)(h25:FA K "_law_lets" Qx)(h26:FA K "_law_justs" Mg)(h27:FA K "_law_leaves" GX)(h28:FA K "_law_size" Qy)(h29:FA K "_law_least" Mh)(h30:FA K "_law_free" Qz)(h31:FA K "_law_fresh" P_)(h32:FA K "_law_is_text" Mi)(h33:FA K "_law_is_doc" Ib)(h34:FA K "_law_right" P')(h35:FA K "_law_large" QA)(a36:PySem.W.nsIn K mainGlobals "law"=some (some (.ref f36)))(l36:K.lookup f36=some ⟨iE,hO,.func (PySem.W.fnOf "law" "law" (CT Mj) (Br Mj) (AJ Mj) .none cE cF cG cD S cH),hV⟩)(c36:PySem.W.codeIn K S "law"=true)(k36:PySem.W.keepIn K (.ref f36)=true)(z1:NZ K "isinstance")(z2:NZ K "int")(z3:NZ K "bool")(z4:NZ K "str")(z5:NZ K "list")(z6:NZ K "dict")(z7:NZ K "tuple")(z8:NZ K "len")(z9:NZ K "range")(z10:NZ K "max")(z11:NZ K "min")(z12:NZ K "sorted")(z13:NZ K "all")(z14:NZ K "any")(z15:NZ K "reversed")(z16:NZ K "ValueError")(z17:NZ K "sum"){d U V:Addr}{iF iG iH iI:Option Addr}{iJ iK:Array (Option Value)}{iL iM iN iO cI iP iQ iR iS iT cJ iU:Value}{K0:rg}{cM TM:Addr}{kN:Obj}(zZ:NZ K "zip")(iV:PySem.W.nsIn K mainGlobals "Leaves"=some (some (.ref d)))(iW:PySem.W.findIn K (.ref d) "__init__"=some (some (.ref U)))(dH:K.lookup U=some ⟨iL,iF,.func (PySem.W.fnOf "__init__" "Leaves.__init__" (CT CQ) (Br CQ) (AJ CQ) .none iM iN iO iG cI iP),iJ⟩)(iX:PySem.W.codeIn K cI "Leaves.__init__"=true)(qV:PySem.W.keepIn K (.ref U)=true)(iY:PySem.W.findIn K (.ref d) "fresh"=some (some (.ref V)))(dI:K.lookup V=some ⟨iQ,iH,.func (PySem.W.fnOf "fresh" "Leaves.fresh" (CT CB) (Br CB) (AJ CB) .none iR iS iT iI cJ iU),iK⟩)(iZ:PySem.W.codeIn K cJ "Leaves.fresh"=true)(kO:PySem.W.keepIn K (.ref V)=true)(xm:PySem.W.makesIn K d=true)(ia:PySem.W.isFn K (.ref U)=true)(ib:PySem.W.isFn K (.ref V)=true)(ie:PySem.W.keepIn K (.ref d)=true)(ig:PySem.W.plainGet K d Str.empty=true)(ij:PySem.W.hasDictIn K d=true)(ip:PySem.W.plainOver K d=true)(iq:PySem.W.findIn K (.ref d) "__setattr__"=some (some (.builtin "object.__setattr__")))(dJ:PySem.W.findIn K (.ref d) "used"=some none)(dM:PySem.W.findIn K (.ref d) "number"=some none)(ir:R=.ref cM)(tL:K0.lookup cM=some kN)(tO:tabOf kN=some TM)(tC:PySem.W.codeHdIn K cM TM=true)(tT:K0.lookup TM=some (PySem.W.tabObj #[]))
  :∃(fd:FuncData)(c T:Addr),K0.lookup T=some (PySem.W.tabObj #[])/\PySem.W.codeHdIn K c T=true/\(∀(s:Shared)(v:Value),BindsTo s fd ⟨[v],[]⟩ [("_law_script",v)])/\∀base:Heap,K.In base->base.Ns mainGlobals mg->BM mg base->Ac l.prog w K mg base Bn 80 fa fd ["_law_script"] (Js K T):=by
 haveI:Bb K:=⟨trivial⟩;have e:=qU.symm.trans (PySem.W.mg_of X G a36);cases e;have gm:=fun{x:Str}{v:Value}(a:PySem.W.nsIn K mainGlobals x=some (some v))=>PySem.W.mg_of X G a;have T:Txt mg:=by constructor<;>(apply PySem.W.mg_none_of X G;assumption)
 have g1:=gn X G h1 ["root","inner"];have g3:=gn X G h3 ["doc"];obtain⟨f4,d4,F4,b4,m4⟩:=gn X G h4 ["doc"];obtain⟨f9,d9,F9,b9,m9⟩:=gn X G h9 ["node"];obtain⟨f12,d12,kP,b12,m12⟩:=gn X G h12 ["asks","told"];have iu:=Ir (st:=Cf) l16 c16 k16;have b16:=iu.binds (ps:=["asks","leaves"]) fun _ _ _ _ _ _=>by(repeat refine ls fun _=>?_);exact lz rfl
 have m16:=gm a16;have qW:=Ir (st:=Mj) l36 c36 k36;have iw:=PySem.W.mg_none_of X G zZ;have mC:=PySem.W.mg_of X G iV;have cC:=(⟨ig,ij,ip,iq⟩:RN K d);have M:=(⟨xm,iW,ia,ie⟩:Mk K d U);have mF:=(⟨iY,ib,kO⟩:Meth K d "fresh" V);have kQ:=Ir (st:=CQ) dH iX qV;have kR:=Ir (st:=CB) dI iZ kO;have qX:=kQ.binds (ps:=["self","docs"]) fun _ _ _ _ _ _=>by(repeat refine ls fun _=>?_);exact lz rfl
 have bF:=kR.binds (ps:=["self"]) fun _ _ _ _ _ _=>by(repeat refine ls fun _=>?_);exact lz rfl
 refine⟨PySem.W.fnOf "law" "law" (CT Mj) (Br Mj) (AJ Mj) .none cE cF cG cD S cH,cM,TM,tT,tC,fun s v=>.of_eq rfl,fun base _ _ gH=>?_⟩;have kk:=@Df.mk' l.prog w K mg base;have dk:=@dk l.prog w K mg base;have GF:=J' (P:=l.prog) (w:=w) (base:=base) kR T cC dJ dM;have f:=dk g3 fun _ _ F b m=>Jv F T;have i:=dk g1 fun _ _ F b m=>KY F T F4.kp b4 (Jw F4 T f);have u:=dk (gn X G h14 ["docs"]) fun _ _ F b m=>Oa F T i m4;have qY:=Ka (P:=l.prog) (w:=w) (base:=base) kQ T u cC dJ dM;have Zd:=dk (gn X G h18 ["_law_script","_law_k"]) fun _ _ F b m=>Wx F T;have k:=dk (gn X G h19 ["_law_cell_here","_law_k"]) fun _ _ F b m=>Wy F T;have Y:=dk (gn X G h20 ["_law_cell_here"]) fun _ _ F b m=>VN F T k;have Z:=dk (gn X G h21 ["_law_cell_here","_law_k","_law_names_here"]) fun _ _ F b m=>ZX F T k;have Ze:=dk (gn X G h22 ["_law_thing"]) fun _ _ F b m=>Od F T b m 50;have Zf:=dk (gn X G h24 ["_law_cells","_law_deep","_law_names_here"]) fun _ _ F b m=>Of F T b m k Z 10;have n:=kk F4 b4 m4 (Jw F4 T f);have g:=dk (gn X G h8 ["node"]) fun _ _ F b m=>OY F T;have j:=dk g1 fun _ _ F b m=>OU F T F9.kp b9 (FG F9 T n g);have q:=dk (gn X G h2 ["root","inner","join"]) fun _ _ F b m=>SS F T j F9.kp b9 (FG F9 T n g);have C:=dk (gn X G h5 ["doc"]) fun _ _ F b m=>SU F T i m4;have r:=dk (gn X G h11 ["asks"]) fun _ _ F b m=>Mn F T q m9 m12 kP.kp b12 (Mo kP T C);have y:=dk (gn X G h13 ["asks"]) fun _ _ F b m=>QB F T j m9;have z:=dk g3 fun _ _ F b m=>Ml F T;have p:=dk (gn X G h6 ["doc"]) fun _ _ F b m=>Mm F T;have D:=dk (gn X G h7 ["doc"]) fun _ _ F b m=>SV F T z p;have E:=dk (gn X G h10 ["holder","told"]) fun _ _ F b m=>SW F T f iw;have o:=dk (gn X G h17 ["asks","told","leaves"]) fun _ _ F b m=>KZ F T D E cC mF bF GF;have t:=kk iu b16 m16 (Oc iu T q o ir tC gH m9);have H:=dk (gn X G h15 ["asks","avoid"]) fun _ _ F b m=>SX F T y t M mC qX qY;have XD:=dk (gn X G h23 ["_law_thing"]) fun _ _ F b m=>Oe F T b m 50;have XE:=dk (gn X G h25 ["_law_asks_here","_law_doc_here"]) fun _ _ F b m=>Og F T b m 50;have A:=dk (gn X G h28 ["_law_doc_here"]) fun _ _ F b m=>Oh F T b m 25;have L:=dk (gn X G h29 ["_law_asks_here"]) fun _ _ F b m=>LS F T b m A 48;have N:=dk (gn X G h26 ["_law_asks_here"]) fun _ _ F b m=>LQ F T b m 25;have B:=dk (gn X G h27 ["_law_doc_here"]) fun _ _ F b m=>Hd F T b m 25;have XF:=dk (gn X G h30 ["_law_asks_here","_law_doc_here"]) fun _ _ F b m=>Oi F T b m 25;have O:=dk (gn X G h31 ["_law_asks_here","_law_doc_here","_law_avoid"]) fun _ _ F b m=>VX F T N B XF;have I:=dk (gn X G h32 ["_law_thing","_law_least_here","_law_most"]) fun _ _ F b m=>SY F T;have J:=dk (gn X G h33 ["_law_doc_here"]) fun _ _ F b m=>J_ F T b m I 27;have XG:=dk (gn X G h34 ["_law_asks_here","_law_avoid"]) fun _ _ F b m=>VY F T r H XD XE A L O J;have Q:=dk (gn X G h35 ["_law_asks_here","_law_cell_here","_law_names_here"]) fun _ _ F b m=>VZ F T k;exact Zc qW T Zd k Y Z Ze Zf XG Q
theorem walkZ{q:Program}{loose:List Str}{g:(Str->Option Value)->Heap->Prop}{d:DefRec}{K:Params->rg}{as:List Addr}{n t:Nat}(e:∀P:Params,as=List.map (fun x=>x.fst) (K P))(i:l.most=some 63)(a:d.params.defaults=[])(F:∀(w:World) (mg:Str->Option Value) (fa:Addr) (h:Heap),(Ia (K w.params)).In h->h.Ns mainGlobals mg->mg d.name=some (.ref fa)->
   ∃(b:FuncData) (c T:Addr),(K w.params).lookup T=some (PySem.W.tabObj #[])/\PySem.W.codeHdIn (Ia (K w.params)) c T=true/\(∀(s:Shared) (u:Value),BindsTo s b ⟨[u],[]⟩ [("_law_script",u)])/\
    ∀base:Heap,(Ia (K w.params)).In base->base.Ns mainGlobals mg->BM mg base->Ac l.prog w (Ia (K w.params)) mg base Bn 80 fa b ["_law_script"] (Js (Ia (K w.params)) T)):
  PySem.W.WalkX q loose g (PySem.W.X.obsZ as) (PySem.W.X.valZ K n t) l.row.toRowW d [] (fun f vs=>PySem.call f vs):=VH e i a ⟨rfl,by decide,by decide,rfl⟩ F
end ZM
def PySem.W.Fast.tw3083500009425076404:=0
def PySem.W.Fast.tw13590743540497008218:=0
def PySem.W.Fast.tw6315642067593369115:=0
def PySem.W.Fast.tw1068222698104363427:=0
def PySem.W.Fast.tw16883832502106577179:=0
def PySem.W.Fast.tw1670250608368668026:=0
def PySem.W.Fast.tw16908460945394545797:=0
def PySem.W.Fast.tw13914098042120927159:=0
def PySem.W.Fast.tw2382050337288637981:=0
def PySem.W.Fast.tw7441271941439393499:=0
def PySem.W.Fast.tw5894835369706760653:=0
def PySem.W.Fast.tw3360146205459129757:=0
def PySem.W.Fast.tw11801074009976088140:=0
def PySem.W.Fast.tw8164747637436151825:=0
def PySem.W.Fast.tw15188589183102313405:=0
def PySem.W.Fast.tw1553844168736849160:=0
def PySem.W.Fast.tw16034432890876797105:=0
def PySem.W.Fast.tw7638325803460599605:=0
def PySem.W.Fast.tw15956615943976002394:=0
def PySem.W.Fast.tw4804572200216671686:=0
def PySem.W.Fast.tw13681638775588119541:=0
def PySem.W.Fast.tw17444802268270797857:=0
def PySem.W.Fast.tw489415234016209642:=0
def PySem.W.Fast.tw18199783690605548865:=0
def PySem.W.Fast.tw3792352242311485435:=0
def PySem.W.Fast.tw2845886578598535691:=0
def PySem.W.Fast.tw13515851207796299394:=0
def PySem.W.Fast.tw14596720765951316959:=0
def PySem.W.Fast.tw9888982855600252943:=0
def PySem.W.Fast.tw15617017310348891931:=0
def PySem.W.Fast.tw11257472041773997816:=0
def PySem.W.Fast.tw1034490705145024096:=0
def PySem.W.Fast.tw11802322907636485177:=0
def PySem.W.Fast.tw12654644352038902424:=0
def PySem.W.Fast.tw18242243696797181735:=0
def PySem.W.Fast.tw13852445946131013685:=0
def PySem.W.Fast.tw9516238428290295988:=0
def PySem.W.Fast.tw17859751923158586546:=0
def PySem.W.Fast.tw5346480746258725841:=0
def PySem.W.Fast.tw12861326539582848127:=0
def PySem.W.Fast.tw7931012737360971427:=0
def PySem.W.Fast.tw11284814305813471413:=0
def PySem.W.Fast.tw15149697530965403487:=0
def PySem.W.Fast.tw10478659544751623537:=0
def PySem.W.Fast.tw1530506405400658843:=0
def PySem.W.Fast.tw14914811610067237107:=0
def PySem.W.Fast.tw12274215946889092901:=0
def PySem.W.Fast.tw3715720842355466283:=0
def PySem.W.Fast.tw4609965693310919526:=0
def PySem.W.Fast.tw10539619579804658317:=0
def PySem.W.Fast.tw1859275053478536698:=0
def PySem.W.Fast.tw7980601407171180421:=0
def PySem.W.Fast.tw5818479757036237889:=0
def PySem.W.Fast.tw17748653374094638679:=0
def PySem.W.Fast.tw4872545741740489016:=0
def PySem.W.Fast.tw13196516907907261966:=0
def PySem.W.Fast.tw5244602235456598751:=0
def PySem.W.Fast.tw4010818274780823130:=0
def PySem.W.Fast.tw16151222813668916213:=0
def PySem.W.Fast.tw2447813616887370802:=0
def PySem.W.Fast.tw3864544132224651370:=0
def PySem.W.Fast.tw2570830537949983595:=0
def PySem.W.Fast.tw12779348004903970485:=0
def PySem.W.Fast.tw2284048249292035320:=0
def PySem.W.Fast.tw18417209473407943877:=0
def PySem.W.Fast.tw6621044900396616678:=0
def PySem.W.Fast.tw11117769624467044995:=0
def PySem.W.Fast.tw6897044399078524687:=0
def PySem.W.Fast.tw9237232692587668116:=0
def PySem.W.Fast.tw10451852631480476426:=0
def PySem.W.Fast.tw7330898437532513822:=0
def PySem.W.Fast.tw8741819650199512740:=0
def PySem.W.Fast.tw5177731535243399929:=0
def PySem.W.Fast.tw10632932996680121503:=0
def PySem.W.Fast.tw16237266833855948191:=0
def PySem.W.Fast.tw12177661839620003574:=0
def PySem.W.Fast.tw13824360530248941604:=0
def PySem.W.Fast.tw12491324961909944948:=0
def PySem.W.Fast.tw6797511595491109816:=0
def PySem.W.Fast.tw14019835445541152016:=0
def PySem.W.Fast.tw7384818008378300138:=0
def PySem.W.Fast.tw10676600582494173485:=0
def PySem.W.Fast.tw5143743556236518918:=0
def PySem.W.Fast.tw16199442933426741368:=0
def PySem.W.Fast.tw17054334478912928337:=0
def PySem.W.Fast.tw14707275063862801559:=0
def PySem.W.Fast.tw10247097760237461698:=0
def PySem.W.Fast.tw46438593291328498:=0
def PySem.W.Fast.tw13447536698498913732:=0
def PySem.W.Fast.tw15815615575415217590:=0
open PySem PySem.W PyProof.Rows
set_option maxRecDepth 100000 in
set_option maxHeartbeats 0 in
theorem PySem.Challenge.cw_patchbough_k44_a_least_document_holds : PySem.Challenge.rw_patchbough_k44_a_least_document.Holds := by
 w_on;o_law;z_head;(case hw=>w_witness2)
 k_fill
 refine ZM.walkZ (l:=PySem.Challenge.rw_patchbough_k44_a_least_document) (fun _=>rfl) rfl rfl ?F
 case F=>
  intro w c fa h b G a
  refine' ZM.all_mk b G a (L2.fa ?a1 ?l1 ?c1) (L2.fa ?a2 ?l2 ?c2) (L2.fa ?a3 ?l3 ?c3) (L2.fa ?a4 ?l4 ?c4) (L2.fa ?a5 ?l5 ?c5) (L2.fa ?a6 ?l6 ?c6) (L2.fa ?a7 ?l7 ?c7) (L2.fa ?a8 ?l8 ?c8) (L2.fa ?a9 ?l9 ?c9) (L2.fa ?a10 ?l10 ?c10) (L2.fa ?a11 ?l11 ?c11) (L2.fa ?a12 ?l12 ?c12) (L2.fa ?a13 ?l13 ?c13) (L2.fa ?a14 ?l14 ?c14) (L2.fa ?a15 ?l15 ?c15) (L2.Ba ?a16) (L2.DJ ?l16 rfl) (L2.Jq ?c16) (L2.Jr ?l16) (L2.fa ?a17 ?l17 ?c17) (L2.fa ?a18 ?l18 ?c18) (L2.fa ?a19 ?l19 ?c19) (L2.fa ?a20 ?l20 ?c20) (L2.fa ?a21 ?l21 ?c21) (L2.fa ?a22 ?l22 ?c22) (L2.fa ?a23 ?l23 ?c23) (L2.fa ?a24 ?l24 ?c24) (L2.fa ?a25 ?l25 ?c25) (L2.fa ?a26 ?l26 ?c26) (L2.fa ?a27 ?l27 ?c27) (L2.fa ?a28 ?l28 ?c28) (L2.fa ?a29 ?l29 ?c29) (L2.fa ?a30 ?l30 ?c30) (L2.fa ?a31 ?l31 ?c31) (L2.fa ?a32 ?l32 ?c32) (L2.fa ?a33 ?l33 ?c33) (L2.fa ?a34 ?l34 ?c34) (L2.fa ?a35 ?l35 ?c35) (L2.Ba ?a36) (L2.DJ ?l36 rfl) (L2.Jq ?c36) (L2.Jr ?l36) (L2.Ba ?z1) (L2.Ba ?z2) (L2.Ba ?z3) (L2.Ba ?z4) (L2.Ba ?z5) (L2.Ba ?z6) (L2.Ba ?z7) (L2.Ba ?z8) (L2.Ba ?z9) (L2.Ba ?z10) (L2.Ba ?z11) (L2.Ba ?z12) (L2.Ba ?z13) (L2.Ba ?z14) (L2.Ba ?z15) (L2.Ba ?z16) (L2.Ba ?z17) (L2.Ba ?zZ) (L2.Ba ?iV) (L2.VI ?iW) (L2.DJ ?dH rfl) (L2.Jq ?iX) (L2.Jr ?dH) (L2.VI ?iY) (L2.DJ ?dI rfl) (L2.Jq ?iZ) (L2.Jr ?dI) ?xm ?ia ?ib ?ie ?ig ?ij ?ip ?iq ?dJ ?dM ?ir ?tL ?tO ?tC ?tT
  (case a1|l1|c1|a2|l2|c2|a3|l3|c3|a4|l4|c4|a5|l5|c5|a6|l6|c6|a7|l7|c7|a8|l8|c8|a9|l9|c9|a10|l10|c10|a11|l11|c11|a12|l12|c12|a13|l13|c13|a14|l14|c14|a15|l15|c15|a16|l16|c16|a17|l17|c17|a18|l18|c18|a19|l19|c19|a20|l20|c20|a21|l21|c21|a22|l22|c22|a23|l23|c23|a24|l24|c24|a25|l25|c25|a26|l26|c26|a27|l27|c27|a28|l28|c28|a29|l29|c29|a30|l30|c30|a31|l31|c31|a32|l32|c32|a33|l33|c33|a34|l34|c34|a35|l35|c35|a36|l36|c36|z1|z2|z3|z4|z5|z6|z7|z8|z9|z10|z11|z12|z13|z14|z15|z16|z17|zZ|iV|iW|dH|iX|iY|dI|iZ=>k_is)
  (case xm=>kernel_rfl)
  (case ia=>kernel_rfl)
  (case ib=>kernel_rfl)
  (case ie=>kernel_rfl)
  (case ig=>kernel_rfl)
  (case ij=>kernel_rfl)
  (case ip=>kernel_rfl)
  (case iq=>kernel_rfl)
  (case dJ=>kernel_rfl)
  (case dM=>kernel_rfl)
  (case ir=>exact rfl)
  (case tL=>k_is)
  (case tO=>exact rfl)
  (case tC=>kernel_rfl)
  (case tT=>k_is)
#print axioms PySem.Challenge.cw_patchbough_k44_a_least_document_holds
