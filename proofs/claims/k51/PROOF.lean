import PyProof.Rows.All
import Wide.All
import OpenK.AllK
import Wide.FinOn
import Lean
import PyProof.EqAt
import PyProof.EqKinds
import PyProof.TupleCall
import PyProof.ReprRoads
import PyProof.ReprBulk
import PyProof.ZipIter
import KE.KItemsList
import PyProof.P3Eq
import KE.KEqDict
import PyProof.Rows.Range3
import PyProof.Rows.SetFrom
import KE.KDictList
import KE.KLam
import PySem.Challenge.RW_patchbough_k51_what_is_made
set_option compiler.extract_closed false
set_option bootstrap.genMatcherCode false
noncomputable section
set_option Elab.async false
set_option linter.all false
set_option maxRecDepth 100000
set_option maxHeartbeats 40000000
theorem yn{α:Type _}{l:List α}{i:Nat}(h:i<l.length):l[i]?=some l[i]:=List.getElem?_eq_getElem h
theorem yo{α:Type _}{l:List α}{i:Nat}{a:α}(h:l[i]?=some a):∃h:i<l.length,l[i]=a:=List.getElem?_eq_some_iff.mp h
theorem yq{α:Type _}{a b:α}(h:some a=some b):a=b:=Option.some.inj h
theorem yr{α:Type _}{l:List α}{i:Nat}{a:α}(h:l[i]?=some a):a∈l:=List.mem_of_getElem? h
abbrev yt:=PySem.W.Frag
namespace L2
open PySem PySem.Spec PyProof.Rows
abbrev Key:=Sum Int Str
noncomputable def Jg:Key->Value->Bool
 | .inl k,v=>Value.isInt k v
 | .inr x,v=>Value.isStrOf x v
noncomputable def jc(w:World):Key->Int
 | .inl k=>hashInt k
 | .inr x=>hashStr w x
theorem BP:∀{k:Key}{v:Value},Jg k v=true->(∃i t,k=Sum.inl i/\v=Value.int i t)∨(∃x t,k=Sum.inr x/\v=Value.str x t)
 | .inl i,v,h=>by
  obtain⟨t,e⟩:=Value.isInt_shape (k:=i) (v:=v) h;exact .inl ⟨i,t,rfl,e⟩
 | .inr x,v,h=>by
  obtain⟨t,e⟩:=Value.isStrOf_shape (x:=x) (v:=v) h;exact .inr ⟨x,t,rfl,e⟩
theorem Sw(i:Int)(t:Tok):Jg (.inl i) (.int i t)=true:=by simp[Jg,Value.isInt]
theorem Sx(x:Str)(t:Tok):Jg (.inr x) (.str x t)=true:=by simp[Jg,Value.isStrOf]
theorem Z'(a b:Int):decide ((Sum.inl a:Key)=Sum.inl b)=(a==b):=by
 by_cases e:a=b
 ·subst e;simp
 ·have h:¬(Sum.inl a:Key)=Sum.inl b:=fun q=>e (Sum.inl.inj q);rw[decide_eq_false h];exact(beq_eq_false_iff_ne.mpr e).symm
theorem aB(a b:Str):decide ((Sum.inr a:Key)=Sum.inr b)=decide (a=b):=by
 by_cases e:a=b
 ·subst e;simp
 ·have h:¬(Sum.inr a:Key)=Sum.inr b:=fun q=>e (Sum.inr.inj q);rw[decide_eq_false h,decide_eq_false e]
theorem aC(a:Int)(b:Str):decide ((Sum.inl a:Key)=Sum.inr b)=false:=decide_eq_false (fun q=>nomatch q)
theorem aD(a:Str)(b:Int):decide ((Sum.inr a:Key)=Sum.inl b)=false:=decide_eq_false (fun q=>nomatch q)
def Al(prog:Program)(w:World):PySem.KeyKind prog w Key where
 is:=Jg
 hash:=jc w
 inj:=fun v a b ha hb=>by
  rcases BP ha with⟨i,t,rfl,rfl⟩|⟨x,t,rfl,rfl⟩
  ·rcases BP hb with⟨j,u,rfl,e⟩|⟨y,u,rfl,e⟩
   ·injection e with e1 _;rw[e1]
   ·exact nomatch e
  ·rcases BP hb with⟨j,u,rfl,e⟩|⟨y,u,rfl,e⟩
   ·exact nomatch e
   ·injection e with e1 _;rw[e1]
 byValue:=fun k v h=>by
  rcases BP h with⟨i,t,rfl,rfl⟩|⟨x,t,rfl,rfl⟩<;>rfl
 pyHash:=fun hv h=>by
  rcases BP hv with⟨i,t,rfl,rfl⟩|⟨x,t,rfl,rfl⟩
  ·exact wpAny_pyHash_int h
  ·exact wpAny_pyHash_str h
 eqBool:=fun hu hv h=>by
  rcases BP hu with⟨i,t,rfl,rfl⟩|⟨x,t,rfl,rfl⟩
  ·rcases BP hv with⟨j,u,rfl,rfl⟩|⟨y,u,rfl,rfl⟩
   ·rw[Z']at h;exact wpAny_eqBool_int h
   ·rw[aC]at h;exact SeqAt.EqAt.int_str i t y u _ _ _ _ h
  ·rcases BP hv with⟨j,u,rfl,rfl⟩|⟨y,u,rfl,rfl⟩
   ·rw[aD]at h;exact SeqAt.EqAt.str_int x t j u _ _ _ _ h
   ·rw[aB]at h;exact wpAny_eqBool_str h
 «strs»:=fun k x t v h=>by
  rcases BP h with⟨i,u,rfl,e⟩|⟨y,u,rfl,e⟩
  ·exact nomatch e
  ·injection e with e1 _;subst e1;cases v<;>rfl
theorem Nr(prog:Program)(w:World)(i:Int)(t:Tok):(Al prog w).is (.inl i) (.int i t)=true:=Sw i t
theorem Nt(prog:Program)(w:World)(x:Str)(t:Tok):(Al prog w).is (.inr x) (.str x t)=true:=Sx x t
inductive V where
 |Ah|bl (b:Bool)|int (i:Int)|str (x:Str)|Sy (b:Array UInt8)|dD (b:UInt64)|ref (a:Addr)|ty (n:String)
 deriving DecidableEq
def RelV:V->Value->Prop
 | .Ah,u=>u=Value.none
 | .bl b,u=>u=Value.bool b
 | .int i,u=>∃t,u=Value.int i t
 | .str x,u=>∃t,u=Value.str x t
 | .Sy b,u=>∃t,u=Value.bytes b t
 | .dD b,u=>∃t,u=Value.float b t
 | .ref a,u=>u=Value.ref a
 | .ty n,u=>u=Value.type n
abbrev Vals:List V->List Value->Prop:=Paired RelV
theorem Vals.length{xs:List V}{us:List Value}(r:Vals xs us):xs.length=us.length:=Paired.length r
variable{us:List Value}{xs:List V}
theorem Vals.inv{x:V}(r:Vals (x::xs) us):∃u c,us=u::c/\RelV x u/\Vals xs c:=by
 cases r with
 |cons a b=>exact⟨_,_,rfl,a,b⟩
variable{i:Nat}
theorem Vals.get{x:V}(r:Vals xs us)(e:xs[i]?=some x):∃u,us[i]?=some u/\RelV x u:=by
 induction r generalizing i with
 |nil=>rw[List.getElem?_nil]at e;exact nomatch e
 |cons a b c=>
  cases i with
  |zero=>exact⟨_,rfl,yq e▸a⟩
  |succ j=>exact c (i:=j) e
theorem Vals.set{x:V}{u:Value}(r:RelV x u):∀{xs:List V}{us:List Value}(i:Nat),Vals xs us->Vals (xs.set i x) (us.set i u)
 |_,_,_,.nil=>.nil
 |_,_,0,.cons _ t=>.cons r t
 |_,_,i+1,.cons q t=>.cons q (Vals.set r i t)
theorem Vals.append{ys:List V}{ws:List Value}(r:Vals xs us)(s:Vals ys ws):Vals (xs++ys) (us++ws):=by
 induction r with
 |nil=>exact s
 |cons a _ b=>exact .cons a b
theorem Vals.take:∀{xs:List V}{us:List Value}(n:Nat),Vals xs us->Vals (xs.take n) (us.take n)
 |_,_,0,_=>.nil
 |_,_,_+1,.nil=>.nil
 |_,_,n+1,.cons r t=>.cons r (Vals.take n t)
theorem Vals.drop:∀{xs:List V}{us:List Value}(n:Nat),Vals xs us->Vals (xs.drop n) (us.drop n)
 |_,_,0,r=>r
 |_,_,_+1,.nil=>.nil
 |_,_,n+1,.cons _ t=>Vals.drop n t
def Hv:Option V->Option Value->Prop
 |some v,some u=>RelV v u
 |none,none=>True
 |_,_=>False
def KV{a:Type}:List (a×V)->List (a×Value)->Prop:=Paired fun(p:a×V)(q:a×Value)=>p.1=q.1/\RelV p.2 q.2
noncomputable def kV:Key->V
 | .inl i=>.int i
 | .inr x=>.str x
inductive HO where
 |lst (xs:List V)
 |tup (xs:List V)
 |dK (kvs:List (Key×V))|dT (kvs:List (List Key×V))
 |set (S:Int->Bool) (n:Nat)
 |ins (C a:Addr) (fs:List (Str×V))
 |own (x:Addr)
 |xd (fs:List (Str×V))
 |met (f x:Addr)
 |aE (lo b:Int)
 |Ba (o:Obj) (u:HO)
 |Nl (ps:Array Value)
 |ext (c:Heap->Prop)
abbrev Hp:=Addr->Option HO
def upd(H:Hp)(a:Addr)(o:HO):Hp:=fun b=>if b=a then some o else H b
variable{H:Hp}{a:Addr}
theorem AD{o:HO}:upd H a o a=some o:=by unfold upd;rw[if_pos rfl]
variable{b:Addr}
theorem AH{o:HO}(h:b≠a):upd H a o b=H b:=by unfold upd;rw[if_neg h]
theorem Rb{o u:HO}:upd (upd H a o) a u=upd H a u:=by
 funext b;unfold upd;split<;>rfl
theorem dw{o u:HO}(h:H a=some o)(h':H b=some u)(d:o≠u):a≠b:=by
 intro e;subst e;rw[h]at h';exact d (yq h')
theorem Aj{o:HO}(h:H a=some o)(h':H b=none):a≠b:=by
 intro e;subst e;rw[h]at h';cases h'
section
variable(P:Program) (w:World)
def A_(H:Hp)(h:Heap)(a:Addr):HO->Prop
 | .lst xs=>xs.length<=sizeLine/\∃(its:List Value)(n:Nat),Vals xs its/\h.get? a=some {cls:=.type "list",data:=.seq its.toArray n}
 | .tup xs=>xs.length<=sizeLine/\∃its:List Value,Vals xs its/\IsTup h a its.toArray
 | .dK kvs=>kvs.length<=sizeLine/\(a==sysModules)=false/\∃e,KV kvs e/\h.DictOf (Al P w) a e
 | .dT kvs=>kvs.length<=sizeLine/\(a==sysModules)=false/\∃xs:List (List Key×Addr×Value),
   Paired (fun(p:List Key×V)(q:List Key×Addr×Value)=>p.1=q.1/\H q.2.1=some (.tup (p.1.map kV))/\RelV p.2 q.2.2) kvs xs/\
   ∃o g k,h.get? a=some o/\o.ExactDict/\o.data=.dict g k/\g.toList=xs.map (entryOfKey (tupleKind (Al P w)))/\(xs.map (·.1)).Nodup
 | .set S n=>h.SetOf (intKind P w) a S n
 | .ins C c fs=>H c=some (.own a)/\fs.length<=1000/\c≠a/\h.get? a=some (PySem.W.instObj C c)/\
   ∃b,h.Ns1 c b/\(∀f,Hv (fs.lookup f) (b f))/\PySem.Within b (fs.map (·.1))
 | .own _=>∃o,h.get? a=some o
 | .xd fs=>∃b,h.Ns1 a b/\∀f,Hv (fs.lookup f) (b f)
 | .aE lo l=>∃t u v,h.get? a=some {cls:=.type "range",data:=.fields #[.int lo t,.int l u,.int 1 v]}
 | .Ba o u=>h.get? a=some o/\A_ H h a u
 | .Nl m=>h.get? a=some {cls:=.none,data:=.fields m}
 | .met f x=>h.get? a=some (PySem.W.methodObj (.ref f) (.ref x))
 | .ext d=>d h/\(∃o,h.get? a=some o)/\∀i j:Heap,d i->(∀o,i.get? a=some o->j.get? a=some o)->d j
def EN(H:Hp)(h:Heap):Prop:=∀a o,H a=some o->A_ P w H h a o
end
section
variable{P:Program} {w:World} {H H':Hp} {h h':Heap} {a:Addr} {o:HO}
theorem A_.lt(x:A_ P w H h a o):a<h.objs.size:=by
 cases o with
 |lst b=>obtain⟨_,_,_,_,e⟩:=x;exact Heap.lt_size e
 |tup b=>obtain⟨_,_,_,p⟩:=x;exact p.lt
 |dK kvs=>obtain⟨_,_,_,_,o,_,_,e,_⟩:=x;exact Heap.lt_size e
 |dT kvs=>obtain⟨_,_,_,_,o,_,_,e,_⟩:=x;exact Heap.lt_size e
 |set S n=>obtain⟨o,_,_,_,e,_⟩:=x;exact Heap.lt_size e
 |ins C c fs=>obtain⟨_,_,_,e,_⟩:=x;exact Heap.lt_size e
 |own y=>obtain⟨_,e⟩:=x;exact Heap.lt_size e
 |xd fs=>obtain⟨_,⟨_,_,_,e,_⟩,_⟩:=x;exact Heap.lt_size e
 |aE lo d=>obtain⟨_,_,_,e⟩:=x;exact Heap.lt_size e
 |Ba g u=>obtain⟨e,_⟩:=x;exact Heap.lt_size e
 |Nl i=>exact Heap.lt_size (show h.get? a=some _ from x)
 |met f y=>exact Heap.lt_size (show h.get? a=some _ from x)
 |ext j=>obtain⟨_,⟨_,e⟩,_⟩:=x;exact Heap.lt_size e
theorem Paired.dy{d e:Type}{F G:d->e->Prop}{c:List d}{l₂:List e}(r:Paired F c l₂)(f:∀a b,F a b->G a b):Paired G c l₂:=by
 induction r with
 |nil=>exact .nil
 |cons a _ g=>exact .cons (f _ _ a) g
theorem A_.LF(x:A_ P w H h a o)(k:∀b u,(b=a∨H b=some (.own a))->h.get? b=some u->h'.get? b=some u)(B:∀b,H b=some (.own a)->H' b=some (.own a))(D:∀b xs,H b=some (.tup xs)->H' b=some (.tup xs)):A_ P w H' h' a o:=by
 induction o with
 |lst xs=>obtain⟨z,l,n,r,e⟩:=x;exact⟨z,l,n,r,k _ _ (.inl rfl) e⟩
 |tup xs=>obtain⟨z,l,r,g,e,c⟩:=x;exact⟨z,l,r,g,k _ _ (.inl rfl) e,c⟩
 |dK kvs=>obtain⟨z,y,E,r,g,i,j,e,c⟩:=x;exact⟨z,y,E,r,g,i,j,k _ _ (.inl rfl) e,c⟩
 |dT kvs=>
  obtain⟨z,y,xs,r,g,i,j,e,c⟩:=x;exact⟨z,y,xs,Paired.dy r fun p q z=>⟨z.1,D _ _ z.2.1,z.2.2⟩,g,i,j,k _ _ (.inl rfl) e,c⟩
 |set S n=>obtain⟨g,i,j,t,e,c⟩:=x;exact⟨g,i,j,t,k _ _ (.inl rfl) e,c⟩
 |ins C I fs=>
  obtain⟨d,z,ne,e,m,⟨s,i,j,F,c⟩,r⟩:=x;exact⟨B _ d,z,ne,k _ _ (.inl rfl) e,m,⟨s,i,j,k _ _ (.inr d) F,c⟩,r⟩
 |own y=>obtain⟨g,e⟩:=x;exact⟨g,k _ _ (.inl rfl) e⟩
 |xd fs=>obtain⟨m,⟨s,i,j,e,c⟩,r⟩:=x;exact⟨m,⟨s,i,j,k _ _ (.inl rfl) e,c⟩,r⟩
 |aE lo J=>obtain⟨t,u,v,e⟩:=x;exact⟨t,u,v,k _ _ (.inl rfl) e⟩
 |Ba g u G=>obtain⟨e,q⟩:=x;exact⟨k _ _ (.inl rfl) e,G q⟩
 |Nl A=>
  have e:h.get? a=some {cls:=.none,data:=.fields A}:=x;show h'.get? a=some {cls:=.none,data:=.fields A};exact k a _ (.inl rfl) e
 |met f y=>
  have e:h.get? a=some (PySem.W.methodObj (.ref f) (.ref y)):=x;show h'.get? a=some (PySem.W.methodObj (.ref f) (.ref y));exact k a _ (.inl rfl) e
 |ext K=>obtain⟨p,⟨o,e⟩,st⟩:=x;exact⟨st _ _ p fun o q=>k _ _ (.inl rfl) q,⟨o,k _ _ (.inl rfl) e⟩,st⟩
theorem EN.lt(x:EN P w H h)(e:H a=some o):a<h.objs.size:=(x a o e).lt
theorem EN.fresh(x:EN P w H h)(e:h.objs.size<=a):H a=none:=by
 cases q:H a with
 |none=>rfl
 |some u=>exact absurd (Nat.lt_of_lt_of_le (x.lt q) e) (Nat.lt_irrefl _)
theorem EN.kept(x:EN P w H h)(k:∀b u,h.get? b=some u->h'.get? b=some u):EN P w H h':=fun a o e=>
 (x a o e).LF (fun b u _ q=>k b u q) (fun _ q=>q) fun _ _ q=>q
theorem EN.laid(x:EN P w H h)(k:∀b u,h.get? b=some u->h'.get? b=some u)(g:h.objs.size<=a)(new:A_ P w (upd H a o) h' a o):EN P w (upd H a o) h':=fun b u e=>by
 have d:=x.fresh g;by_cases f:b=a
 ·subst f;rw[AD]at e;cases e;exact new
 ·rw[AH f]at e;exact(x b u e).LF (fun c v _ q=>k c v q) (fun c q=>by rw[AH (Aj q d)];exact q) fun c i q=>by rw[AH (Aj q d)];exact q
end
def Rd(H:Hp)(a:Addr)(u:HO):Prop:=H a=some u∨∃o,H a=some (.Ba o u)
variable{P:Program}{w:World}{h:Heap}
theorem Rd.ok{u:HO}(r:Rd H a u)(x:EN P w H h):A_ P w H h a u:=by
 rcases r with r|⟨o,r⟩
 ·exact x a u r
 ·obtain⟨_,q⟩:=x a _ r;exact q
def dz:Option HO->Prop
 |some (.lst _)=>True
 |some (.dK _)=>True
 |some (.dT _)=>True
 |some (.set _ _)=>True
 |some (.ins _ _ _)=>True
 |some (.ext _)=>True
 |_=>False
section
variable{P:Program} {w:World} {H:Hp} {h h':Heap} {x e:Addr} {o':HO}
theorem EN.write(ok:EN P w H h)(g:dz (H x))(n:e=x∨H e=some (.own x))(k:∀b u,b≠e->h.get? b=some u->h'.get? b=some u)(m:∃u,h'.get? e=some u)(new:A_ P w (upd H x o') h' x o'):EN P w (upd H x o') h':=fun b u q=>by
 have d:∀c y,H c=some (.own y)->c≠x:=fun c y r z=>by subst z;rw[r]at g;exact g
 have f:∀c i,H c=some (.tup i)->c≠x:=fun c i r z=>by subst z;rw[r]at g;exact g
 by_cases j:b=x
 ·subst j;rw[AD]at q;cases q;exact new
 ·rw[AH j]at q;by_cases a:b=e
  ·have o:H b=some (.own x):=by
    rcases n with z|z
    ·exact absurd (a.trans z) j
    ·rw[a];exact z
   rw[q]at o;cases o;obtain⟨v,p⟩:=m;exact⟨v,by rw[a];exact p⟩
  ·refine(ok b u q).LF (fun c v l r=>k c v ?_ r) (fun c r=>by rw[AH (d c b r)];exact r) fun c i r=>by rw[AH (f c i r)];exact r
   rcases l with rfl|l
   ·exact a
   ·rintro rfl;rcases n with z|z
    ·exact d c b l z
    ·rw[l]at z;cases z;exact j rfl
end
structure Un(fs ex:List Addr)(H H':Hp)(h h':Heap):Prop where
 keep:∀b o,h.get? b=some o->H b=none->b∉fs->b∉ex->h'.get? b=some o
 slot:∀b o,h.get? b=some o->H b=none->b∈fs->b∉ex->∃sl,h'.get? b=some {o with slots:=sl}
 free:∀b o,h.get? b=some o->H b=none->b∉ex->H' b=none
 there:∀b o,h.get? b=some o->b∉ex->∃o',h'.get? b=some o'
 GU:∀b xs,H b=some (.tup xs)->H' b=some (.tup xs)
 EO:∀b o u,H b=some (.Ba o u)->H' b=some (.Ba o u)
 GV:∀b ps,H b=some (.Nl ps)->∃more,H' b=some (.Nl (ps++more))
section
variable{fs qz ex xj:List Addr} {H H1 H2:Hp} {h h1 h2 h':Heap} {a x e:Addr} {o:HO}
theorem Un.any(u:Un fs ex H H1 h h1){c:Obj}(q:h.get? b=some c)(n:H b=none)(d:b∉ex):∃g,h1.get? b=some {c with slots:=g}:=by
 by_cases f:b∈fs
 ·exact u.slot b c q n f d
 ·exact⟨c.slots,u.keep b c q n f d⟩
theorem Un.kept(k:∀b u,h.get? b=some u->h'.get? b=some u):Un fs ex H H h h':=
 ⟨fun b c q _ _ _=>k b c q,fun b c q _ _ _=>⟨c.slots,k b c q⟩,fun _ _ _ n _=>n,fun b c q _=>⟨c,k b c q⟩,fun _ _ q=>q,fun _ _ _ q=>q,fun _ d q=>⟨#[],by rw[q];simp⟩⟩
theorem Un.refl:Un fs ex H H h h:=Un.kept fun _ _ q=>q
theorem Un.laid(k:∀b u,h.get? b=some u->h'.get? b=some u)(hp:h.objs.size<=a)(hn:H a=none):Un fs ex H (upd H a o) h h' where
 keep:=fun b u q _ _ _=>k b u q
 slot:=fun b u q _ _ _=>⟨u.slots,k b u q⟩
 free:=fun b u q n _=>by rw[AH (Nat.ne_of_lt (Nat.lt_of_lt_of_le (Heap.lt_size q) hp))];exact n
 there:=fun b u q _=>⟨u,k b u q⟩
 GU:=fun b xs q=>by rw[AH (Aj q hn)];exact q
 EO:=fun b u xs q=>by rw[AH (Aj q hn)];exact q
 GV:=fun b ps q=>⟨#[],by rw[AH (Aj q hn),q];simp⟩
theorem Un.write(d:dz (H x))(l:e=x∨H e=some (.own x))(k:∀b u,b≠e->h.get? b=some u->h'.get? b=some u)(f:∃u,h'.get? e=some u):Un fs ex H (upd H x o) h h':=by
 have i:∀b,H b=none->b≠x:=fun b n z=>by subst z;rw[n]at d;exact d
 have j:∀b,H b=none->b≠e:=fun b n z=>by
  subst z;rcases l with r|r
  ·exact i b n r
  ·rw[n]at r;cases r
 have g:∀b u,H b=some u->¬dz (some u)->b≠x:=fun b u q nm z=>by subst z;rw[q]at d;exact nm d
 refine⟨fun b u q n _ _=>k b u (j b n) q,fun b u q n _ _=>⟨u.slots,k b u (j b n) q⟩,fun b u q n _=>by rw[AH (i b n)];exact n,fun b u q _=>?_,
  fun b m q=>by rw[AH (g b _ q fun z=>z)];exact q,fun b u m q=>by rw[AH (g b _ q fun z=>z)];exact q,fun b p q=>⟨#[],by rw[AH (g b _ q fun z=>z),q];simp⟩⟩
 by_cases c:b=e
 ·subst c;exact f
 ·exact⟨u,k b u c q⟩
end
def iP(h:Heap)(H:Hp):List Addr:=(List.range h.objs.size).filter fun a=>(H a).isSome
def LG(h:Heap)(H:Hp):Heap:=PySem.W.hideAll h (iP h H)
theorem Sz(h:Heap)(H:Hp):(LG h H).objs.size=h.objs.size:=PySem.W.hideAll_size _ _
variable{o:Obj}
theorem Ue(e:h.get? b=some o)(n:H b=none):(LG h H).get? b=some o:=
 PySem.W.hideAll_get _ e fun a=>by
  have q:(H b).isSome=true:=(List.mem_filter.mp a).2;rw[n]at q;simp at q
theorem Xg(e:(LG h H).get? b=some o):h.get? b=some o/\H b=none:=by
 have a:h.get? b=some o:=PySem.W.of_hideAll (iP h H) e;refine⟨a,?_⟩;cases q:H b with
 |none=>rfl
 |some x=>
  have c:b∈iP h H:=List.mem_filter.mpr ⟨List.mem_range.mpr (Heap.lt_size a),by simp[q]⟩;have z:(LG h H).get? b=none:=PySem.W.hideAll_none (iP h H) c;rw[z]at e;cases e
def Xh(g h:Heap)(L:Addr):List (Addr×Obj):=(List.range h.objs.size).filterMap fun a=>if a=L∨(g.get? a).isSome=true then none else(h.get? a).map fun o=>(a,o)
def rest(g h:Heap)(L d:Addr):List (Addr×Obj):=(Xh g h L).filter fun p=>decide (p.1≠d)
structure Mod(K:yt)(mg:Str->Option Value)(base:Heap):Prop where
 dE:K.In base
 glob:base.Ns mainGlobals mg
 blt:∃mb,base.Ns builtinsNs mb/\∀x:Str,x≠"__name__"->mb x=bootBuiltins x
 nolimit:base.NoLimit
structure Cx where
 prog:Program
 w:World
 K:yt
 mg:Str->Option Value
 base:Heap
 A:Around
 N:List Str
 s₀:Shared
 H₀:Hp
 env:Env
 outer:List Env
 stack:List Env
 ex:List Addr
 fn:Str->Bool
 calm:Bool
 pn:List (Addr×Obj)
 xe:Value->Shared->Prop
def Rc(l:List Env):List Addr:=l.filterMap (·.frame)
abbrev Cx.fs(X:Cx):List Addr:=Rc X.outer
def iQ(a:Scope)(x:Str):Prop:=a.names.lookup x=some .local∨a.names.lookup x=some .cell∨a.names.lookup x=some .free
def Loc(a:Scope)(x:Str):Prop:=a.names.lookup x=some .local∨a.names.lookup x=some .cell
def Look(env:Env)(h:Heap)(m:Str->Option Value)(x:Str)(u:Value):Prop:= (env.kindOf x=some .local/\m x=some u)∨((env.kindOf x=some .cell∨env.kindOf x=some .free)/\∃c,env.cells.lookup x=some c/\h.IsCell c (some u))
structure Cx.Ok(X:Cx):Prop where
 mod:Mod X.K X.mg X.base
 kind:X.env.scope.kind=.function
 glob:X.env.globals=mainGlobals
 blt:X.env.builtins=builtinsNs
 above:X.s₀.heap.objs.size<=X.env.locals
 inj:∀x y c,X.env.cells.lookup x=some c->X.env.cells.lookup y=some c->x=y
 has:∀x,(X.env.kindOf x=some .cell∨X.env.kindOf x=some .free)->∃c,X.env.cells.lookup x=some c
 aF:∀x c,X.fn x=true->X.env.cells.lookup x=some c->X.s₀.heap.objs.size<=c
 hd:X.calm=true->X.A.handled=none
 frames:X.A.frames=some X.stack
 iR:X.stack=X.outer∨(X.stack=X.env::X.outer/\X.env.frame=some X.env.locals)
 dF:∀b∈X.ex,b≠X.env.locals/\∀x c,X.env.cells.lookup x=some c->c≠b
 bs:∀b o,X.base.get? b=some o->X.s₀.heap.get? b=some o/\X.H₀ b=none
 S_:X.base.objs.size<=X.s₀.heap.objs.size
 S':∀b o,X.base.get? b=some o->b∉X.ex
 TB:∀b∈X.ex,b∉X.fs
 Gv:X.s₀.heap.FunFrames X.base X.outer
 Xi:∀b∈X.fs,X.H₀ b=none
structure Inv(X:Cx)(pins:List (Addr×Obj))(σ:List (Option V))(H:Hp)(s:Shared):Prop where
 ok:X.Ok
 os:s.os=X.s₀.os
 bare:AllBare s.gens
 base:Un X.fs X.ex X.H₀ H X.s₀.heap s.heap
 loc:∃m,s.heap.Ns X.env.locals m/\∀(i:Nat)(x:Str)(v:V),X.N[i]?=some x->σ[i]?=some (some v)->iQ X.env.scope x->∃u,RelV v u/\Look X.env s.heap m x u
 cell:∀x c,X.env.cells.lookup x=some c->∃v,s.heap.IsCell c v
 free:H X.env.locals=none
 DU:∀x c,X.env.cells.lookup x=some c->H c=none
 pin:∀p∈X.pn++pins,s.heap.get? p.1=some p.2/\H p.1=none/\p.1≠X.env.locals/\p.1∉X.fs/\∀v,p.2.data≠.cell v
 Ax:EN X.prog X.w H s.heap
 len:σ.length=X.N.length
variable{E:Value->Shared->Prop}{u:Value}{A:Around}{x:Str}{ch:List Addr}{g':Array GenState}{M:Model}{t':Nat}{v:V}{N:List Str}{d':Drawn}
section
variable{X:Cx} {pins:List (Addr×Obj)} {σ:List (Option V)} {H H':Hp} {s:Shared} {h':Heap}
theorem Cx.Ok.jd(ok:X.Ok)(e:X.base.get? b=some o):b∉X.fs:=fun a=>by
 have:=(ok.Gv.mem a).1;rw[e]at this;cases this
theorem Inv.bs(I:Inv X pins σ H s):∀b o,X.base.get? b=some o->s.heap.get? b=some o/\H b=none:=fun b o e=>
 ⟨I.base.keep b o (I.ok.bs b o e).1 (I.ok.bs b o e).2 (I.ok.jd e) (I.ok.S' b o e),I.base.free b o (I.ok.bs b o e).1 (I.ok.bs b o e).2 (I.ok.S' b o e)⟩
theorem Inv.bk(I:Inv X pins σ H s):∀b o,X.base.get? b=some o->s.heap.get? b=some o:=fun b o e=>(I.bs b o e).1
theorem Inv.mod(I:Inv X pins σ H s):Mod X.K X.mg X.base:=I.ok.mod
theorem Inv.GP(I:Inv X pins σ H s):X.K.In s.heap:=I.ok.mod.dE.keeps I.bk
theorem Inv.lt(I:Inv X pins σ H s):X.env.locals<s.heap.objs.size:=let⟨_,a,_⟩:=I.loc;a.lt
theorem Inv.sz(I:Inv X pins σ H s):X.s₀.heap.objs.size<=s.heap.objs.size:=Nat.le_trans I.ok.above (Nat.le_of_lt I.lt)
theorem Inv.je(I:Inv X pins σ H s)(h:s.heap.objs.size<=a):a∉X.fs:=fun b=>by
 obtain⟨_,o,c,_⟩:=I.ok.Gv.mem b;exact absurd (Nat.lt_of_lt_of_le (Heap.lt_size c) (Nat.le_trans I.sz h)) (Nat.lt_irrefl _)
theorem Inv.ZR(I:Inv X pins σ H s):∀x c,X.env.cells.lookup x=some c->c≠X.env.locals:=fun x c e z=>by
 obtain⟨v,o,d,f⟩:=I.cell x c e;obtain⟨m,⟨g,h,i,a,b,_⟩,_⟩:=I.loc;rw[z,a]at d;cases d;rw[b]at f;cases f
theorem Inv.Gv(I:Inv X pins σ H s):s.heap.FunFrames X.base X.outer:=by
 have all:∀(l:List Env),(∀b∈Rc l,b∈X.fs)->X.s₀.heap.FunFrames X.base l->s.heap.FunFrames X.base l:=by
  intro l
  induction l with
  |nil=>intro _ _;trivial
  |cons env r g=>
   intro f h;obtain⟨i,⟨L,o,a,j,k,m⟩,n⟩:=h;have c:L∈X.fs:=f L (by unfold Rc;rw[List.filterMap_cons,a];exact List.mem_cons_self);obtain⟨p,e⟩:=I.base.slot L o k (I.ok.Xi L c) c fun z=>I.ok.TB L z c;exact⟨i,⟨L,_,a,j,e,m⟩,g (fun b d=>f b (by unfold Rc;rw[List.filterMap_cons,a];exact List.mem_cons_of_mem _ d)) n⟩
 exact all X.outer (fun _ d=>d) I.ok.Gv
theorem Inv.stack(I:Inv X pins σ H s):s.heap.FunFrames X.base X.stack:=by
 rcases I.ok.iR with e|⟨e,a⟩
 ·rw[e];exact I.Gv
 ·rw[e];obtain⟨m,b,_⟩:=I.loc;refine .cons (by rw[I.ok.kind];decide) a b ?_ I.Gv;exact Heap.get?_none_of_le (Nat.le_trans I.ok.S_ I.ok.above)
theorem Inv.Jh(I:Inv X pins σ H s):∀b∈Rc X.stack,b∈X.env.locals::X.fs:=fun b a=>by
 rcases I.ok.iR with e|⟨e,c⟩
 ·rw[e]at a;exact List.mem_cons_of_mem _ a
 ·rw[e]at a;unfold Rc at a;rw[List.filterMap_cons,c]at a;exact a
theorem Inv.MP(I:Inv X pins σ H s):∀b∈Rc X.stack,H b=none:=fun b a=>by
 rcases List.mem_cons.mp (I.Jh b a)with e|a
 ·rw[e];exact I.free
 ·obtain⟨_,o,c,_⟩:=I.ok.Gv.mem a;exact I.base.free b o c (I.ok.Xi b a) fun z=>I.ok.TB b z a
theorem Inv.step(I:Inv X pins σ H s)(f:∀b∈ch,(b∈X.ex∨X.s₀.heap.objs.size<=b)/\b≠X.env.locals/\(∀x c,X.env.cells.lookup x=some c->c≠b)/\∀p∈X.pn++pins,p.1≠b)(keep:∀b o,b≠X.env.locals->b∉X.fs->b∉ch->s.heap.get? b=some o->H b=none->h'.get? b=some o)(slot:∀b o,b≠X.env.locals->b∈X.fs->b∉ch->s.heap.get? b=some o->H b=none->∃F,h'.get? b=some {o with slots:=F})(free:∀b o,b∉ch->s.heap.get? b=some o->H b=none->H' b=none)(there:∀b o,b∉ch->s.heap.get? b=some o->∃B,h'.get? b=some B)(GU:∀b t,H b=some (.tup t)->H' b=some (.tup t))(EO:∀b o u,H b=some (.Ba o u)->H' b=some (.Ba o u))(GV:∀b E,H b=some (.Nl E)->∃more,H' b=some (.Nl (E++more)))(N:∀m,s.heap.Ns X.env.locals m->h'.Ns X.env.locals m)(G:EN X.prog X.w H' h')(O:AllBare g'):
  Inv X pins σ H' {s with heap:=h',gens:=g',drawn:=d',toks:=t'}:=by
 have C:∀b o,X.s₀.heap.get? b=some o->b≠X.env.locals:=fun b o e=>Nat.ne_of_lt (Nat.lt_of_lt_of_le (Heap.lt_size e) I.ok.above);have h:∀b o,X.s₀.heap.get? b=some o->b∉X.ex->b∉ch:=fun b o e a y=>by
  rcases(f b y).1 with z|z
  ·exact a z
  ·exact absurd (Nat.lt_of_lt_of_le (Heap.lt_size e) z) (Nat.lt_irrefl _)
 have cellK:∀x c,X.env.cells.lookup x=some c->∀v,s.heap.IsCell c v->h'.IsCell c v:=fun x c e v ⟨o,A,J⟩=>by
  have g:c∉ch:=fun z=>(f c z).2.2.1 x c e rfl;by_cases L:c∈X.fs
  ·obtain⟨F,q⟩:=slot c o (I.ZR x c e) L g A (I.DU x c e);exact⟨_,q,J⟩
  ·exact⟨o,keep c o (I.ZR x c e) L g A (I.DU x c e),J⟩
 refine⟨I.ok,I.os,O,⟨fun b o e n y a=>?_,fun b o e n y a=>?_,fun b o e n a=>?_,fun b o e a=>?_,fun b t e=>GU b t (I.base.GU b t e),fun b o t e=>EO b o t (I.base.EO b o t e),fun b E e=>?_⟩,?_,fun x c e=>?_,?_,fun x c e=>?_,fun p M=>?_,G,I.len⟩
 ·exact keep b o (C b o e) y (h b o e a) (I.base.keep b o e n y a) (I.base.free b o e n a)
 ·obtain⟨F,j⟩:=I.base.slot b o e n y a;obtain⟨K,D⟩:=slot b _ (C b o e) y (h b o e a) j (I.base.free b o e n a);exact⟨K,D⟩
 ·obtain⟨B,j⟩:=I.base.there b o e a;exact free b B (h b o e a) j (I.base.free b o e n a)
 ·obtain⟨B,j⟩:=I.base.there b o e a;exact there b B (h b o e a) j
 ·obtain⟨P,j⟩:=I.base.GV b E e;obtain⟨Q,D⟩:=GV b _ j;exact⟨P++Q,by rw[D,Array.append_assoc]⟩
 ·obtain⟨m,R,S⟩:=I.loc;refine⟨m,N m R,fun i x v j D T=>?_⟩;obtain⟨u,r,l⟩:=S i x v j D T;refine⟨u,r,?_⟩;rcases l with l|⟨k,c,e,z⟩
  ·exact .inl l
  ·exact .inr ⟨k,c,e,cellK x c e _ z⟩
 ·obtain⟨v,z⟩:=I.cell x c e;exact⟨v,cellK x c e v z⟩
 ·obtain⟨m,⟨o,_,_,A,_⟩,_⟩:=I.loc;exact free _ o (fun z=>(f _ z).2.1 rfl) A I.free
 ·obtain⟨v,o,A,J⟩:=I.cell x c e;exact free c o (fun z=>(f c z).2.2.1 x c e rfl) A (I.DU x c e)
 ·obtain⟨e,n,ne,nf,d⟩:=I.pin p M;have g:p.1∉ch:=fun z=>(f p.1 z).2.2.2 p M rfl;exact⟨keep p.1 p.2 ne nf g e n,free p.1 p.2 g e n,ne,nf,d⟩
theorem Inv.un(I:Inv X pins σ H s)(u:Un X.fs [] H H' s.heap h')(c:EN X.prog X.w H' h'):Inv X pins σ H' {s with heap:=h',toks:=t'}:=by
 obtain⟨m,⟨o,l,p,h,r⟩,_⟩:=id I.loc;obtain⟨q,i⟩:=u.any h I.free (by simp);exact I.step (g':=s.gens) (d':=s.drawn) (ch:=[]) (fun _ z=>nomatch z) (fun b o _ d _ e n=>u.keep b o e n d (by simp)) (fun b o _ d _ e n=>u.slot b o e n d (by simp)) (fun b o _ e n=>u.free b o e n (by simp)) (fun b o _ e=>u.there b o e (by simp)) u.GU u.EO u.GV (fun t j=>by
  obtain⟨v,f,g,a,k⟩:=j;rw[h]at a;cases a;exact⟨_,f,g,i,k⟩) c I.bare
theorem Inv.call(I:Inv X pins σ H s)(u:Un (Rc X.stack) ch H H' s.heap h')(g:EN X.prog X.w H' h')(l:AllBare g')(d:∀b∈ch,(b∈X.ex∨X.s₀.heap.objs.size<=b)/\b≠X.env.locals/\(∀x c,X.env.cells.lookup x=some c->c≠b)/\∀p∈X.pn++pins,p.1≠b):
  Inv X pins σ H' {s with heap:=h',gens:=g',drawn:=d',toks:=t'}:=by
 obtain⟨m,⟨o,y,A,k,r⟩,_⟩:=id I.loc;obtain⟨B,h⟩:=u.any k I.free fun z=>(d _ z).2.1 rfl;exact I.step (ch:=ch) d (fun b o h q a e n=>u.keep b o e n (fun z=>(List.mem_cons.mp (I.Jh b z)).elim h q) a) (fun b o _ _ a e n=>u.any e n a) (fun b o a e n=>u.free b o e n a) (fun b o a e=>u.there b o e a) u.GU u.EO u.GV (fun C t=>by
  obtain⟨D,i,j,f,v⟩:=t;rw[k]at f;cases f;exact⟨_,i,j,h,v⟩) g l
theorem Inv.turned(I:Inv X pins σ H s)(k:∀b o,b≠a->s.heap.get? b=some o->h'.get? b=some o)(h:H a=none)(g:a≠X.env.locals)(i:a∈X.ex∨X.s₀.heap.objs.size<=a)(j:∀x c,X.env.cells.lookup x=some c->c≠a)(l:∀p∈X.pn++pins,p.1≠a):Inv X pins σ H {s with heap:=h',toks:=t'}:=by
 have f:∀b u,H b=some u->b≠a:=fun b u e z=>by rw[z,h]at e;cases e
 refine I.step (g':=s.gens) (d':=s.drawn) (ch:=[a]) (fun b t=>?_) (fun b o _ _ d e _=>k b o (fun z=>d (by simp[z])) e) (fun b o _ _ d e _=>⟨o.slots,k b o (fun z=>d (by simp[z])) e⟩) (fun _ _ _ _ n=>n) (fun b o d e=>⟨o,k b o (fun z=>d (by simp[z])) e⟩) (fun _ _ e=>e) (fun _ _ _ e=>e) (fun b C e=>⟨#[],by rw[e];simp⟩) (fun m w=>?_) (fun b u e=>?_) I.bare
 ·have e:b=a:=by simpa using t
  subst e;exact⟨i,g,j,l⟩
 ·obtain⟨o,y,A,B,r⟩:=w;exact⟨o,y,A,k _ o (Ne.symm g) B,r⟩
 ·refine(I.Ax b u e).LF (fun c v d q=>k c v ?_ q) (fun _ q=>q) fun _ _ q=>q;rcases d with z|z
  ·rw[z];exact f b u e
  ·exact f c _ z
theorem Inv.tok(I:Inv X pins σ H s)(t:Nat):Inv X pins σ H {s with toks:=t}:=I.un (h':=s.heap) (t':=t) Un.refl I.Ax
theorem Inv.kept{t':Nat}(I:Inv X pins σ H s)(k:∀b u,s.heap.get? b=some u->h'.get? b=some u):Inv X pins σ H {s with heap:=h',toks:=t'}:=I.un (Un.kept k) (I.Ax.kept k)
theorem Inv.laid{a:Addr}{o:HO}{t':Nat}(I:Inv X pins σ H s)(k:∀b u,s.heap.get? b=some u->h'.get? b=some u)(c:s.heap.objs.size<=a)(new:A_ X.prog X.w (upd H a o) h' a o):
  Inv X pins σ (upd H a o) {s with heap:=h',toks:=t'}:=I.un (Un.laid k c (I.Ax.fresh c)) (I.Ax.laid k c new)
theorem Inv.write{x e:Addr}{o:HO}{t':Nat}(I:Inv X pins σ H s)(c:dz (H x))(d:e=x∨H e=some (.own x))(k:∀b u,b≠e->s.heap.get? b=some u->h'.get? b=some u)(a:∃u,h'.get? e=some u)(new:A_ X.prog X.w (upd H x o) h' x o):Inv X pins σ (upd H x o) {s with heap:=h',toks:=t'}:=I.un (Un.write c d k a) (I.Ax.write c d k a new)
theorem Inv.Rf{a:List (Addr×Obj)}(I:Inv X pins σ H s)(h:∀p∈a,s.heap.get? p.1=some p.2/\H p.1=none/\p.1≠X.env.locals/\p.1∉X.fs/\∀v,p.2.data≠.cell v):Inv X a σ H s:=
 ⟨I.ok,I.os,I.bare,I.base,I.loc,I.cell,I.free,I.DU,fun p b=>(List.mem_append.mp b).elim (fun z=>I.pin p (List.mem_append_left _ z)) (h p),I.Ax,I.len⟩
theorem Gw(c:N.Nodup){j:Nat}(a:N[i]?=some x)(b:N[j]?=some x):i=j:=by
 obtain⟨f,d⟩:=yo a;obtain⟨g,e⟩:=yo b;exact(List.getElem_inj c).mp (d.trans e.symm)
theorem Hy{Q:Unit->Shared->Prop}(I:Inv X pins σ H s)(hN:X.N.Nodup)(L:X.N[i]?=some x)(t:Loc X.env.scope x)(r:RelV v u)(h:∀Y,Inv X pins (σ.set i (some v)) H Y->(∃a,Heap.SameBut a s.heap Y.heap/\(a=X.env.locals∨X.env.cells.lookup x=some a))->Q () Y)(hf:X.fn x=true∨X.env.scope.names.lookup x=some .local:=by first|exact .inl rfl|exact .inr rfl|assumption):wpAny M A (storeName X.env x u) Q E s:=by
 obtain⟨m,Z,hl⟩:=id I.loc;have O:(X.env.scope.kind==.class||(X.env.scope.kind==.module&&X.env.locals !=X.env.globals))=false:=by rw[I.ok.kind];rfl
 have D:i<σ.length:=by rw[I.len];exact(yo L).1
 have ZR:=I.ZR;have tracked:∀{a:Addr}{h':Heap},(∃o,s.heap.get? a=some o/\H a=none)->Heap.SameBut a s.heap h'->EN X.prog X.w H h':=fun{a h'} ha f b ob e=>by
  obtain⟨_,_,B⟩:=ha;refine(I.Ax b ob e).LF (fun c U l q=>(f.2 c ?_).trans q) (fun _ q=>q) fun _ _ q=>q;rintro rfl;rcases l with rfl|l
  ·rw[B]at e;cases e
  ·rw[B]at l;cases l
 rcases t with F|F
 ·refine wpAny_storeName_local F Z (fun h' oK f=>?_) O;obtain⟨oL,_,_,q_,_⟩:=id Z;refine h _ ⟨I.ok,I.os,I.bare,⟨fun b o e n G t=>?_,fun b o e n G t=>?_,I.base.free,fun b o e t=>?_,I.base.GU,I.base.EO,I.base.GV⟩,⟨_,oK,fun j y v' g C e3=>?_⟩,fun y c e=>?_,I.free,I.DU,fun p hp=>?_,tracked ⟨oL,q_,I.free⟩ f,by simpa using I.len⟩ ⟨_,f,.inl rfl⟩
  ·exact(f.2 b (Nat.ne_of_lt (Nat.lt_of_lt_of_le (Heap.lt_size e) I.ok.above))).trans (I.base.keep b o e n G t)
  ·obtain⟨sl,g⟩:=I.base.slot b o e n G t;exact⟨sl,(f.2 b (Nat.ne_of_lt (Nat.lt_of_lt_of_le (Heap.lt_size e) I.ok.above))).trans g⟩
  ·obtain⟨o',g⟩:=I.base.there b o e t;exact⟨o',(f.2 b (Nat.ne_of_lt (Nat.lt_of_lt_of_le (Heap.lt_size e) I.ok.above))).trans g⟩
  ·by_cases J:j=i
   ·subst J;rw[L]at g;cases g;rw[List.getElem?_set_self D]at C;cases C;exact⟨u,r,.inl ⟨F,by simp⟩⟩
   ·rw[List.getElem?_set_ne (Ne.symm J)]at C;obtain⟨u',r',q⟩:=hl j y v' g C e3;refine⟨u',r',?_⟩;rcases q with⟨k,e⟩|⟨k,c,e,z⟩
    ·refine .inl ⟨k,?_⟩;have:y≠x:=fun e=>J (Gw hN g (e▸L));simp[this,e]
    ·exact .inr ⟨k,c,e,z.sameBut f (ZR y c e)⟩
  ·obtain⟨U,z⟩:=I.cell y c e;exact⟨U,z.sameBut f (ZR y c e)⟩
  ·obtain⟨e,n,ne,nf,d⟩:=I.pin p hp;exact⟨(f.2 p.1 ne).trans e,n,ne,nf,d⟩
 ·have K:X.fn x=true:=by
   rcases hf with z|z
   ·exact z
   ·rw[z]at F;cases F
  obtain⟨c,l⟩:=I.ok.has x (.inl F);obtain⟨U,z⟩:=I.cell x c l;refine wpAny_storeName_cell I.ok.kind F l z (fun h' P f=>?_);obtain⟨oc,R,S⟩:=id z;refine h {s with heap:=h'} ⟨I.ok,I.os,I.bare,⟨fun b o e n G t=>?_,fun b o e n G t=>?_,I.base.free,fun b o e t=>?_,I.base.GU,I.base.EO,I.base.GV⟩,⟨m,Z.sameBut f (Ne.symm (ZR x c l)),fun j y v' g C e3=>?_⟩,fun y W e=>?_,I.free,I.DU,fun p hp=>?_,tracked ⟨oc,R,I.DU x c l⟩ f,by simpa using I.len⟩ ⟨c,f,.inr l⟩
  ·exact(f.2 b (Nat.ne_of_lt (Nat.lt_of_lt_of_le (Heap.lt_size e) (I.ok.aF x c K l)))).trans (I.base.keep b o e n G t)
  ·obtain⟨sl,g⟩:=I.base.slot b o e n G t;exact⟨sl,(f.2 b (Nat.ne_of_lt (Nat.lt_of_lt_of_le (Heap.lt_size e) (I.ok.aF x c K l)))).trans g⟩
  ·obtain⟨o',g⟩:=I.base.there b o e t;exact⟨o',(f.2 b (Nat.ne_of_lt (Nat.lt_of_lt_of_le (Heap.lt_size e) (I.ok.aF x c K l)))).trans g⟩
  ·by_cases J:j=i
   ·subst J;rw[L]at g;cases g;rw[List.getElem?_set_self D]at C;cases C;exact⟨u,r,.inr ⟨.inl F,c,l,P⟩⟩
   ·rw[List.getElem?_set_ne (Ne.symm J)]at C;obtain⟨u',r',q⟩:=hl j y v' g C e3;refine⟨u',r',?_⟩;rcases q with q|⟨k,W,e,z'⟩
    ·exact .inl q
    ·refine .inr ⟨k,W,e,z'.sameBut f ?_⟩;rintro rfl;exact J (Gw hN g (I.ok.inj _ _ _ e l▸L))
  ·by_cases T:W=c
   ·subst T;exact⟨_,P⟩
   ·obtain⟨w2,z2⟩:=I.cell y W e;exact⟨w2,z2.sameBut f T⟩
  ·obtain⟨e,n,ne,nf,d⟩:=I.pin p hp;refine⟨(f.2 p.1 ?_).trans e,n,ne,nf,d⟩;intro q;rw[q,R]at e;have q':oc=p.2:=yq e;exact d U (by rw[<-q'];exact S)
theorem Nu{Q:Unit->Shared->Prop}(I:Inv X pins σ H s)(b:X.N.Nodup)(c:X.N[i]?=some x)(d:Loc X.env.scope x)(r:RelV v u)(h:∀a,Inv X pins (σ.set i (some v)) H a->Q () a)(e:X.fn x=true∨X.env.scope.names.lookup x=some .local:=by first|exact .inl rfl|exact .inr rfl|assumption):wpAny M A (storeName X.env x u) Q E s:=
 Hy I b c d r (fun a f _=>h a f) e
theorem Inv.d_{a:Shared}(I:Inv X pins σ H s)(g:a.os=s.os)(u:Un (Rc X.stack) ch H H' s.heap a.heap)(d:EN X.prog X.w H' a.heap)(h:AllBare a.gens)(f:∀b∈ch,(b∈X.ex∨X.s₀.heap.objs.size<=b)/\b≠X.env.locals/\(∀x c,X.env.cells.lookup x=some c->c≠b)/\∀p∈X.pn++pins,p.1≠b):Inv X pins σ H' a:=by
 obtain⟨h',g',d',t',i⟩:=a;have e:i=s.os:=g;subst e;exact I.call (g':=g') (t':=t') (d':=d') u d h f
end
abbrev XK:=Value->Option Addr->Hp->Prop
abbrev St:=List (Option V)
abbrev VK:=V->Hp->Prop
abbrev TE:=St->Hp->VK->Prop
abbrev TT:=St->Hp->(Bool->Hp->Prop)->Prop
abbrev TA:=St->Hp->(List V->Hp->Prop)->Prop
structure Ends where
 nx:St->Hp->Prop
 rt:VK
 bk:St->Hp->Prop:=fun _ _=>False
 ct:St->Hp->Prop:=fun _ _=>False
abbrev TS:=Ends->St->Hp->Prop
inductive oM(x:V)(H:Hp)(Q:Bool->Hp->Prop):Prop
 |mk(c:Bool)(e:x=.bl c)(q:Q c H)
inductive jf(a:TE)(b:St)(x:V)(H:Hp)(Q:VK):Prop
 |mk(c:Bool)(e:x=.bl c)(q:if c=true then a b H Q else Q (.bl false) H)
inductive rA(a:TE)(b:St)(x:V)(H:Hp)(Q:VK):Prop
 |mk(c:Bool)(e:x=.bl c)(q:if c=true then Q (.bl true) H else a b H Q)
inductive rB(x:V)(H:Hp)(Q:Option Int->Hp->Prop):Prop
 |mk(i:Int)(e:x=.int i)(q:Q (some i) H)
inductive EP(X:Cx)(pins:List (Addr×Obj))(a:St)(Q:VK)(u:Value)(b:Shared):Prop
 |mk(v:V)(H':Hp)(I:Inv X pins a H' b)(r:RelV v u)(q:Q v H')
inductive TP(X:Cx)(pins:List (Addr×Obj))(a:St)(Q:Bool->Hp->Prop)(b:Bool)(c:Shared):Prop
 |mk(H':Hp)(I:Inv X pins a H' c)(q:Q b H')
inductive AP(X:Cx)(pins:List (Addr×Obj))(a:St)(Q:List V->Hp->Prop)(us:List Value)(b:Shared):Prop
 |mk(vs:List V)(H':Hp)(I:Inv X pins a H' b)(r:Vals vs us)(q:Q vs H')
variable{pins:List (Addr×Obj)}{X:Cx}{G:Prop}
theorem EP.elim{a:St}{Q:VK}{b:Shared}(h:EP X pins a Q u b)(k:∀(v:V) (H':Hp),Inv X pins a H' b->RelV v u->Q v H'->G):G:=by
 cases h with
 |mk v H' I r q=>exact k v H' I r q
theorem AP.elim{a:St}{Q:List V->Hp->Prop}{b:Shared}(h:AP X pins a Q us b)(k:∀(vs:List V) (H':Hp),Inv X pins a H' b->Vals vs us->Q vs H'->G):G:=by
 cases h with
 |mk v H' I r q=>exact k v H' I r q
theorem TP.elim{a:St}{Q:Bool->Hp->Prop}{b:Bool}{c:Shared}(h:TP X pins a Q b c)(k:∀H':Hp,Inv X pins a H' c->Q b H'->G):G:=by
 cases h with
 |mk H' I q=>exact k H' I q
inductive jg(X:Cx)(pins:List (Addr×Obj))(N:St->Hp->Prop)(b:Shared):Prop
 |mk(a:St)(H':Hp)(I:Inv X pins a H' b)(q:N a H')
inductive rC(X:Cx)(pins:List (Addr×Obj))(Q:VK)(u:Value)(a:Shared):Prop
 |mk(v:V)(b:St)(H':Hp)(I:Inv X pins b H' a)(r:RelV v u)(q:Q v H')
def SP(X:Cx)(pins:List (Addr×Obj))(D:Ends)(f:Flow)(a:Shared):Prop:=
 match f with
 | .next=>jg X pins D.nx a
 | .brk=>jg X pins D.bk a
 | .cont=>jg X pins D.ct a
 | .ret u=>rC X pins D.rt u a
def PE(X:Cx)(e:Expr)(t:TE):Prop:=
 ∀(pins:List (Addr×Obj))(s:Shared)(a:St)(H:Hp)(Q:VK),Inv X pins a H s->t a H Q->wpAny (model X.prog X.w) X.A (eval e X.env) (EP X pins a Q) X.xe s
def PT(X:Cx)(e:Expr)(t:TT):Prop:=
 ∀(pins:List (Addr×Obj))(s:Shared)(a:St)(H:Hp)(Q:Bool->Hp->Prop),Inv X pins a H s->t a H Q->wpAny (model X.prog X.w) X.A (isTrue e X.env (eval e X.env)) (TP X pins a Q) X.xe s
def PW(X:Cx)(e:Expr)(t:TT):Prop:=
 ∀(whole:Sem Value)(pins:List (Addr×Obj))(s:Shared)(a:St)(H:Hp)(Q:Bool->Hp->Prop),Inv X pins a H s->t a H Q->wpAny (model X.prog X.w) X.A (isTrue e X.env whole) (TP X pins a Q) X.xe s
variable{e:Expr}
theorem PW.pt{t:TT}(h:PW X e t):PT X e t:=h _
def PA(X:Cx)(b:List Expr)(t:TA):Prop:=
 ∀(pos:Pos)(pins:List (Addr×Obj))(s:Shared)(a:St)(H:Hp)(Q:List V->Hp->Prop),Inv X pins a H s->t a H Q->wpAny (model X.prog X.w) X.A (spliced (backTo pos (starEach b X.env))) (AP X pins a Q) X.xe s
def PS(X:Cx)(st:Stmt)(t:TS):Prop:=
 ∀(pins:List (Addr×Obj))(s:Shared)(a:St)(H:Hp)(D:Ends),Inv X pins a H s->t D a H->wpAny (model X.prog X.w) X.A (exec st X.env) (SP X pins D) X.xe s
def QC(X:Cx)(st:List Stmt)(t:TS):Prop:=
 ∀(pins:List (Addr×Obj))(s:Shared)(a:St)(H:Hp)(D:Ends),Inv X pins a H s->t D a H->wpAny (model X.prog X.w) X.A (execs st X.env) (SP X pins D) X.xe s
variable{s:Shared}
theorem BK{b:Type}{t:Sem b}{Q c:b->Shared->Prop}(h:wpAny M A t Q E s)(d:∀a s,Q a s->c a s):wpAny M A t c E s:=wpAny_mono h d fun _ _ x=>x
variable{Q:Value->Shared->Prop}{op:CmpOp}{t:TE}
section
variable{X:Cx}
inductive eB(i:Nat)(a:St)(H:Hp)(Q:VK):Prop
 |mk(v:_)(b:a[i]?=some (some v))(c:Q v H)
def aG(i:Nat):TE:=fun a H Q=>eB i a H Q
def tC(v:V):TE:=fun _ H Q=>Q v H
theorem aH{pos:Pos}(j:X.N[i]?=some x)(k:iQ X.env.scope x)(d:(x==("__debug__":Str))=false:=by decide)(f:(x==("__classdict__":Str))=false:=by decide):PE X (.Name x pos) (aG i):=by
 intro pins s n H Q I h;obtain⟨v,e,h⟩:=h;obtain⟨m,o,p⟩:=I.loc;obtain⟨u,r,l⟩:=p i x v j e k;have fin:EP X pins n Q u s:=⟨v,H,I,r,h⟩;rcases l with⟨b,q⟩|⟨b,c,g,a⟩
 ·exact wpAny_Name (wpAny_loadName_local I.ok.kind b o q fin) d
 ·rcases b with b|b
  ·exact wpAny_Name (wpAny_loadName_cell I.ok.kind b g a fin) d
  ·exact wpAny_Name (wpAny_loadName_free I.ok.kind b g a fin f) d
theorem AE{i j pos}:PE X (.Constant (.int i) j pos) (tC (.int i)):=fun _ _ _ H _ I h=>wpAny_Constant_int ⟨.int i,H,I.tok _,⟨_,rfl⟩,h⟩
theorem Nv{b j pos}:PE X (.Constant (.bool b) j pos) (tC (.bl b)):=fun _ _ _ H _ I h=>Constant_bool ⟨.bl b,H,I,rfl,h⟩
theorem CW{j pos}:PE X (.Constant .none j pos) (tC .Ah):=fun _ _ _ H _ I h=>Constant_none ⟨.Ah,H,I,rfl,h⟩
theorem AU{x j pos}:PE X (.Constant (.str x) j pos) (tC (.str x)):=fun _ _ _ H _ I h=>Calls.Constant_str ⟨.str x,H,I.tok _,⟨_,rfl⟩,h⟩
def Gl(X:Cx)(x:Str):Prop:=X.env.kindOf x=some .globalImplicit
theorem MQ{a:St}{pos:Pos}(I:Inv X pins a H s)(b:Gl X x)(c:X.mg x=some u)(h:Q u s)(d:(x==("__debug__":Str))=false:=by decide):wpAny (model X.prog X.w) X.A (eval (.Name x pos) X.env) Q E s:=
 Calls.Name_function_global I.ok.kind b (Calls.loadGlobal_global (by rw[I.ok.glob];exact I.mod.glob.keeps I.bk) c h) d
theorem El{a:St}{pos:Pos}(I:Inv X pins a H s)(b:Gl X x)(c:X.mg x=none)(d:bootBuiltins x=some u)(h:Q u s)(e:x≠"__name__":=by decide)(f:(x==("__debug__":Str))=false:=by decide):wpAny (model X.prog X.w) X.A (eval (.Name x pos) X.env) Q E s:=by
 obtain⟨j,g,i⟩:=I.mod.blt;exact Calls.Name_function_global I.ok.kind b (Calls.loadGlobal_builtin (by rw[I.ok.glob];exact I.mod.glob.keeps I.bk) c (by rw[I.ok.blt];exact g.keeps I.bk) ((i x e).trans d) h) f
theorem JM{pos:Pos}(a:Gl X x)(b:X.mg x=some u)(r:RelV v u)(c:(x==("__debug__":Str))=false:=by decide):PE X (.Name x pos) (tC v):=
 fun _ _ _ H _ I h=>MQ I a b ⟨v,H,I,r,h⟩ c
theorem BU{pos:Pos}(a:Gl X x)(b:X.mg x=none)(c:bootBuiltins x=some u)(r:RelV v u)(d:x≠"__name__":=by decide)(e:(x==("__debug__":Str))=false:=by decide):PE X (.Name x pos) (tC v):=
 fun _ _ _ H _ I h=>El I a b c ⟨v,H,I,r,h⟩ d e
variable{a b:Expr} {ta tb:TE} {pos:Pos}
def PC(X:Cx)(op:CmpOp)(a b:Expr)(t:TE):Prop:=
 ∀(pins:List (Addr×Obj))(s:Shared)(e:St)(H:Hp)(Q:VK),Inv X pins e H s->t e H Q->
  wpAny (model X.prog X.w) X.A (eval a X.env) (fun v c=>wpAny (model X.prog X.w) X.A (eval b X.env) (fun u d=>wpAny (model X.prog X.w) X.A (compareOp op v u) (EP X pins e Q) X.xe d) X.xe c) X.xe s
def tB(t:TE):TT:=fun c H Q=>t c H fun x d=>oM x d Q
theorem Ug(h:PC X op a b t)(d:behindInMarks op b=false:=by first|exact c _ (by decide) (by decide)|rfl):PE X (.Compare a [op] [b] pos) t:=fun pins s e H Q I hw=>wpAny_Compare1 (h pins s e H Q I hw) d
theorem QH(h:PC X op a b t)(f:behindInMarks op b=false:=by first|exact e _ (by decide) (by decide)|rfl):PT X (.Compare a [op] [b] pos) (tB t):=by
 intro pins s g H Q I hw;refine wpAny_isTrue_Compare1 (BK (h pins s g H _ I hw) fun v o f=>BK f fun u p i=>BK i fun c r j=>j.elim fun x k l m n=>?_) f;obtain⟨d,rfl,q⟩:=n;cases m;exact wpAny_truthy_bool ⟨k,l,q⟩
theorem BV(h:PE X e t)(c:∀whole,isTrue e X.env whole=(do let v<-whole;standAt e.pos;holding [v] (truthy v)):=by intro _;rfl):PT X e (tB t):=by
 intro pins s f H Q I hw;refine isTrue_plain (BK (h pins s f H _ I hw) fun v m g=>g.elim fun x i j k l=>?_) (c _);obtain⟨d,rfl,q⟩:=l;cases k;exact wpAny_truthy_bool ⟨i,j,q⟩
variable{tA iS:TT} {rest:List Expr}
def jh(t u:TT):TT:=fun d H Q=>t d H fun c e=>if c=true then u d e Q else Q false e
def rD(t u:TT):TT:=fun d H Q=>t d H fun c e=>if c=true then Q true e else u d e Q
def ji(t:TT):TT:=fun d H Q=>t d H fun c e=>Q (!c) e
theorem pw_and1(d:PT X a tA):PW X (.BoolOp .And [a] pos) tA:=by
 intro g pins s f H Q I h;refine isTrue_and (BK (d pins s f H Q I h) fun c i e=>?_);cases c with
 |true=>exact isTrue_and_nil e
 |false=>exact e
theorem pw_or1(d:PT X a tA):PW X (.BoolOp .Or [a] pos) tA:=by
 intro g pins s f H Q I h;refine isTrue_or (BK (d pins s f H Q I h) fun c i e=>?_);cases c with
 |false=>exact isTrue_or_nil e
 |true=>exact e
theorem pw_and(i:PT X a tA)(j:PW X (.BoolOp .And (b::rest) pos) iS):PW X (.BoolOp .And (a::b::rest) pos) (jh tA iS):=by
 intro k pins s d H Q I h;refine isTrue_and (BK (i pins s d H _ I h) fun c l m=>m.elim fun e f g=>?_);cases c with
 |true=>exact j k pins l d e Q f g
 |false=>exact⟨e,f,g⟩
theorem pw_or(i:PT X a tA)(j:PW X (.BoolOp .Or (b::rest) pos) iS):PW X (.BoolOp .Or (a::b::rest) pos) (rD tA iS):=by
 intro k pins s d H Q I h;refine isTrue_or (BK (i pins s d H _ I h) fun c l m=>m.elim fun e f g=>?_);cases c with
 |true=>exact⟨e,f,g⟩
 |false=>exact j k pins l d e Q f g
theorem QI(e:PT X a tA):PT X (.UnaryOp .Not a pos) (ji tA):=by
 intro pins s f H Q I h;exact isTrue_not (BK (e pins s f H (fun c d=>Q (!c) d) I h) fun c k g=>g.elim fun d i j=>⟨d,i,j⟩)
def eC(ta tb:TE):TE:=fun c H Q=>ta c H fun x d=>jf tb c x d Q
def eD(ta tb:TE):TE:=fun c H Q=>ta c H fun x d=>rA tb c x d Q
theorem Ji{op}(h:PE X a t):PE X (.BoolOp op [a] pos) t:=fun pins s c H Q I hw=>BoolOp_one (h pins s c H Q I hw)
theorem QJ(i:PE X a ta)(j:PE X (.BoolOp .And (b::rest) pos) tb):PE X (.BoolOp .And (a::b::rest) pos) (eC ta tb):=by
 intro pins s e H Q I h;refine BoolOp_and (BK (i pins s e H _ I h) fun v k l=>l.elim fun x f g m d=>?_);obtain⟨c,rfl,d⟩:=d;cases m;refine wpAny_truthy_bool ?_;cases c with
 |true=>exact j pins k e f Q g d
 |false=>exact⟨.bl false,f,g,rfl,d⟩
theorem Uh(i:PE X a ta)(j:PE X (.BoolOp .Or (b::rest) pos) tb):PE X (.BoolOp .Or (a::b::rest) pos) (eD ta tb):=by
 intro pins s e H Q I h;refine BoolOp_or (BK (i pins s e H _ I h) fun v k l=>l.elim fun x f g m d=>?_);obtain⟨c,rfl,d⟩:=d;cases m;refine wpAny_truthy_bool ?_;cases c with
 |false=>exact j pins k e f Q g d
 |true=>exact⟨.bl true,f,g,rfl,d⟩
end
def As(K:yt)(H:Hp)(a:Addr)(xs:List V):Prop:=
 Rd H a (.lst xs)∨
  ∃(o:Obj)(b:Array Value)(n:Nat),K.lookup a=some o/\o.cls=.type "list"/\o.dict=none/\o.data=.seq b n/\b.size<=sizeLine/\Vals xs b.toList
def Bg(K:yt)(H:Hp)(a:Addr)(xs:List V):Prop:=
 Rd H a (.tup xs)∨
  ∃(o:Obj)(b:Array Value)(n:Nat),K.lookup a=some o/\o.cls=.type "tuple"/\o.data=.seq b n/\b.size<=sizeLine/\Vals xs b.toList
noncomputable def jk:Value->Option V
 | .none=>some .Ah
 | .bool b=>some (.bl b)
 | .int i _=>some (.int i)
 | .str x _=>some (.str x)
 | .bytes b _=>some (.Sy b)
 | .float b _=>some (.dD b)
 | .ref a=>some (.ref a)
 | .type n=>some (.ty n)
 |_=>none
theorem RelV.abs{x:V}(r:RelV x u):jk u=some x:=by
 cases x with
 |Ah=>cases r;rfl
 |bl _=>cases r;rfl
 |int _=>obtain⟨t,rfl⟩:=r;rfl
 |str _=>obtain⟨t,rfl⟩:=r;rfl
 |Sy _=>obtain⟨t,rfl⟩:=r;rfl
 |dD _=>obtain⟨t,rfl⟩:=r;rfl
 |ref _=>cases r;rfl
 |ty _=>cases r;rfl
theorem RelV.inj{x y:V}(r:RelV x u)(q:RelV y u):x=y:=yq (r.abs.symm.trans q.abs)
theorem Vals.inj{xs ys:List V}{us:List Value}(r:Vals xs us)(s:Vals ys us):xs=ys:=by
 induction r generalizing ys with
 |nil=>exact(List.eq_nil_of_length_eq_zero (Paired.length s)).symm
 |cons a _ b=>
  cases ys with
  |nil=>exact absurd (Paired.length s) (Nat.succ_ne_zero _).symm
  |cons y f=>
   obtain⟨u,g,e,h,t⟩:=Vals.inv s;injection e with c d;subst c d;rw[a.inj h,b t]
variable{K:yt}
section
variable{X:Cx} {pins:List (Addr×Obj)} {σ:St} {H:Hp} {s:Shared} {a:Addr} {xs ys:List V}
theorem As.of(h:H a=some (.lst xs)):As K H a xs:=.inl (.inl h)
theorem Bg.of(h:H a=some (.tup xs)):Bg K H a xs:=.inl (.inl h)
theorem Inv.list(I:Inv X pins σ H s)(h:As X.K H a xs):∃its:List Value,Vals xs its/\PlainL s.heap a its.toArray/\xs.length<=sizeLine:=by
 rcases h with h|⟨o,its,n,b,c,d,f,g,r⟩
 ·obtain⟨z,its,n,r,e⟩:=h.ok I.Ax;exact⟨its,r,⟨_,n,e,rfl,rfl,rfl⟩,z⟩
 ·refine⟨its.toList,r,⟨o,n,I.GP a o b,c,d,by simpa using f⟩,?_⟩;have e:=r.length;simp only[Array.length_toList]at e;lia
theorem Inv.tuple(I:Inv X pins σ H s)(h:Bg X.K H a xs):∃its:List Value,Vals xs its/\IsTup s.heap a its.toArray/\xs.length<=sizeLine:=by
 rcases h with h|⟨o,its,n,b,c,d,f,r⟩
 ·obtain⟨z,its,r,p⟩:=h.ok I.Ax;exact⟨its,r,p,z⟩
 ·refine⟨its.toList,r,⟨o,I.GP a o b,c,n,by simpa using d⟩,?_⟩;have e:=r.length;simp only[Array.length_toList]at e;lia
theorem Inv.Nx(I:Inv X pins σ H s)(h:As X.K H a xs)(h':As X.K H a ys):xs=ys:=by
 obtain⟨c,r,⟨o,n,e,_,_,d⟩,_⟩:=I.list h;obtain⟨b,i,⟨k,l,f,_,_,g⟩,_⟩:=I.list h';rw[e]at f;cases f;rw[d]at g;injection g with j _;have:c=b:=by simpa using congrArg Array.toList j
 subst this;exact r.inj i
theorem Inv.TC(I:Inv X pins σ H s)(h:Bg X.K H a xs)(h':Bg X.K H a ys):xs=ys:=by
 obtain⟨c,r,⟨o,e,_,n,d⟩,_⟩:=I.tuple h;obtain⟨b,i,⟨k,f,_,l,g⟩,_⟩:=I.tuple h';rw[e]at f;cases f;rw[d]at g;injection g with j _;have:c=b:=by simpa using congrArg Array.toList j
 subst this;exact r.inj i
end
abbrev Cx.LI(X:Cx)(E:Value->Shared->Prop):Cx:={X with xe:=E}
abbrev Cx.ZS(X:Cx):Cx:=X.LI fun _ _=>False
theorem Cx.Ok.LI(ok:X.Ok)(E:Value->Shared->Prop):(X.LI E).Ok:=
 ⟨ok.mod,ok.kind,ok.glob,ok.blt,ok.above,ok.inj,ok.has,ok.aF,ok.hd,ok.frames,ok.iR,ok.dF,ok.bs,ok.S_,ok.S',ok.TB,ok.Gv,ok.Xi⟩
theorem Cx.Ok.FQ(ok:(X.LI E).Ok):X.Ok:=
 ⟨ok.mod,ok.kind,ok.glob,ok.blt,ok.above,ok.inj,ok.has,ok.aF,ok.hd,ok.frames,ok.iR,ok.dF,ok.bs,ok.S_,ok.S',ok.TB,ok.Gv,ok.Xi⟩
section
variable{X:Cx} {pins:List (Addr×Obj)} {σ:St} {H:Hp} {s:Shared} {E:Value->Shared->Prop}
theorem Inv.LI(I:Inv X pins σ H s)(E:Value->Shared->Prop):Inv (X.LI E) pins σ H s:=⟨I.ok.LI E,I.os,I.bare,I.base,I.loc,I.cell,I.free,I.DU,I.pin,I.Ax,I.len⟩
theorem Inv.FQ(I:Inv (X.LI E) pins σ H s):Inv X pins σ H s:=⟨I.ok.FQ,I.os,I.bare,I.base,I.loc,I.cell,I.free,I.DU,I.pin,I.Ax,I.len⟩
theorem SP.FQ{D:Ends}{f:Flow}{c:Shared}(h:SP (X.LI E) pins D f c):SP X pins D f c:=by
 cases f with
 |next=>obtain⟨a,b,I,q⟩:=h;exact⟨a,b,I.FQ,q⟩
 |brk=>obtain⟨a,b,I,q⟩:=h;exact⟨a,b,I.FQ,q⟩
 |cont=>obtain⟨a,b,I,q⟩:=h;exact⟨a,b,I.FQ,q⟩
 |ret u=>obtain⟨v,a,b,I,r,q⟩:=h;exact⟨v,a,b,I.FQ,r,q⟩
theorem QC.ZS{st:List Stmt}{t:TS}(h:QC X.ZS st t):QC X st t:=fun pins s σ H D I hw=>
 wpAny_mono (h pins s σ H D (I.LI _) hw) (fun _ _ q=>q.FQ) fun _ _ z=>False.elim z
end
section
variable{X:Cx} {st:Stmt} {rest:List Stmt} {t u:TS} {e:Expr} {te:TE} {pos:Pos}
def ZT:TS:=fun D a H=>D.nx a H
def QK(t u:TS):TS:=fun D a H=>t {D with nx:=u D} a H
theorem AN:QC X [] ZT:=fun _ _ a H _ I h=>wpAny_execs_nil ⟨a,H,I,h⟩
theorem AB(b:PS X st t)(c:QC X rest u):QC X (st::rest) (QK t u):=by
 intro pins s d H D I h;refine wpAny_execs_cons (BK (b pins s d H {D with nx:=u D} I h) fun f g q=>?_);cases f with
 |next=>
  obtain⟨a,i,j,q⟩:=q;exact c pins g a i D j q
 |ret v=>exact q
 |brk=>exact q
 |cont=>exact q
theorem AG(a:PS X st t):QC X [st] t:=by
 intro pins s b H D I h;refine wpAny_execs_cons (BK (a pins s b H D I h) fun f c q=>?_);cases f with
 |next=>exact wpAny_execs_nil q
 |ret v=>exact q
 |brk=>exact q
 |cont=>exact q
theorem Inv.quiet{a:St}(I:Inv X pins a H s):interactive X.env=false:=by simp[interactive,I.ok.kind]
def eE(te:TE):TS:=fun D a H=>te a H fun _ b=>D.nx a b
theorem Cf(b:PE X e te)(c:swapsWith e none pos.line X.env=pure false:=by rfl):PS X (.Expr e pos) (eE te):=by
 intro pins s a H D I h;exact wpAny_Expr_any (BK (b pins s a H _ I h) fun v j d=>d.elim fun x f g k i=>⟨a,f,g,i⟩) I.quiet c
def jl(te:TE):TS:=fun D a H=>te a H D.rt
theorem AQ(b:PE X e te):PS X (.Return (some e) pos) (jl te):=by
 intro pins s a H D I h;exact wpAny_Return_some (BK (b pins s a H _ I h) fun v j c=>c.elim fun x d f g i=>⟨x,a,d,f,g,i⟩)
def Ny(c:TT)(t u:TS):TS:=fun D a H=>c a H fun b d=>if b=true then t D a d else u D a d
theorem Aa{c:Expr}{a b:List Stmt}{g:TT}(m:PT X c g)(n:QC X a t)(o:QC X b u):PS X (.If c a b pos) (Ny g t u):=by
 intro pins s f H D I h;refine wpAny_If (BK (m pins s f H _ I h) fun d i p=>p.elim fun j k l=>?_);cases d with
 |true=>exact n pins i f j D k l
 |false=>exact o pins i f j D k l
end
abbrev TG:=V->St->Hp->(St->Hp->Prop)->Prop
abbrev Xj:=List V->St->Hp->(St->Hp->Prop)->Prop
def PG(X:Cx)(target:Expr)(t:TG):Prop:=
 ∀(pins:List (Addr×Obj))(s:Shared)(b:St)(H:Hp)(v:V)(u:Value)(Q:St->Hp->Prop),Inv X pins b H s->RelV v u->t v b H Q->
  wpAny (model X.prog X.w) X.A (assign target X.env u) (fun _ d=>∃a c,Inv X pins a c d/\Q a c) X.xe s
def iT(X:Cx)(ts:List Expr)(t:Xj):Prop:=
 ∀(pins:List (Addr×Obj))(s:Shared)(b:St)(H:Hp)(c:List V)(d:List Value)(Q:St->Hp->Prop),Inv X pins b H s->Vals c d->t c b H Q->
  wpAny (model X.prog X.w) X.A (assignInOrder ((assignEach ts X.env).map (·.2)) d) (fun _ f=>∃a e,Inv X pins a e f/\Q a e) X.xe s
abbrev aJ:=V->V->V->Hp->(Hp->Prop)->Prop
def eF(X:Cx)(t:aJ):Prop:=
 ∀(pins:List (Addr×Obj))(s:Shared)(a:St)(H:Hp)(o i v:V)(ov b u:Value)(Q:Hp->Prop),Inv X pins a H s->RelV o ov->RelV i b->RelV v u->t o i v H Q->
  wpAny (model X.prog X.w) X.A (setItem ov b u) (fun _ d=>∃c,Inv X pins a c d/\Q c) X.xe s
variable{n:Nat}
section
variable{X:Cx} {pos:Pos}
def CA(i:Nat):TG:=fun v a H Q=>Q (a.set i (some v)) H
theorem Gx(a:X.N.Nodup)(b:X.N[i]?=some x)(c:Loc X.env.scope x)(d:X.fn x=true∨X.env.scope.names.lookup x=some .local:=by first|exact .inl rfl|exact .inr rfl|assumption):PG X (.Name x pos) (CA i):=by
 intro pins s f H v u Q I r h;exact wpAny_assign_Name (Nu I a b c r (fun g e=>⟨_,H,e,h⟩) d)
def eG:Xj:=fun a b H Q=>a=[]/\Q b H
inductive aK(t:TG)(u:Xj)(vs:List V)(b:St)(H:Hp)(Q:(St->Hp->Prop)):Prop
 |mk(v r:_)(c:vs=v::r)(d:t v b H fun a H'=>u r a H' Q)
def Ui(t:TG)(u:Xj):Xj:=fun a b H Q=>aK t u a b H Q
theorem Rg:iT X [] eG:=by
 intro pins s a H b c Q I r h;obtain⟨e,h⟩:=h;subst e;cases r;exact assignInOrder_nil ⟨a,H,I,h⟩
theorem Gy{a:List Expr}{t:TG}{u:Xj}(c:PG X e t)(d:iT X a u)(f:(assignEach (e::a) X.env).map (·.2)=assign e X.env::(assignEach a X.env).map (·.2):=by rfl):iT X (e::a) (Ui t u):=by
 intro pins s g H o p Q I r h;obtain⟨v,q,i,h⟩:=h;subst i;cases r with
 |cons r j=>
  rw[f];refine assignInOrder_cons (BK (c pins s g H _ _ _ I r h) fun _ k ⟨b,l,m,n⟩=>?_);exact d pins k b l _ _ Q m j n
inductive eI(K:yt)(n:Nat)(t:Xj)(v:V)(b:St)(H:Hp)(Q:(St->Hp->Prop)):Prop
 |mk(a xs:_)(c:v=.ref a)(d:Bg K H a xs)(e:xs.length=n)(f:t xs b H Q)
def eJ(K:yt)(n:Nat)(t:Xj):TG:=fun v a H Q=>eI K n t v a H Q
theorem Uj{c:List Expr}{k:Nat}{t:Xj}(i:X.calm=true)(h:iT X c t)(j:(assignEach c X.env).length=n:=by rfl)(d:(assignEach c X.env).findIdx? (·.1)=none:=by rfl):PG X (.Tuple c k pos) (eJ X.K n t):=by
 intro pins s f H v u Q I r hw;obtain⟨a,l,m,p,q,hw⟩:=hw;subst m;cases r;obtain⟨w,g,x,B⟩:=I.tuple p;refine assign_Tuple_tuple (I.ok.hd i) x (by simp[j,<-q,g.length]) d fun y z=>?_;have A:Inv X pins f H {s with heap:=y}:=I.kept (t':=s.toks) fun b o e=>z b o (Nat.ne_of_lt (Heap.lt_size e)) e;exact h pins _ f H l _ Q A (by simpa using g) hw
def jm(b c:TE)(t:aJ):TG:=fun v a H Q=>b a H fun o d=>c a d fun i e=>t o i v e fun f=>Q a f
theorem Uk{o i:Expr}{d e:TE}{t:aJ}(f:PE X o d)(g:PE X i e)(j:eF X t)(k:∀v,assign (.Subscript o i pos) X.env v=(do
   let ov<-holding [v] (eval o X.env)
   let a<-holding [v,ov] (eval i X.env)
   standAt pos
   holding [v,ov,a] (setItem ov a v)
   release [v,ov,a] []):=by intro _;rfl):PG X (.Subscript o i pos) (jm d e t):=by
 intro pins s b H v u Q I r h;rw[k];refine wpAny_bind (wpAny_holding (BK (f pins s b H _ I h) fun ov l c=>c.elim fun x m n p q=>?_));refine wpAny_bind (wpAny_holding (BK (g pins l b m _ n q) fun a w c=>c.elim fun y z A B C=>?_));refine wpAny_bind (wpAny_standAt (wpAny_bind (wpAny_holding (BK (j pins w b z x y v ov a u _ A p B r C) fun _ G ⟨D,E,F⟩=>?_))));exact wpAny_release ⟨b,D,E,F⟩
def QL(b:TE)(g:TG):TS:=fun D a H=>b a H fun x c=>g x a c D.nx
theorem QM{a:Expr}{c:TE}{g:TG}(f:PE X e c)(i:PG X a g)(j:swapsWithSole [a] e pos.line X.env=pure false:=by rfl)(hw:swappedStores [a] e X.env=pure none:=by rfl)(k:(assignEach [a] X.env).map (·.2)=[assign a X.env]:=by rfl):PS X (.Assign [a] e pos) (QL c g):=by
 intro pins s d H D I h;refine wpAny_Assign_stores (BK (f pins s d H _ I h) fun v l m=>m.elim fun x n o p q=>?_) j hw;rw[k];exact BK (i pins l d n x v _ o p q) fun _ w ⟨b,r,t,u⟩=>⟨b,r,t,u⟩
theorem EG{a:TE}{pos':Pos}(b:X.N.Nodup)(c:X.N[i]?=some x)(d:Loc X.env.scope x)(f:PE X e a)(g:swapsWith e (some (.Name x pos')) pos.line X.env=pure false:=by rfl)(j:X.fn x=true∨X.env.scope.names.lookup x=some .local:=by first|exact .inl rfl|exact .inr rfl|assumption):
  PS X (.Assign [.Name x pos'] e pos) (QL a (CA i)):=by
 intro pins s k H D I h;refine wpAny_Assign_Name (BK (f pins s k H _ I h) fun v r l=>l.elim fun y m n o p=>?_) g;exact Nu n b c d o (fun t q=>⟨_,m,q,p⟩) j
end
variable{body:List Stmt}
section
variable{X:Cx} {pos:Pos}
inductive Xk(c:TT)(g:TS)(D:Ends)(a:St)(H:Hp):Prop
 |mk(W:Nat->St->Hp->Prop)(h:(∃m,W m a H))(i:∀m a H,W m a H->c a H fun b e=>if b=true then∃N:St->Hp->Prop,(∀d H',N d H'->∃f,f<m/\W f d H')/\g {D with nx:=N,ct:=N,bk:=D.nx} a e else D.nx a e)
def Ul(c:TT)(a:TS):TS:=fun D b H=>Xk c a D b H
theorem Nz{c:Expr}{q:TT}{r:TS}(t:PassesOwn (model X.prog X.w) X.A X.env X.xe)(C:PT X c q)(E:QC X body r):PS X (.While c body [] pos) (Ul q r):=by
 intro pins s F H D I h;obtain⟨W,⟨G,J⟩,turn⟩:=h;refine wpAny_While (codeAny_whileLoop (fun n K=>∃e u,Inv X pins e u K/\W n e u) ?_ G ⟨F,H,I,J⟩);rintro n L ⟨d,x,M,O⟩;refine wpAny_passesOwn t (BK (C pins L d x _ M (turn n d x O)) fun b P Q=>Q.elim fun y z i=>?_);cases b with
 |true=>
  obtain⟨N,B,i⟩:=i;rw[if_pos rfl];refine wpAny_passesOwn t (BK (E pins P d y _ z i) fun f R j=>?_);cases f with
  |next=>
   obtain⟨a,g,k,l⟩:=j;obtain⟨m,o,p⟩:=B a g l;exact⟨m,o,a,g,k,p⟩
  |cont=>
   obtain⟨a,g,k,l⟩:=j;obtain⟨m,o,p⟩:=B a g l;exact⟨m,o,a,g,k,p⟩
  |brk=>exact j
  |ret v=>exact j
 |false=>
  rw[if_neg Bool.false_ne_true];exact wpAny_execs_nil ⟨d,y,z,i⟩
end
structure It where
 go:Nat->Hp->Prop
 N_:Nat->Hp->V->Hp->Prop
 stop:Nat->Hp->Prop
def FK(X:Cx)(pins:List (Addr×Obj))(H:Hp)(b:Addr):Prop:=
 H b=none/\b≠X.env.locals/\b∉X.fs/\(b∈X.ex∨X.s₀.heap.objs.size<=b)/\(∀x c,X.env.cells.lookup x=some c->c≠b)/\∀p∈X.pn++pins,p.1≠b
variable{d:St}
theorem Inv.OA{H':Hp}(I:Inv X pins d H s)(a:s.heap.objs.size<=b)(f:H' b=none):FK X pins H' b:=by
 refine⟨f,Nat.ne_of_gt (Nat.lt_of_lt_of_le I.lt a),I.je a,.inr (Nat.le_trans I.sz a),fun x c e z=>?_,fun p g z=>?_⟩
 ·obtain⟨v,q⟩:=I.cell x c e;exact absurd (Nat.lt_of_lt_of_le q.lt (by rw[z];exact a)) (Nat.lt_irrefl _)
 ·exact absurd (Nat.lt_of_lt_of_le (Heap.lt_size (I.pin p g).1) (by rw[z];exact a)) (Nat.lt_irrefl _)
structure Turn(P:Program)(w:World)(K:yt)(tg:Expr)(J:It)(fp:List Addr)(it:Addr)(tn:Nat->Heap->Prop):Prop where
 mem:it∈fp
 obj:∀i h,tn i h->∀b∈fp,∃o,h.get? b=some o/\∀v,o.data≠.cell v
 keep:∀i h h',tn i h->(∀b∈fp,∀o,h.get? b=some o->h'.get? b=some o)->tn i h'
 item:∀(X:Cx),X.prog=P->X.w=w->X.K=K->X.calm=true->∀(i:Nat)(pins:List (Addr×Obj))(s:Shared)(σ:St)(H:Hp)(E:Value->Shared->Prop),Inv X pins σ H s->(∀b∈fp,FK X pins H b)->tn i s.heap->J.go i H->
  wpAny (model P w) X.A (pyNext (.ref it)) (fun r s1=>∃u,r=some u/\
   wpAny (model P w) X.A (letOwnedTupleGo tg (.ref it) u) (fun _ s2=>∃x H',Inv X pins σ H' s2/\RelV x u/\J.N_ i H x H'/\tn (i+1) s2.heap/\∀b∈fp,H' b=none) E s1) E s
 done:∀(X:Cx),X.prog=P->X.w=w->X.K=K->X.calm=true->∀(i:Nat)(pins:List (Addr×Obj))(s:Shared)(σ:St)(H:Hp)(E:Value->Shared->Prop),Inv X pins σ H s->(∀b∈fp,FK X pins H b)->tn i s.heap->J.stop i H->
  wpAny (model P w) X.A (pyNext (.ref it)) (fun r s1=>r=none/\Inv X pins σ H s1) E s
 self:∀(A:Around)(i:Nat)(s:Shared)(Q:Value->Shared->Prop)(E:Value->Shared->Prop),tn i s.heap->Q (.ref it) s->wpAny (model P w) A (pyIter (.ref it)) Q E s
abbrev TI:=St->Hp->(It->Hp->Prop)->Prop
inductive jn(X:Cx)(pins:List (Addr×Obj))(i:St)(j:Expr)(R:It->Hp->Prop)(a:Value)(c:Shared):Prop
 |mk(d:Addr)(g:List Addr)(h:Nat->Heap->Prop)(J:It)(H':Hp)(e:a=.ref d)(I:Inv X pins i H' c)(t:Turn X.prog X.w X.K j J g d h)(z:h 0 c.heap)(f:∀b∈g,FK X pins H' b)(q:R J H')
def PI(X:Cx)(b iter:Expr)(c:TI):Prop:=
 ∀(pins:List (Addr×Obj))(s:Shared)(a:St)(H:Hp)(R:It->Hp->Prop),Inv X pins a H s->c a H R->
  wpAny (model X.prog X.w) X.A (eval iter X.env) (fun v d=>wpAny (model X.prog X.w) X.A (pyIter v) (jn X pins a b R) X.xe d) X.xe s
theorem LZ{b:Expr}{c:Addr}{n:String}{vs:Array Value}{Q:Unit->Shared->Prop}(d:s.heap.get? c=some o)(e:o.cls=.type n)(f:o.data=.fields vs)(g:["enumerate","zip","dict_itemiterator","dict_reverseitemiterator","odict_iterator","itertools.zip_longest","itertools.pairwise"].contains n=false)(a:Q () s):wpAny M A (letOwnedTupleGo b (.ref c) u) Q E s:=by
 unfold letOwnedTupleGo;cases b<;>first
  |exact wpAny_pure a
  |(cases u<;>first
    |exact wpAny_pure a
    |(refine wpAny_bind (wpAny_load d ?_)
      rw[e,f];show wpAny M A (if(["enumerate","zip","dict_itemiterator","dict_reverseitemiterator","odict_iterator","itertools.zip_longest","itertools.pairwise"].contains n&&vs[0]?==some (rawInt _))=true then _ else _) Q E s;rw[if_neg (by intro h;rw[g,Bool.false_and]at h;cases h)];exact wpAny_pure a))
def eK(K:yt)(a:Addr):It:=
 ⟨fun i H=>∃b x,As K H a b/\b[i]?=some x,fun i H x c=>c=H/\∀b,As K H a b->b[i]?=some x,fun i H=>∃b,As K H a b/\b.length<=i⟩
def eM(K:yt)(a:Addr):It:=
 ⟨fun i H=>∃b x,Bg K H a b/\b[i]?=some x,fun i H x c=>c=H/\∀b,Bg K H a b->b[i]?=some x,fun i H=>∃b,Bg K H a b/\b.length<=i⟩
def dH(lo:Int)(n:Nat):It:=⟨fun i _=>i<n,fun i H x a=>a=H/\x=.int (lo+i),fun i _=>n<=i⟩
variable{tg:Expr}
theorem TF(a it:Addr):Turn P w K tg (eK K a) [it] it (fun i h=>h.IsListIter it a i)where
 mem:=by simp
 obj:=fun i h st b hb=>by
  have e:b=it:=by simpa using hb
  subst e;obtain⟨o,e,c,d⟩:=st;exact⟨o,e,fun v z=>by rw[d]at z;cases z⟩
 keep:=fun i h h' st k=>st.at fun o e=>k it (by simp) o e
 item:=by
  intro X hP hw hK hc i pins s σ H E I hf st hg;subst hP hw hK;obtain⟨xs,x,hq,hx⟩:=hg;obtain⟨its,rv,p,hz⟩:=I.list hq;obtain⟨u,hu,ru⟩:=rv.get hx;obtain⟨f0,f1,f2,f3,f4,f5⟩:=hf it (by simp);refine wpAny_pyNext_list_item st p.isList (x:=u) (by simpa using hu) fun h' Nm sb=>?_;have I1:Inv X pins σ H {s with heap:=h'}:=I.turned (t':=s.toks) (fun b o hb e=>(sb.2 b hb).trans e) f0 f1 f3 f4 f5;obtain⟨o,e,c,d⟩:=id Nm;exact⟨u,rfl,LZ (s:={s with heap:=h'}) e c d (by decide) ⟨x,H,I1,ru,⟨rfl,fun ys hy=>by rw[I.Nx hy hq];exact hx⟩,Nm,fun b hb=>(hf b hb).1⟩⟩
 done:=by
  intro X hP hw hK hc i pins s σ H E I hf st hg;subst hP hw hK;obtain⟨xs,hq,hx⟩:=hg;obtain⟨its,rv,p,hz⟩:=I.list hq;obtain⟨f0,f1,f2,f3,f4,f5⟩:=hf it (by simp);have hl:=rv.length;exact wpAny_pyNext_list_end (I.ok.hd hc) st p.isList (by simp;lia) fun h' eb=>⟨rfl,I.turned (t':=s.toks) (fun b o hb e=>eb b o hb e) f0 f1 f3 f4 f5⟩
 self:=fun _ _ _ _ _ st h=>wpAny_pyIter_listiter st h
theorem QN(a it:Addr):Turn P w K tg (eM K a) [it] it (fun i h=>h.IsTupleIter it a i)where
 mem:=by simp
 obj:=fun i h st b hb=>by
  have e:b=it:=by simpa using hb
  subst e;obtain⟨o,e,c,d⟩:=st;exact⟨o,e,fun v z=>by rw[d]at z;cases z⟩
 keep:=fun i h h' st k=>st.at fun o e=>k it (by simp) o e
 item:=by
  intro X hP hw hK hc i pins s σ H E I hf st hg;subst hP hw hK;obtain⟨xs,x,hq,hx⟩:=hg;obtain⟨its,rv,p,hz⟩:=I.tuple hq;obtain⟨u,hu,ru⟩:=rv.get hx;obtain⟨f0,f1,f2,f3,f4,f5⟩:=hf it (by simp);refine wpAny_pyNext_tuple_item st (show s.heap.IsTuple a its.toArray from p) (x:=u) (by simpa using hu) fun h' Nm sb=>?_;have I1:Inv X pins σ H {s with heap:=h'}:=I.turned (t':=s.toks) (fun b o hb e=>(sb.2 b hb).trans e) f0 f1 f3 f4 f5;obtain⟨o,e,c,d⟩:=id Nm;exact⟨u,rfl,LZ (s:={s with heap:=h'}) e c d (by decide) ⟨x,H,I1,ru,⟨rfl,fun ys hy=>by rw[I.TC hy hq];exact hx⟩,Nm,fun b hb=>(hf b hb).1⟩⟩
 done:=by
  intro X hP hw hK hc i pins s σ H E I hf st hg;subst hP hw hK;obtain⟨xs,hq,hx⟩:=hg;obtain⟨its,rv,p,hz⟩:=I.tuple hq;obtain⟨f0,f1,f2,f3,f4,f5⟩:=hf it (by simp);have hl:=rv.length;exact wpAny_pyNext_tuple_end (I.ok.hd hc) st (show s.heap.IsTuple a its.toArray from p) (by simp;lia) fun h' eb=>⟨rfl,I.turned (t':=s.toks) (fun b o hb e=>eb b o hb e) f0 f1 f3 f4 f5⟩
 self:=fun _ _ _ _ _ st h=>wpAny_pyIter_tupleiter st h
theorem QO(it:Addr)(lo:Int)(n:Nat):Turn P w K tg (dH lo n) [it] it (fun i h=>IsRangeIter h it (lo+(i:Nat)*1) ((n:Int)-(i:Nat)) 1)where
 mem:=by simp
 obj:=fun i h st b hb=>by
  have e:b=it:=by simpa using hb
  subst e;exact⟨_,st,fun v z=>by
   have z':Data.fields _=Data.cell v:=z;cases z'⟩
 keep:=fun i h h' st k=>k it (by simp) _ st
 item:=by
  intro X hP hw hK hc i pins s σ H E I hf st hg;subst hP hw hK;obtain⟨f0,f1,f2,f3,f4,f5⟩:=hf it (by simp);have W:=Walks.range (prog:=X.prog) (w:=X.w) (I.ok.hd hc) it lo 1 n;refine W.item i s _ _ hg st fun v h' tk hv Nm kk=>?_;obtain⟨t,rfl⟩:=hv;have I1:Inv X pins σ H {s with heap:=h',toks:=tk}:=I.turned (fun b o hb e=>kk b o (by simpa using hb) e) f0 f1 f3 f4 f5;refine⟨_,rfl,LZ (s:={s with heap:=h',toks:=tk}) (n:="range_iterator") Nm rfl rfl (by decide) ⟨.int (lo+i),H,I1,⟨t,?_⟩,⟨rfl,rfl⟩,Nm,fun b hb=>(hf b hb).1⟩⟩;rw[Int.mul_one]
 done:=by
  intro X hP hw hK hc i pins s σ H E I hf st hg;subst hP hw hK;obtain⟨f0,f1,f2,f3,f4,f5⟩:=hf it (by simp);exact wpAny_pyNext_range_end (I.ok.hd hc) st (by have:n<=i:=hg;lia) fun h' eb=>⟨rfl,I.turned (t':=s.toks) (fun b o hb e=>eb b o hb e) f0 f1 f3 f4 f5⟩
 self:=fun _ _ _ _ _ st h=>wpAny_pyIter_rangeiter st h
section
variable{X:Cx} {tg:Expr}
def eN(K:yt)(tl:TE):TI:=fun c H R=>tl c H fun x b=>∃a,x=.ref a/\(∃d,As K b a d)/\R (eK K a) b
def jo(K:yt)(tl:TE):TI:=fun c H R=>tl c H fun x b=>∃a,x=.ref a/\(∃d,Bg K b a d)/\R (eM K a) b
theorem CT{l:Expr}{tl:TE}(hl:PE X l tl):PI X tg l (eN X.K tl):=by
 intro pins s f H R I h;refine BK (hl pins s f H _ I h) fun v c g=>g.elim fun x i d j k=>?_;obtain⟨a,e,⟨t,m⟩,q⟩:=k;subst e;cases j;obtain⟨n,u,p,w⟩:=d.list m;refine wpAny_pyIter_list p.isList ?_;refine⟨c.heap.objs.size,[c.heap.objs.size],_,_,i,rfl,d.kept (t':=c.toks) fun b o e=>Heap.get?_push_of_some _ e,TF a _,⟨_,Heap.get?_push_size _ rfl,rfl,rfl⟩,fun b r=>?_,q⟩;have e:b=c.heap.objs.size:=by simpa using r
 subst e;exact d.OA (Nat.le_refl _) (d.Ax.fresh (Nat.le_refl _))
theorem Jj{l:Expr}{tl:TE}(hl:PE X l tl):PI X tg l (jo X.K tl):=by
 intro pins s g H R I h;refine BK (hl pins s g H _ I h) fun v c i=>i.elim fun x j d k m=>?_;obtain⟨a,e,⟨t,n⟩,q⟩:=m;subst e;cases k;obtain⟨f,u,p,w⟩:=d.tuple n;refine wpAny_pyIter_tuple (show c.heap.IsTuple a f.toArray from p) ?_;refine⟨c.heap.objs.size,[c.heap.objs.size],_,_,j,rfl,d.kept (t':=c.toks) fun b o e=>Heap.get?_push_of_some _ e,QN a _,⟨_,Heap.get?_push_size _ rfl,rfl,rfl⟩,fun b r=>?_,q⟩;have e:b=c.heap.objs.size:=by simpa using r
 subst e;exact d.OA (Nat.le_refl _) (d.Ax.fresh (Nat.le_refl _))
theorem Um{c:St}{R:It->Hp->Prop}{lo a:Int}{t u v:Tok}{tk:Nat}(I:Inv X pins c H s)(f: -(2 ^ 62)<=lo)(g:lo<2 ^ 62)(h: -(2 ^ 62)<=a)(h4:a<2 ^ 62)(q:R (dH lo (a-lo).toNat) H):wpAny (model X.prog X.w) X.A (pyIter (.ref s.heap.objs.size)) (jn X pins c tg R) E {s with heap:=s.heap.push {cls:=.type "range",data:=.fields #[.int lo t,.int a u,.int 1 v]},toks:=tk}:=by
 refine wpAny_pyIter_range (IsRange.new ..) (small_one f g h h4) ?_;have d:Inv X pins c H {s with heap:=s.heap.push {cls:=.type "range",data:=.fields #[.int lo t,.int a u,.int 1 v]},toks:=tk}:=I.kept fun b o e=>Heap.get?_push_of_some _ e;refine⟨(s.heap.push {cls:=.type "range",data:=.fields #[.int lo t,.int a u,.int 1 v]}).objs.size,[(s.heap.push {cls:=.type "range",data:=.fields #[.int lo t,.int a u,.int 1 v]}).objs.size],_,_,H,rfl,
  d.kept (t':=tk) fun b o e=>Heap.get?_push_of_some _ e,QO _ lo (a-lo).toNat,?_,fun b i=>?_,q⟩
 ·have j:lo+((0:Nat):Int)*1=lo:=by simp
  have k:(((a-lo).toNat:Nat):Int)-((0:Nat):Int)=Builtin.Range.rangeSize lo a 1:=by rw[rangeSize_one];split<;>lia
  show IsRangeIter _ _ (lo+((0:Nat):Int)*1) ((((a-lo).toNat:Nat):Int)-((0:Nat):Int)) 1;rw[j,k];exact Heap.get?_push_size _ rfl
 ·have e:b=(s.heap.push {cls:=.type "range",data:=.fields #[.int lo t,.int a u,.int 1 v]}).objs.size:=by simpa using i
  subst e;exact d.OA (Nat.le_refl _) (d.Ax.fresh (Nat.le_refl _))
def eO(a:TA):TI:=fun b H R=>a b H fun c d=>∃j:Int,c=[.int j]/\ -(2 ^ 62)<=j/\j<2 ^ 62/\R (dH 0 j.toNat) d
theorem Ao{a:Expr}{c:TA}{p pos:Pos}(d:Gl X "range")(f:X.mg "range"=none)(g:PA X [a] c)(i:starEach [a] X.env=[(false,eval a X.env)]:=by rfl):PI X tg (.Call (.Name "range" p) [a] [] pos) (eO c):=by
 intro pins s k H R I h;refine Call_ (El I d f boot_range (PyProof.Rows.callWith_type1 (BK (g pos pins s k H _ I h) fun v w l=>l.elim fun x y m n b=>?_) i rfl));obtain⟨j,e,b,o,q⟩:=b;subst e;cases n with
 |cons r u=>
  cases u;obtain⟨t,rfl⟩:=r;exact call_range_1 (Um m (by lia) (by lia) b o (by simpa using q))
def eP(f:TI)(g:TG)(h:TS):TS:=fun D a H=>f a H fun J j=>∃W:Nat->Nat->St->Hp->Prop,(∃m,W 0 m a j)/\∀i m a H,W i m a H-> (J.stop i H/\D.nx a H)∨(J.go i H/\∃N:St->Hp->Prop,(∀b c,N b c->∃e,e<m/\W (i+1) e b c)/\∀x c,J.N_ i H x c->g x a c fun d k=>h {D with nx:=N,ct:=N,bk:=D.nx} d k)
def H_(a:List Addr)(h:Heap):List (Addr×Obj):=a.filterMap fun b=>(h.get? b).map fun o=>(b,o)
theorem DD{a:List Addr}(c:b∈a)(e:h.get? b=some o):(b,o)∈H_ a h:=List.mem_filterMap.mpr ⟨b,c,by rw[e];rfl⟩
theorem TH{a:List Addr}{p:Addr×Obj}(c:p∈H_ a h):p.1∈a/\h.get? p.1=some p.2:=by
 obtain⟨b,d,e⟩:=List.mem_filterMap.mp c;cases q:h.get? b with
 |none=>rw[q]at e;cases e
 |some o=>
  rw[q]at e;have f:(b,o)=p:=yq e;subst f;exact⟨d,q⟩
theorem Inv.pinned{c:St}{a:List Addr}(I:Inv X pins c H s)(h:∀b∈a,FK X pins H b)(i:∀b∈a,∃o,s.heap.get? b=some o/\∀v,o.data≠.cell v):Inv X (pins++H_ a s.heap) c H s:=
 I.Rf fun p j=>(List.mem_append.mp j).elim (fun z=>I.pin p (List.mem_append_right _ z)) fun z=>by
  obtain⟨f,e⟩:=TH z;obtain⟨k,l,m,_⟩:=h p.1 f;obtain⟨o,g,d⟩:=i p.1 f;rw[e]at g;cases g;exact⟨e,k,l,m,d⟩
theorem Inv.Dk{pl:List (Addr×Obj)}{a:St}(I:Inv X (pins++pl) a H s):Inv X pins a H s:=I.Rf fun p b=>I.pin p (List.mem_append_right _ (List.mem_append_left _ b))
theorem aM{iter:Expr}{S:TI}{g:TG}{U:TS}{pos:Pos}(B:PassesOwn (model X.prog X.w) X.A X.env X.xe)(V:X.calm=true)(hi:PI X tg iter S)(hg:PG X tg g)(c:QC X body U)(hs:∀x,foldedSetIterable iter X.env x=pure x:=by intro _;rfl):PS X (.For tg iter body [] pos) (eP S g U):=by
 intro pins s Y H D I h;refine wpAny_For (BK (hi pins s Y H _ I h) fun v s1 h1=>BK h1 fun xk s2 h2=>?_) hs;obtain⟨it,C,Z,J,H2,e,I2,T,L,f2,W,⟨m0,w0⟩,turn⟩:=h2;subst e;have j:∀{t:Hp},(∀b∈C,t b=none)->∀b∈C,FK X pins t b:=fun hn b c=>⟨hn b c,(f2 b c).2⟩;refine codeAny_forLoop_any (fun n s'=>∃i k t,Inv X pins k t s'/\Z i s'.heap/\(∀b∈C,t b=none)/\W i n k t) ?_ m0 ⟨0,Y,H2,I2,L,fun b c=>(f2 b c).1,w0⟩;rintro n s3 ⟨i,l,K,I3,E,F,w3⟩;rcases turn i n l K w3 with⟨stop,qn⟩|⟨go,N,hN,step⟩
 ·refine wpAny_passesOwn B (BK (T.done X rfl rfl rfl V i pins s3 l K X.xe I3 (j F) E stop) fun r s4 ⟨M,I4⟩=>?_);subst M;exact wpAny_execs_nil ⟨l,K,I4,qn⟩
 ·refine wpAny_passesOwn B (BK (T.item X rfl rfl rfl V i pins s3 l K X.xe I3 (j F) E go) fun r s4 ⟨u,M,h4⟩=>?_);subst M;refine wpAny_passesOwn B (BK h4 fun _ s5 ⟨x,H5,I5,r5,y5,z,O⟩=>?_);have P:=I5.pinned (j O) (T.obj _ _ z);refine wpAny_passesOwn B (BK (hg _ s5 l H5 x u _ P r5 (step x H5 y5)) fun _ s6 ⟨Q,H6,I6,q6⟩=>?_);refine wpAny_passesOwn B (BK (c _ s6 Q H6 _ I6 q6) fun f R y=>?_);have again:∀{a:St}{p:Hp},Inv X (pins++H_ C s5.heap) a p R->N a p->∃m,m<n/\∃i k t,Inv X pins k t R/\Z i R.heap/\(∀b∈C,t b=none)/\W i m k t:=fun{a p} q G=>by
   obtain⟨m',hm,w7⟩:=hN a p G;refine⟨m',hm,i+1,a,p,q.Dk,T.keep _ _ _ z fun b c o e=>(q.pin (b,o) (List.mem_append_right _ (List.mem_append_right _ (DD c e)))).1,fun b c=>?_,w7⟩;obtain⟨o,e,d⟩:=T.obj _ _ z b c;exact(q.pin (b,o) (List.mem_append_right _ (List.mem_append_right _ (DD c e)))).2.1
  cases f with
  |next=>obtain⟨a,p,q,G⟩:=y;exact again q G
  |cont=>obtain⟨a,p,q,G⟩:=y;exact again q G
  |brk=>obtain⟨a,p,q,y⟩:=y;exact⟨a,p,q.Dk,y⟩
  |ret v=>obtain⟨x7,a,p,q,r7,y⟩:=y;exact⟨x7,a,p,q.Dk,r7,y⟩
end
variable{D:Ends}
theorem Dl{g:TG}{j:TS}{b:St}(Pv:Nat->St->Hp->Prop)(l:Pv 0 b H)(hl:∀i b H,i<=xs.length->Pv i b H->As K H a xs)(n:∀i x b H,xs[i]?=some x->Pv i b H->g x b H fun c H2=>j {D with nx:=Pv (i+1),ct:=Pv (i+1),bk:=D.nx} c H2)(o:∀b H,Pv xs.length b H->D.nx b H):
  ∃W:Nat->Nat->St->Hp->Prop,(∃m,W 0 m b H)/\∀i m b H,W i m b H-> ((eK K a).stop i H/\D.nx b H)∨((eK K a).go i H/\∃N:St->Hp->Prop,(∀d f,N d f->∃k,k<m/\W (i+1) k d f)/\∀x f,(eK K a).N_ i H x f->g x b f fun c H2=>j {D with nx:=N,ct:=N,bk:=D.nx} c H2):=by
 refine⟨fun i m b H=>m=xs.length-i/\i<=xs.length/\Pv i b H,⟨xs.length,by simp,Nat.zero_le _,l⟩,?_⟩;rintro i m b H ⟨rfl,r,p⟩;have q:=hl i b H r p;by_cases h:i<xs.length
 ·refine .inr ⟨⟨xs,xs[i],q,by simp[h]⟩,Pv (i+1),fun d f s=>⟨xs.length-(i+1),by lia,rfl,h,s⟩,fun x f y=>?_⟩;obtain⟨e,y⟩:=y;subst e;exact n i x b _ (y xs q) p
 ·have e:i=xs.length:=by lia
  subst e;exact .inl ⟨⟨xs,q,Nat.le_refl _⟩,o b H p⟩
theorem JN{g:TG}{j:TS}{b:St}(Pv:Nat->St->Hp->Prop)(l:Pv 0 b H)(hl:∀i b H,i<=xs.length->Pv i b H->Bg K H a xs)(n:∀i x b H,xs[i]?=some x->Pv i b H->g x b H fun c H2=>j {D with nx:=Pv (i+1),ct:=Pv (i+1),bk:=D.nx} c H2)(o:∀b H,Pv xs.length b H->D.nx b H):
  ∃W:Nat->Nat->St->Hp->Prop,(∃m,W 0 m b H)/\∀i m b H,W i m b H-> ((eM K a).stop i H/\D.nx b H)∨((eM K a).go i H/\∃N:St->Hp->Prop,(∀d f,N d f->∃k,k<m/\W (i+1) k d f)/\∀x f,(eM K a).N_ i H x f->g x b f fun c H2=>j {D with nx:=N,ct:=N,bk:=D.nx} c H2):=by
 refine⟨fun i m b H=>m=xs.length-i/\i<=xs.length/\Pv i b H,⟨xs.length,by simp,Nat.zero_le _,l⟩,?_⟩;rintro i m b H ⟨rfl,r,p⟩;have q:=hl i b H r p;by_cases h:i<xs.length
 ·refine .inr ⟨⟨xs,xs[i],q,by simp[h]⟩,Pv (i+1),fun d f s=>⟨xs.length-(i+1),by lia,rfl,h,s⟩,fun x f y=>?_⟩;obtain⟨e,y⟩:=y;subst e;exact n i x b _ (y xs q) p
 ·have e:i=xs.length:=by lia
  subst e;exact .inl ⟨⟨xs,q,Nat.le_refl _⟩,o b H p⟩
theorem CU{lo:Int}{g:TG}{h:TS}{a:St}(Pv:Nat->St->Hp->Prop)(k:Pv 0 a H)(l:∀i a H,i<n->Pv i a H->g (.int (lo+i)) a H fun b H2=>h {D with nx:=Pv (i+1),ct:=Pv (i+1),bk:=D.nx} b H2)(o:∀a H,Pv n a H->D.nx a H):
  ∃W:Nat->Nat->St->Hp->Prop,(∃m,W 0 m a H)/\∀i m a H,W i m a H-> ((dH lo n).stop i H/\D.nx a H)∨((dH lo n).go i H/\∃N:St->Hp->Prop,(∀c d,N c d->∃j,j<m/\W (i+1) j c d)/\∀x d,(dH lo n).N_ i H x d->g x a d fun b H2=>h {D with nx:=N,ct:=N,bk:=D.nx} b H2):=by
 refine⟨fun i m a H=>m=n-i/\i<=n/\Pv i a H,⟨n,by simp,Nat.zero_le _,k⟩,?_⟩;rintro i m a H ⟨rfl,r,p⟩;by_cases f:i<n
 ·refine .inr ⟨f,Pv (i+1),fun c d q=>⟨n-(i+1),by lia,rfl,f,q⟩,fun x d y=>?_⟩;obtain⟨e,y⟩:=y;subst e y;exact l i a _ f p
 ·have e:i=n:=by lia
  subst e;exact .inl ⟨Nat.le_refl _,o a H p⟩
abbrev R2:=V->V->Hp->VK->Prop
def Ek(X:Cx)(f:Value->Value->Sem Value)(r:R2):Prop:=
 ∀(pins:List (Addr×Obj))(s:Shared)(a:St)(H:Hp)(x y:V)(v u:Value)(Q:VK),Inv X pins a H s->RelV x v->RelV y u->r x y H Q->
  wpAny (model X.prog X.w) X.A (f v u) (EP X pins a Q) X.xe s
def jq(X:Cx)(f:Value->Sem Value)(r:V->Hp->VK->Prop):Prop:=
 ∀(pins:List (Addr×Obj))(s:Shared)(a:St)(H:Hp)(x:V)(v:Value)(Q:VK),Inv X pins a H s->RelV x v->r x H Q->
  wpAny (model X.prog X.w) X.A (f v) (EP X pins a Q) X.xe s
def Bh(X:Cx)(f:Value)(r:List V->Hp->VK->Prop):Prop:=
 ∀(pins:List (Addr×Obj))(s:Shared)(a:St)(H:Hp)(b:List V)(c:List Value)(Q:VK),Inv X pins a H s->Vals b c->r b H Q->
  wpAny (model X.prog X.w) X.A (call f c) (EP X pins a Q) X.xe s
def jr(X:Cx)(r:V->Hp->(Bool->Hp->Prop)->Prop):Prop:=
 ∀(pins:List (Addr×Obj))(s:Shared)(a:St)(H:Hp)(x:V)(v:Value)(Q:Bool->Hp->Prop),Inv X pins a H s->RelV x v->r x H Q->
  wpAny (model X.prog X.w) X.A (truthy v) (TP X pins a Q) X.xe s
def aN(r:R2)(b c:TE):TE:=fun a H Q=>b a H fun x d=>c a d fun y e=>r x y e Q
def rE(r:V->Hp->VK->Prop)(a:TE):TE:=fun b H Q=>a b H fun x c=>r x c Q
inductive rF(C:Int->Int->Prop)(g:Int->Int->V)(x y:V)(H:Hp)(Q:VK):Prop
 |mk(i j:_)(a:x=.int i)(b:y=.int j)(c:C i j)(d:Q (g i j) H)
def rI(C:Int->Int->Prop)(g:Int->Int->V):R2:=fun x y H Q=>rF C g x y H Q
inductive js(g:Int->Int->V)(x y:V)(H:Hp)(Q:VK):Prop
 |mk(i j:_)(a:x=.int i)(b:y=.int j)(c:Q (g i j) H)
def ZU(g:Int->Int->V):R2:=fun x y H Q=>js g x y H Q
inductive rG(g:Int->V)(x:V)(H:Hp)(Q:VK):Prop
 |mk(i:_)(a:x=.int i)(b:Q (g i) H)
def rU(g:Int->V):V->Hp->VK->Prop:=fun x H Q=>rG g x H Q
variable{f:Value->Value->Sem Value}{g:Int->Int->Int}
section
variable{X:Cx} {a b c:Expr} {ta tb tc:TE} {pos:Pos}
theorem aO(l:PE X a ta)(m:PE X b tb){R:V->V->Hp->Prop}(I:Inv X pins d H s)(h:ta d H fun x j=>tb d j fun y H2=>R x y H2)(n:∀v u i x y H2,Inv X pins d H2 i->RelV x v->RelV y u->R x y H2->wpAny (model X.prog X.w) X.A (f v u) Q X.xe i):
  wpAny (model X.prog X.w) X.A (eval a X.env) (fun v e=>wpAny (model X.prog X.w) X.A (eval b X.env) (fun u g=>wpAny (model X.prog X.w) X.A (f v u) Q X.xe g) X.xe e) X.xe s:=by
 refine BK (l pins s d H _ I h) fun v o k=>k.elim fun x j p q r=>?_;refine BK (m pins o d j _ p r) fun u i k=>k.elim fun y H2 t z B=>?_;exact n v u i x y H2 t q z B
theorem AO{op:Operator}{r:R2}(d:Ek X (binaryOp op) r)(e:PE X a ta)(f:PE X b tb):PE X (.BinOp a op b pos) (aN r ta tb):=by
 intro pins s g H Q I h;exact wpAny_BinOp (aO e f I h fun v u i x y j k l m q=>d pins i g j x y v u Q k l m q)
theorem Uo{op:UnaryOp}{r:V->Hp->VK->Prop}(e:jq X (unaryOp op) r)(f:PE X a ta):PE X (.UnaryOp op a pos) (rE r ta):=by
 intro pins s d H Q I h;exact UnaryOp_ (BK (f pins s d H _ I h) fun v g i=>i.elim fun x j k l m=>e pins g d j x v Q k l m)
theorem iU{C:Int->Int->Prop}(rule:∀(i j:Int) (t u:Tok) (s:Shared) (Q:Value->Shared->Prop) (E:Value->Shared->Prop),C i j->Q (.int (g i j) s.toks) {s with toks:=s.toks+1}->wpAny (model X.prog X.w) X.A (f (.int i t) (.int j u)) Q E s):
  Ek X f (rI C fun i j=>.int (g i j)):=by
 intro pins s m H x y v u Q I d e h;obtain⟨i,j,rfl,rfl,k,q⟩:=h;obtain⟨t,rfl⟩:=d;obtain⟨l,rfl⟩:=e;exact rule i j t l s _ _ k ⟨.int (g i j),H,I.tok _,⟨_,rfl⟩,q⟩
theorem eQ  (rule:∀(i j:Int)(t u:Tok)(s:Shared)(Q:Value->Shared->Prop)(E:Value->Shared->Prop),Q (.int (g i j) s.toks) {s with toks:=s.toks+1}->wpAny (model X.prog X.w) X.A (f (.int i t) (.int j u)) Q E s):
  Ek X f (ZU fun i j=>.int (g i j)):=by
 intro pins s l H x y v u Q I d e h;obtain⟨i,j,rfl,rfl,q⟩:=h;obtain⟨t,rfl⟩:=d;obtain⟨k,rfl⟩:=e;exact rule i j t k s _ _ ⟨.int (g i j),H,I.tok _,⟨_,rfl⟩,q⟩
theorem Xl{g:Int->Int->Bool}(rule:∀(i j:Int) (t u:Tok) (s:Shared) (Q:Value->Shared->Prop) (E:Value->Shared->Prop),Q (.bool (g i j)) s->wpAny (model X.prog X.w) X.A (f (.int i t) (.int j u)) Q E s):
  Ek X f (ZU fun i j=>.bl (g i j)):=by
 intro pins s l H x y v u Q I d e h;obtain⟨i,j,rfl,rfl,q⟩:=h;obtain⟨t,rfl⟩:=d;obtain⟨k,rfl⟩:=e;exact rule i j t k s _ _ ⟨.bl (g i j),H,I,rfl,q⟩
def jt(i j:Int):Prop:=0<j/\j<1073741824
def ju(i j:Int):Prop:=0<=j/\j<=1000000/\i.natAbs<2 ^ 64
def aP(i j:Int):Prop:=(-(2 ^ 64)<i/\i<2 ^ 64)∨(-(2 ^ 64)<j/\j<2 ^ 64)
theorem aP.ok{i j:Int}(h:aP i j):IntMulOk i j:=by
 rcases h with⟨d,e⟩|⟨d,e⟩
 ·exact .of_left (intBits_le_64 d e)
 ·exact .of_right (intBits_le_64 d e)
theorem Bp:Ek X (binaryOp .Add) (ZU fun i j=>.int (i+j)):=eQ fun _ _ _ _ _ _ _ q=>add_int q
theorem GW:Ek X (binaryOp .Sub) (ZU fun i j=>.int (i-j)):=eQ fun _ _ _ _ _ _ _ q=>sub_int q
theorem Em:Ek X (binaryOp .Mult) (rI aP fun i j=>.int (i*j)):=iU fun _ _ _ _ _ _ _ d q=>mul_int q d.ok
theorem By:Ek X (binaryOp .FloorDiv) (rI jt fun i j=>.int (i/j)):=iU fun i j _ _ _ _ _ d q=>by
 have e:(0:Int)<j:=d.1;have f:j<1073741824:=d.2;exact floordiv_int (by lia) (by rw[Int.fdiv_eq_ediv_of_nonneg i (by lia)];exact q) (.inl (PyProof.noPylong_small (by lia)))
theorem Aq:Ek X (binaryOp .Mod) (rI (fun _ j=>0<j) fun i j=>.int (i % j)):=iU fun i j _ _ _ _ _ d q=>by
 have e:(0:Int)<j:=d;exact mod_int' (by lia) (by rw[Int.fmod_eq_emod_of_nonneg i (by lia)];exact q)
theorem QP:Ek X (binaryOp .Pow) (rI ju fun i j=>.int (i ^ j.toNat)):=iU fun _ _ _ _ _ _ _ d q=>pow_int_small d.1 d.2.1 d.2.2 q
theorem rH{f:Value->Sem Value}{g:Int->Int}(rule:∀(i:Int) (t:Tok) (s:Shared) (Q:Value->Shared->Prop) (E:Value->Shared->Prop),Q (.int (g i) s.toks) {s with toks:=s.toks+1}->wpAny (model X.prog X.w) X.A (f (.int i t)) Q E s):
  jq X f (rU fun i=>.int (g i)):=by
 intro pins s e H x v Q I d h;obtain⟨i,rfl,q⟩:=h;obtain⟨t,rfl⟩:=d;exact rule i t s _ _ ⟨.int (g i),H,I.tok _,⟨_,rfl⟩,q⟩
theorem QQ:jq X (unaryOp .USub) (rU fun i=>.int (-i)):=rH fun _ _ _ _ _ q=>neg_int q
end
noncomputable def eR:V->V->Bool
 | .Ah,.Ah=>true| .Ah,.int _=>true| .int _,.Ah=>true| .Ah,.bl _=>true| .bl _,.Ah=>true| .Ah,.str _=>true| .str _,.Ah=>true
 | .int _,.int _=>true| .bl _,.bl _=>true| .str _,.str _=>true| .Sy _,.Sy _=>true
 | .int _,.str _=>true| .str _,.int _=>true| .bl _,.str _=>true| .str _,.bl _=>true
 |_,_=>false
def rJ:R2:=fun x y H Q=>eR x y=true/\Q (.bl (decide (x=y))) H
def rK:R2:=fun x y H Q=>eR x y=true/\Q (.bl (!decide (x=y))) H
theorem Rh{i j:Int}:decide (V.int i=V.int j)=(i==j):=by
 rw[Bool.eq_iff_iff];simp
theorem Up{i j:Bool}:decide (V.bl i=V.bl j)=(i==j):=by
 rw[Bool.eq_iff_iff];simp
theorem Ri{i j:Str}:decide (V.str i=V.str j)=(i==j):=by
 rw[Bool.eq_iff_iff];simp
theorem Rj{i j:Array UInt8}:decide (V.Sy i=V.Sy j)=(i.toList==j.toList):=by
 rw[Bool.eq_iff_iff];cases i;cases j;simp
section
variable{X:Cx} {a b c:Expr} {ta tb tc:TE} {pos:Pos}
theorem BA{Q:VK}{k f:Bool}(I:Inv X pins d H s)(q:Q (.bl k) H)(e:k=f):EP X pins d Q (.bool f) s:=by
 subst e;exact⟨.bl k,H,I,rfl,q⟩
theorem BC:Ek X (compareOp .Eq) rJ:=by
 intro pins s k H x y v u Q I g d h;obtain⟨f,q⟩:=h;cases x with
 |Ah=>
  cases g;cases y with
  |Ah=>cases d;exact PySem.EqNone.eq_none_none (BA I q (by simp))
  |bl j=>cases d;exact PySem.EqNone.eq_none_bool (BA I q (by simp))
  |int j=>obtain⟨e,rfl⟩:=d;exact PySem.EqNone.eq_none_int (BA I q (by simp))
  |str j=>obtain⟨e,rfl⟩:=d;exact PySem.EqNone.eq_none_str (BA I q (by simp))
  |_=>exact absurd (show false=true from f) Bool.false_ne_true
 |bl i=>
  cases g;cases y with
  |Ah=>cases d;exact PySem.EqNone.eq_bool_none (BA I q (by simp))
  |bl j=>cases d;exact eq_bool (BA I q Up)
  |str j=>obtain⟨e,rfl⟩:=d;exact PySem.EqMixed.eq_bool_str (BA I q (by simp))
  |_=>exact absurd (show false=true from f) Bool.false_ne_true
 |int i=>
  obtain⟨t,rfl⟩:=g;cases y with
  |Ah=>cases d;exact PySem.EqNone.eq_int_none (BA I q (by simp))
  |int j=>obtain⟨e,rfl⟩:=d;exact eq_int (BA I q Rh)
  |str j=>obtain⟨e,rfl⟩:=d;exact PySem.EqMixed.eq_int_str (BA I q (by simp))
  |_=>exact absurd (show false=true from f) Bool.false_ne_true
 |str i=>
  obtain⟨t,rfl⟩:=g;cases y with
  |Ah=>cases d;exact PySem.EqNone.eq_str_none (BA I q (by simp))
  |bl j=>cases d;exact PySem.EqMixed.eq_str_bool (BA I q (by simp))
  |int j=>obtain⟨e,rfl⟩:=d;exact PySem.EqMixed.eq_str_int (BA I q (by simp))
  |str j=>obtain⟨e,rfl⟩:=d;exact eq_str (BA I q Ri)
  |_=>exact absurd (show false=true from f) Bool.false_ne_true
 |Sy i=>
  obtain⟨t,rfl⟩:=g;cases y with
  |Sy j=>obtain⟨e,rfl⟩:=d;exact PySem.W.eq_bytes (BA I q Rj)
  |_=>exact absurd (show false=true from f) Bool.false_ne_true
 |_=>cases y<;>exact absurd (show false=true from f) Bool.false_ne_true
theorem Uq:Ek X (compareOp .NotEq) rK:=by
 intro pins s k H x y v u Q I g d h;obtain⟨f,q⟩:=h;cases x with
 |Ah=>
  cases g;cases y with
  |Ah=>cases d;exact PySem.EqNone.ne_none_none (BA I q (by simp))
  |bl j=>cases d;exact PySem.EqNone.ne_none_bool (BA I q (by simp))
  |int j=>obtain⟨e,rfl⟩:=d;exact PySem.EqNone.ne_none_int (BA I q (by simp))
  |str j=>obtain⟨e,rfl⟩:=d;exact PySem.EqNone.ne_none_str (BA I q (by simp))
  |_=>exact absurd (show false=true from f) Bool.false_ne_true
 |bl i=>
  cases g;cases y with
  |Ah=>cases d;exact PySem.EqNone.ne_bool_none (BA I q (by simp))
  |bl j=>cases d;exact ne_bool (BA I q (congrArg not Up))
  |str j=>obtain⟨e,rfl⟩:=d;exact PySem.EqMixed.ne_bool_str (BA I q (by simp))
  |_=>exact absurd (show false=true from f) Bool.false_ne_true
 |int i=>
  obtain⟨t,rfl⟩:=g;cases y with
  |Ah=>cases d;exact PySem.EqNone.ne_int_none (BA I q (by simp))
  |int j=>obtain⟨e,rfl⟩:=d;exact ne_int (BA I q (congrArg not Rh))
  |str j=>obtain⟨e,rfl⟩:=d;exact PySem.EqMixed.ne_int_str (BA I q (by simp))
  |_=>exact absurd (show false=true from f) Bool.false_ne_true
 |str i=>
  obtain⟨t,rfl⟩:=g;cases y with
  |Ah=>cases d;exact PySem.EqNone.ne_str_none (BA I q (by simp))
  |bl j=>cases d;exact PySem.EqMixed.ne_str_bool (BA I q (by simp))
  |int j=>obtain⟨e,rfl⟩:=d;exact PySem.EqMixed.ne_str_int (BA I q (by simp))
  |str j=>obtain⟨e,rfl⟩:=d;exact ne_str (BA I q (congrArg not Ri))
  |_=>exact absurd (show false=true from f) Bool.false_ne_true
 |Sy i=>
  obtain⟨t,rfl⟩:=g;cases y with
  |Sy j=>obtain⟨e,rfl⟩:=d;exact PySem.W.ne_bytes (BA I q (congrArg not Rj))
  |_=>exact absurd (show false=true from f) Bool.false_ne_true
 |_=>cases y<;>exact absurd (show false=true from f) Bool.false_ne_true
theorem La:Ek X (compareOp .Lt) (ZU fun i j=>.bl (decide (i<j))):=Xl fun _ _ _ _ _ _ _ q=>lt_int q
theorem eS:Ek X (compareOp .LtE) (ZU fun i j=>.bl (decide (i<=j))):=Xl fun _ _ _ _ _ _ _ q=>le_int q
theorem Rl:Ek X (compareOp .Gt) (ZU fun i j=>.bl (decide (j<i))):=Xl fun _ _ _ _ _ _ _ q=>gt_int q
theorem eU:Ek X (compareOp .GtE) (ZU fun i j=>.bl (decide (j<=i))):=Xl fun _ _ _ _ _ _ _ q=>ge_int q
theorem MR:Ek X (compareOp .Is) (fun x y H Q=>y=.Ah/\Q (.bl (decide (x=.Ah))) H):=by
 intro pins s f H x y v u Q I d e h;obtain⟨rfl,q⟩:=h;cases e;refine is_none_gen (BA I q ?_);cases x<;>first
  |(cases d;rfl)
  |(obtain⟨t,rfl⟩:=d;rfl)
theorem JO:Ek X (compareOp .IsNot) (fun x y H Q=>y=.Ah/\Q (.bl (!decide (x=.Ah))) H):=by
 intro pins s f H x y v u Q I d e h;obtain⟨rfl,q⟩:=h;cases e;refine isnot_none_gen (BA I q ?_);cases x<;>first
  |(cases d;rfl)
  |(obtain⟨t,rfl⟩:=d;rfl)
theorem AV(b:Expr)(h:op≠.In:=by decide)(d:op≠.NotIn:=by decide):behindInMarks op b=false:=by
 have e:(op==CmpOp.In)=false:=by cases op<;>first|rfl|exact absurd rfl h
 have f:(op==CmpOp.NotIn)=false:=by cases op<;>first|rfl|exact absurd rfl d
 cases b<;>simp[behindInMarks,e,f]
theorem Dz{r:R2}(d:Ek X (compareOp op) r)(e:PE X a ta)(f:PE X b tb)(g:behindInMarks op b=false):PE X (.Compare a [op] [b] pos) (aN r ta tb):=by
 intro pins s i H Q I h;exact wpAny_Compare1 (aO e f I h fun v u j x y k l m n q=>d pins j i k x y v u Q l m n q) g
def eV(t:TE):TT:=fun d H Q=>t d H fun x e=>oM x e Q
theorem AR{r:R2}(f:Ek X (compareOp op) r)(g:PE X a ta)(i:PE X b tb)(j:behindInMarks op b=false):PT X (.Compare a [op] [b] pos) (eV (aN r ta tb)):=by
 intro pins s d H Q I h;refine wpAny_isTrue_Compare1 (BK (g pins s d H _ I h) fun v l m=>m.elim fun x n o p q=>BK (i pins l d n _ o q) fun u t ⟨y,w,A,B,C⟩=>
  BK (f pins t d w x y v u _ A p B C) fun c J ⟨z,D,E,F,k,e,G⟩=>?_) j
 subst e;cases F;exact wpAny_truthy_bool ⟨D,E,G⟩
def aQ(r f:R2)(ta tb tc:TE):TE:=fun d H Q=>ta d H fun x g=>tb d g fun y h=>r x y h fun z e=>∃k,z=.bl k/\ (if k=true then tc d e fun i j=>f y i j Q else Q (.bl false) e)
theorem Ur{f:CmpOp}{r l:R2}(q:Ek X (compareOp op) r)(i:Ek X (compareOp f) l)(t:PE X a ta)(w:PE X b tb)(A:PE X c tc)(B:lastMarks [op,f] [b,c]=false:=by with_unfolding_all rfl):PE X (.Compare a [op,f] [b,c] pos) (aQ r l ta tb tc):=by
 intro pins s g H Q I h;refine Compare_chain (BK (t pins s g H _ I h) fun v C j=>j.elim fun x D E F G=>chain_link (BK (w pins C g D _ E G) fun u J ⟨y,K,L,m,M⟩=>
  BK (q pins J g K x y v u _ L F m M) fun d N ⟨z,n,o,O,k,e,p⟩=>?_)) B
 subst e;cases O;refine wpAny_truthy_bool ?_;cases k with
 |false=>exact ite_ff ⟨.bl false,n,o,rfl,p⟩
 |true=>exact ite_tt (chain_last (BK (A pins N g n _ o p) fun P R j=>j.elim fun S T U V W=>i pins R g T y S u P Q U m V W))
def eW(K:yt)(x:V)(H:Hp)(k:Bool):Prop:=
 match x with
 | .Ah=>k=false
 | .bl b=>k=b
 | .int i=>k=(i !=0)
 | .str y=>y.length<=sizeLine/\k=((y.length:Int) !=0)
 | .Sy y=>y.size<=sizeLine/\k=((y.size:Int) !=0)
 | .ref p=>(∃d,As K H p d/\k= !d.isEmpty)∨(∃d,Bg K H p d/\k= !d.isEmpty)∨∃kvs,H p=some (.dK kvs)/\k= !kvs.isEmpty
 |_=>False
theorem QR{d:Type}{kvs:List (d×V)}{vs:List (d×Value)}(r:KV kvs vs):(!vs.isEmpty)= !kvs.isEmpty:=by
 cases r<;>rfl
theorem Jk{its:List Value}(r:Vals xs its):(!its.toArray.isEmpty)= !xs.isEmpty:=by
 cases r<;>simp
theorem IA:(sizeLine:Nat)<2 ^ 63:=by rw[sizeLine_eq];decide
theorem aR:jr X (fun x H Q=>∃k,eW X.K x H k/\Q k H):=by
 intro pins s A H x v Q I g h;obtain⟨k,e,q⟩:=h;have B:=IA;have C:sizeLine=16777216:=sizeLine_eq;cases x with
 |Ah=>
  cases g;have d:k=false:=e;subst d;exact truthy_none ⟨H,I,q⟩
 |bl b=>
  cases g;have d:k=b:=e;subst d;exact wpAny_truthy_bool ⟨H,I,q⟩
 |int i=>
  obtain⟨t,rfl⟩:=g;have d:k=(i !=0):=e;subst d;exact PySem.P.truthy_int ⟨H,I,q⟩
 |str y=>
  obtain⟨t,rfl⟩:=g;obtain⟨u,d⟩:y.length<=sizeLine/\k=((y.length:Int) !=0):=e;subst d;exact PySem.P.truthy_str (by lia) ⟨H,I.tok _,q⟩
 |Sy y=>
  obtain⟨t,rfl⟩:=g;obtain⟨u,d⟩:y.size<=sizeLine/\k=((y.size:Int) !=0):=e;subst d;exact PySem.W.truthy_bytes (by lia) ⟨H,I.tok _,q⟩
 |ref p=>
  cases g;have d:(∃f,As X.K H p f/\k= !f.isEmpty)∨(∃f,Bg X.K H p f/\k= !f.isEmpty)∨∃kvs,H p=some (.dK kvs)/\k= !kvs.isEmpty:=e;rcases d with⟨f,j,d⟩|⟨f,j,d⟩|⟨kvs,j,d⟩
  ·subst d;obtain⟨n,r,pl,o⟩:=I.list j;have hlen:=r.length;exact wpAny_truthy_list pl.isList (by simp only[List.size_toArray];lia) ⟨H,I.tok _,by rw[Jk r];exact q⟩
  ·subst d;obtain⟨n,r,pl,o⟩:=I.tuple j;have hlen:=r.length;exact truthy_tuple pl (by simp only[List.size_toArray];lia) ⟨H,I.tok _,by rw[Jk r];exact q⟩
  ·subst d;obtain⟨o,z,l,r,m⟩:kvs.length<=sizeLine/\(p==sysModules)=false/\∃l,KV kvs l/\s.heap.DictOf (Al X.prog X.w) p l:=I.Ax p _ j;have hlen:kvs.length=l.length:=Paired.length r;exact wpAny_truthy_dict z m (by lia) ⟨H,I.tok _,by rw[QR r];exact q⟩
 |_=>exact(show False from e).elim
theorem Us(e:PE X a ta)(f:∀whole,isTrue a X.env whole=(do let v<-whole;standAt a.pos;holding [v] (truthy v))):
  PT X a (fun d H Q=>ta d H fun x H'=>∃k,eW X.K x H' k/\Q k H'):=by
 intro pins s d H Q I h;exact isTrue_plain (BK (e pins s d H _ I h) fun v g i=>i.elim fun x j l m n=>aR pins g d j x v Q l m n) (f _)
inductive LJ(x y:V)(H:Hp)(Q:VK):Prop
 |mk(i j:_)(d:x=.str i)(e:y=.str j)(f:i.length+j.length<=sizeLine)(g:Q (.str (i++j)) H)
def MS:V->V->Hp->VK->Prop:=fun x y H Q=>LJ x y H Q
theorem En:Ek X (binaryOp .Add) MS:=by
 intro pins s k H x y v u Q I d e h;obtain⟨i,j,rfl,rfl,f,q⟩:=h;obtain⟨t,rfl⟩:=d;obtain⟨g,rfl⟩:=e;exact add_str (fun g l=>⟨.str (i++j),H,I.tok _,⟨_,rfl⟩,q⟩) f
theorem vals1{x:V}(r:Vals [x] us):∃u,us=[u]/\RelV x u:=by
 cases r with
 |cons d e=>cases e;exact⟨_,rfl,d⟩
theorem vals2{x y:V}(r:Vals [x,y] us):∃u d,us=[u,d]/\RelV x u/\RelV y d:=by
 cases r with
 |cons e f=>
  cases f with
  |cons g h=>cases h;exact⟨_,_,rfl,e,g⟩
theorem Fx:Bh X (.type "int") (fun xs H Q=>(∃i,xs=[.int i]/\Q (.int i) H)∨∃k,xs=[.bl k]/\Q (.int (if k then 1 else 0)) H):=by
 intro pins s e H xs f Q I r h;rcases h with⟨i,rfl,q⟩|⟨k,rfl,q⟩
 ·obtain⟨u,rfl,t,rfl⟩:=vals1 r;exact call_int_int ⟨.int i,H,I,⟨_,rfl⟩,q⟩
 ·obtain⟨u,rfl,d⟩:=vals1 r;cases d;exact call_int_bool ⟨.int (if k then 1 else 0),H,I.tok _,⟨_,rfl⟩,q⟩
end
structure aS(h:Heap)(x dx C:Addr)(mA:Str->Option Value):Prop where
 obj:h.get? x=some (PySem.W.instObj C dx)
 ns:h.Ns1 dx mA
 ne:dx≠x
theorem TJ{c:Addr}{d:Str->Option Value}(n:h.Ns1 c d):∃f,h.get? c=some f/\∀name,PySem.W.lookIn name f=some (d name):=by
 obtain⟨o,g,r,i,j,k,_,l⟩:=n;refine⟨o,i,fun name=>?_⟩;have e:=l name;unfold nsFind findBy at e;rw[<-Array.find?_toList]at e;unfold PySem.W.lookIn;rw[j];dsimp only;split
 ·rename_i y q
  rw[q]at e;exact congrArg some e
 ·rename_i q
  rw[q]at e;have a:g.toList.any (·.refKey)=false:=by
   rw[List.any_eq_false];intro y m;obtain⟨z,t,b⟩:=k y (Array.mem_toList_iff.mp m);simp[DictEntry.refKey,b]
  have p:¬g.toList.any (·.refKey)=true:=by rw[a];exact Bool.false_ne_true
  rw[if_neg p];exact congrArg some e
theorem aS.look{x C:Addr}{c:Str->Option Value}(I:aS h x b C c):∃a,PySem.W.InstAt h x (PySem.W.instObj C b) C (some a)/\∀name,PySem.W.lookIn name a=some (c name):=
 let⟨a,d,e⟩:=TJ I.ns
 ⟨a,⟨I.obj,rfl,rfl,d⟩,e⟩
section
variable{prog:Program} {w:World} {A:Around} {E:Value->Shared->Prop} {s:Shared} {K:yt} {x dx C f:Addr} {mA:Str->Option Value} {name:Str} {v:Value}
end
theorem Hv.some_of{o:Option Value}(r:Hv (some v) o):∃u,o=some u/\RelV v u:=by
 cases o with
 |none=>exact(show False from r).elim
 |some u=>exact⟨u,rfl,r⟩
section
variable{P:Program} {w:World} {H H':Hp} {h h':Heap} {a C dx:Addr} {fs qz:List (Str×V)}
theorem Xm(c:EN P w H h)(e:H a=some (.ins C dx fs)):∃b,aS h a dx C b/\(∀f,Hv (fs.lookup f) (b f))/\PySem.Within b (fs.map (·.1))/\fs.length<=1000/\H dx=some (.own a):=by
 obtain⟨d,z,ne,g,b,n,r,q⟩:=(show A_ P w H h a (.ins C dx fs)from c a _ e);exact⟨b,⟨g,n,ne⟩,r,q,z,d⟩
end
structure jv(K:yt)(C:Addr):Prop where
 pg:PySem.W.plainGet K C Str.empty=true
 hd:PySem.W.hasDictIn K C=true
 po:PySem.W.plainOver K C=true
 sa:PySem.W.findIn K (.ref C) "__setattr__"=some (some (.builtin "object.__setattr__"))
theorem jv.get{C:Addr}(c:jv K C)(f:Str):PySem.W.plainGet K C f=true:=c.pg
section
variable{X:Cx} {pins:List (Addr×Obj)} {σ:St} {H:Hp} {s:Shared} {a C dx:Addr} {fs:List (Str×V)} {f:Str} {v:V} {A:Around} {E:Value->Shared->Prop}
end
section
variable{X:Cx} {o e value:Expr} {f:Str} {pos pos' jx:Pos} {ta tv:TE}
end
section
variable{X:Cx} {pins:List (Addr×Obj)} {σ:St} {H:Hp} {s:Shared} {A:Around} {E:Value->Shared->Prop} {Q:Value->Shared->Prop} {c:Value} {b:Bool}
inductive JA(K:yt)(H:Hp):V->Value->Prop where
 |Ah:JA K H .Ah (.type "NoneType")
 |bl (x:Bool):JA K H (.bl x) (.type "bool")
 |int (i:Int):JA K H (.int i) (.type "int")
 |str (x:Str):JA K H (.str x) (.type "str")
 |dD (x:UInt64):JA K H (.dD x) (.type "float")
 |lst {a:Addr} {xs:List V} (e:H a=some (.lst xs)):JA K H (.ref a) (.type "list")
 |Ba {a:Addr} {o:Obj} {xs:List V} (e:H a=some (.Ba o (.lst xs))):JA K H (.ref a) (.type "list")
 |tup {a:Addr} {xs:List V} (e:H a=some (.tup xs)):JA K H (.ref a) (.type "tuple")
 |dK {a:Addr} {kvs:List (Key×V)} (e:H a=some (.dK kvs)):JA K H (.ref a) (.type "dict")
 |dT {a:Addr} {kvs:List (List Key×V)} (e:H a=some (.dT kvs)):JA K H (.ref a) (.type "dict")
 |ins {a C d:Addr} {fs:List (Str×V)} (e:H a=some (.ins C d fs)) (cl:jv K C) (g:PySem.W.findIn K (.ref C) "__class__"=some (some (.builtin "object.__class__"))) (h:PySem.W.specialIn K (.builtin "object.__class__") "__get__"=some (some (.builtin "getset_descriptor.__get__"))) (f:PySem.W.takesIn K (.builtin "object.__class__")=some true) (j:PySem.W.mroIn K C (.type "object")=some true):JA K H (.ref a) (.ref C)
theorem ER{x:V}{t:Value}(I:Inv X pins σ H s)(d:RelV x u)(ty:JA X.K H x t)(e:PySem.W.kitOne X.K t c=some b)(h:∀tk,Q (.bool b) {s with toks:=tk}):
  wpAny (model X.prog X.w) A (call (.builtin "isinstance") [u,c]) Q E s:=by
 cases ty with
 |Ah=>cases(show u=Value.none from d);exact PySem.W.kia_one PySem.W.kitx_none I.GP True.intro e (fun z=>nomatch z) h
 |bl y=>cases(show u=Value.bool y from d);exact PySem.W.kia_one PySem.W.kitx_bool I.GP True.intro e (fun z=>nomatch z) h
 |int i=>obtain⟨t,q⟩:=(show∃t,u=Value.int i t from d);cases q;exact PySem.W.kia_one PySem.W.kitx_int I.GP True.intro e (fun z=>nomatch z) h
 |str y=>obtain⟨t,q⟩:=(show∃t,u=Value.str y t from d);cases q;exact PySem.W.kia_one PySem.W.kitx_str I.GP True.intro e (fun z=>nomatch z) h
 |dD y=>obtain⟨t,q⟩:=(show∃t,u=Value.float y t from d);cases q;exact PySem.W.kia_one PySem.W.kitx_float I.GP True.intro e (fun z=>nomatch z) h
 |@lst a j f=>
  cases(show u=Value.ref a from d);obtain⟨_,_,n,_,g⟩:=(show A_ X.prog X.w H s.heap a (.lst j)from I.Ax a _ f);exact PySem.W.kia_one PySem.W.kitx_list I.GP ⟨_,g,rfl⟩ e (fun z=>nomatch z) h
 |@Ba a r j f=>
  cases(show u=Value.ref a from d);obtain⟨_,_,_,n,_,g⟩:=(show A_ X.prog X.w H s.heap a (.Ba r (.lst j))from I.Ax a _ f);exact PySem.W.kia_one PySem.W.kitx_list I.GP ⟨_,g,rfl⟩ e (fun z=>nomatch z) h
 |@tup a j f=>
  cases(show u=Value.ref a from d);obtain⟨_,_,_,p⟩:=(show A_ X.prog X.w H s.heap a (.tup j)from I.Ax a _ f);obtain⟨o,g,k,_⟩:=p;exact PySem.W.kia_one PySem.W.kitx_tuple I.GP ⟨o,g,k⟩ e (fun z=>nomatch z) h
 |@dK a kvs f=>
  cases(show u=Value.ref a from d);obtain⟨_,_,L,_,p⟩:=(show A_ X.prog X.w H s.heap a (.dK kvs)from I.Ax a _ f);obtain⟨o,v,B,g,k,_⟩:=p;exact PySem.W.kia_one PySem.W.kitx_dict I.GP ⟨o,g,k.1⟩ e (fun z=>nomatch z) h
 |@dT a kvs f=>
  cases(show u=Value.ref a from d);obtain⟨_,_,j,_,o,v,B,g,k,_⟩:=(show A_ X.prog X.w H s.heap a (.dT kvs)from I.Ax a _ f);exact PySem.W.kia_one PySem.W.kitx_dict I.GP ⟨o,g,k.1⟩ e (fun z=>nomatch z) h
 |@ins a C M fs f m D F l G=>
  cases(show u=Value.ref a from d);obtain⟨N,O,_⟩:=Xm I.Ax f;obtain⟨P,J,_⟩:=O.look;exact PySem.W.kia_one (PySem.W.kitx_own (m.get _) m.hd D F l G) I.GP J e (fun z=>nomatch z) h
end
structure Bi(k:Nat)(A:Around):Prop where
 hd:A.handled=none
 dp:A.depth+3*k+5<recursionLimit
 un:A.units+16*k+200<cLine
 gd:A.guards=some []
theorem Bi.mono{j k:Nat}(r:Bi k A)(h:j<=k):Bi j A:=⟨r.hd,by have:=r.dp;lia,by have:=r.un;lia,r.gd⟩
theorem Bi.deeper{k:Nat}(r:Bi (k+1) A)(env:Env):Bi k (A.deeper env):=
 ⟨r.hd,by have:=r.dp;show A.depth+1+3*k+5<_;lia,by have:=r.un;show A.units+3+16*k+200<_;lia,r.gd⟩
theorem Bi.depth{k:Nat}(r:Bi k A):A.depth<recursionLimit:=by have:=r.dp;lia
theorem Bi.units{k:Nat}(r:Bi k A):A.units+64<cLine:=by have:=r.un;lia
theorem Bi.MT{k:Nat}(r:Bi k A):A.units<cLine:=by have:=r.un;lia
def aU:TA:=fun _ H Q=>Q [] H
def Ut(b:TE)(tr:TA):TA:=fun a H Q=>b a H fun x c=>tr a c fun d e=>Q (x::d) e
section
variable{X:Cx} {e:Expr} {es:List Expr} {te:TE} {t:TA} {pos:Pos}
theorem CH:PA X [] aU:=fun _ _ _ _ H Q I h=>Calls.spliced_nil ⟨[],H,I,.nil,h⟩
theorem AA(c:PE X e te)(d:PA X es t)(f:starEach (e::es) X.env=(false,eval e X.env)::starEach es X.env:=by rfl):PA X (e::es) (Ut te t):=by
 intro pos pins s b H Q I h;rw[f];show wpAny _ _ (spliced ((false,eval e X.env)::backTo pos (starEach es X.env))) _ _ s;refine Calls.spliced_cons (BK (c pins s b H _ I h) fun u g a=>a.elim fun x i j k l=>?_);exact BK (d pos pins g b i _ j l) fun r v a=>a.elim fun m n o p q=>⟨x::m,n,o,.cons k p,q⟩
def jy(t:TA):TE:=fun c H Q=>t c H fun a b=>a.length<=sizeLine/\∀p,b p=none->Q (.ref p) (upd b p (.tup a))
def jz(t:TA):TE:=fun c H Q=>t c H fun a b=>a.length<=sizeLine/\∀p,b p=none->Q (.ref p) (upd b p (.lst a))
theorem Ad{f}(h:PA X es t):PE X (.Tuple es f pos) (jy t):=by
 intro pins s g H Q I i;refine wpAny_Tuple_spliced (BK (h pos pins s g H _ I i) fun j a ⟨k,c,d,r,z,q⟩=>⟨by rw[<-r.length];exact z,?_⟩);have l:c a.heap.objs.size=none:=d.Ax.fresh (Nat.le_refl _);refine⟨.ref a.heap.objs.size,upd c a.heap.objs.size (.tup k),d.laid (t':=a.toks) (fun b u e=>Heap.get?_push_of_some _ e) (Nat.le_refl _) ?_,rfl,q _ l⟩;exact⟨z,j,r,⟨_,Heap.get?_push_size _ rfl,rfl,_,rfl⟩⟩
theorem BD(h:PA X es t):PE X (.List es pos) (jz t):=by
 intro pins s f H Q I g;refine wpAny_List_spliced (BK (h pos pins s f H _ I g) fun i a ⟨j,c,d,r,z,q⟩=>⟨by rw[<-r.length];exact z,?_⟩);have k:c a.heap.objs.size=none:=d.Ax.fresh (Nat.le_refl _);refine⟨.ref a.heap.objs.size,upd c a.heap.objs.size (.lst j),d.laid (t':=a.toks) (fun b u e=>Heap.get?_push_of_some _ e) (Nat.le_refl _) ?_,rfl,q _ k⟩;exact⟨z,i,0,r,Heap.get?_push_size _ rfl⟩
end
abbrev Sp:=List V->Hp->VK->XK->Prop
abbrev Ub:=List Env->Hp->Shared->XK->Value->Shared->Prop
structure Uu(P:Program)(w:World)(K:yt)(mg:Str->Option Value)(base:Heap)(A:Around)(outer:List Env)(s:Shared)(H:Hp):Prop where
 frames:A.frames=some outer
 mod:Mod K mg base
 bs:∀b o,base.get? b=some o->s.heap.get? b=some o/\H b=none
 S_:base.objs.size<=s.heap.objs.size
 Gv:s.heap.FunFrames base outer
 Xi:∀b∈Rc outer,H b=none
 Ax:EN P w H s.heap
 bare:AllBare s.gens
inductive CE(outer:List Env)(P:Program)(w:World)(H:Hp)(s:Shared)(Q:VK)(u:Value)(a:Shared):Prop
 |mk(v:V)(H':Hp)(os:a.os=s.os)(bare:AllBare a.gens)(un:Un (Rc outer) [] H H' s.heap a.heap)(b:EN P w H' a.heap)(r:RelV v u)(q:Q v H')
def CR(b:Ub)(outer:List Env)(P:Program)(w:World)(H:Hp)(s:Shared)(Q:VK)(E:XK)(r:Result)(a:Shared):Prop:=
 match r with
 | .ok (.ret u)=>CE outer P w H s Q u a
 | .ok _=>False
 | .error e=>b outer H s E e a
structure Au(P:Program)(w:World)(K:yt)(mg:Str->Option Value)(base:Heap)(CX:Ub)(k:Nat)(f:Addr)(fd:FuncData)(ps:List Str)(sp:Sp):Prop where
 len:∀vs H Q E,sp vs H Q E->vs.length=ps.length
 run:∀(A:Around)(outer:List Env)(s:Shared)(H:Hp)(args:Args)(us:List Value)(vs:List V)(Q:VK)(E:XK),Bi k A->Uu P w K mg base A outer s H->BindsTo s fd args (ps.zip us)->Vals vs us->sp vs H Q E->
  codeAny (model P w) A (.call (.ref f) args) (CR CX outer P w H s Q E) s
variable{mg:Str->Option Value}{ps:List Str}{base:Heap}
theorem Au.imp{b:Ub}{k:Nat}{f:Addr}{c:FuncData}{sp a:Sp}(F:Au P w K mg base b k f c ps sp)(h:∀vs H Q E,a vs H Q E->sp vs H Q E):Au P w K mg base b k f c ps a:=
 ⟨fun vs H Q E q=>F.len vs H Q E (h _ _ _ _ q),fun A outer s H args d vs Q E e g i j l=>F.run A outer s H args d vs Q E e g i j (h _ _ _ _ l)⟩
section
variable{X:Cx} {pins:List (Addr×Obj)} {σ:St} {H:Hp} {s s':Shared}
theorem Inv.eX(I:Inv X pins σ H s):Uu X.prog X.w X.K X.mg X.base X.A X.stack s H:=
 ⟨I.ok.frames,I.ok.mod,I.bs,Nat.le_trans I.ok.S_ I.sz,I.stack,I.MP,I.Ax,I.bare⟩
theorem Inv.after{Q:VK}(I:Inv X pins σ H s)(h:CE X.stack X.prog X.w H s Q u s'):EP X pins σ Q u s':=by
 obtain⟨v,e,os,bare,un,a,r,q⟩:=h;obtain⟨f,g,d,t,c⟩:=s';obtain rfl:c=s.os:=os;exact⟨v,e,I.call (h':=f) (g':=g) (d':=d) (t':=t) (ch:=[]) un a bare (fun b z=>absurd z (by simp)),r,q⟩
end
def Lb(sp:Sp)(a:List V)(E:XK)(t:TA):TE:=fun b H Q=>t b H fun c d=>sp (c++a) d Q E
def Binds(K:yt)(c:FuncData)(ps:List Str)(b:List Value):Prop:=
 ∀(s:Shared)(a:List Value),K.In s.heap->(a++b).length=ps.length->BindsTo s c ⟨a,[]⟩ (ps.zip (a++b))
theorem Binds.all{a:FuncData}(h:∀us:List Value,us.length=ps.length->bindArgs a ⟨us,[]⟩=pure (ps.zip us)):Binds K a ps []:=fun s us _ b=>by
 rw[List.append_nil]at b⊢;exact .of_eq (h us b)
def Passes(b:Ub)(X:Cx)(E:XK):Prop:=∀(pins:List (Addr×Obj))(c:St)(H:Hp)(s:Shared)(e:Value)(a:Shared),Inv X pins c H s->b X.stack H s E e a->X.xe e a
variable{vs:List V}
section
variable{X:Cx} {CX:Ub} {k:Nat} {f C:Addr} {fd:FuncData} {ps:List Str} {sp:Sp} {QD:List V} {ds:List Value} {E:XK} {x m:Str} {p pos apos:Pos} {e o:Expr} {es:List Expr} {ta:TE} {t:TA}
theorem QS{b:St}{Q:VK}(F:Au X.prog X.w X.K X.mg X.base CX k f fd ps sp)(d:Bi k X.A)(g:Binds X.K fd ps ds)(i:Vals QD ds)(j:Passes CX X E)(I:Inv X pins b H s)(r:Vals vs us)(h:sp (vs++QD) H Q E):wpAny (model X.prog X.w) X.A (call (.ref f) us) (EP X pins b Q) X.xe s:=by
 have c:Vals (vs++QD) (us++ds):=r.append i;have l:(us++ds).length=ps.length:=by rw[<-c.length];exact F.len _ _ _ _ h
 refine wpAny_call (codeAny_mono (F.run X.A X.stack s H ⟨us,[]⟩ (us++ds) (vs++QD) Q E d I.eX (g s us I.GP l) c h) fun r n a=>?_);cases r with
 |error e=>exact j pins b H s e n I a
 |ok q=>
  cases q with
  |ret u=>exact I.after a
  |next=>exact False.elim a
  |brk=>exact False.elim a
  |cont=>exact False.elim a
theorem Rm(F:Au X.prog X.w X.K X.mg X.base CX k f fd ps sp)(d:Bi k X.A)(g:Gl X x)(i:X.mg x=some (.ref f))(j:PySem.W.keepIn X.K (.ref f)=true)(l:Binds X.K fd ps ds)(n:Vals QD ds)(u:Passes CX X E)(v:PA X (e::es) t)(a:(x==("__debug__":Str))=false:=by decide)(y:starEach (e::es) X.env=(false,eval e X.env)::starEach es X.env:=by rfl)(b:(backTo pos (starEach es X.env)).any (·.1)=false:=by rfl):
  PE X (.Call (.Name x p) (e::es) [] pos) (Lb sp QD E t):=by
 intro pins s z H Q I h;refine wpAny_Call_Name_kw (MQ I g i ?_ a);refine PySem.W.callWith_K (h₀:=X.base) I.ok.mod.dE j (BK (v pos pins s z H _ I h) fun D G B=>B.elim fun J L c r q=>⟨c.GP,?_⟩) y b;exact QS F d l n u c r q
end
section
variable{X:Cx} {CX:Ub} {k:Nat} {f C:Addr} {fd:FuncData} {ps ks:List Str} {sp:Sp} {E:XK} {x m:Str} {p pos apos rL:Pos} {e o:Expr} {es:List Expr} {j_:List Keyword} {te ta:TE} {t tk:TA} {nm:Option Str}
variable{g:List Value->List Value->List Value} {gV:List V->List V->List V}
end
structure AZ(N P:List Str)(sc:Scope):Prop where
 kind:sc.kind=.function:=by rfl
 co:sc.isCoroutine=false:=by rfl
 gen:sc.isGenerator=false:=by rfl
 nd:N.Nodup:=by decide+kernel
 pre:N.take P.length=P:=by rfl
 par:∀x∈P,sc.names.lookup x=some .local∨sc.names.lookup x=some .cell:=by decide+kernel
 aV:∀y∈sc.names,y.2≠.free:=by decide+kernel
theorem Lc{kindOf:Str->Option NameKind}{x:Str}:∀{binds:List (Str×Value)}{m:Str->Option Value},(∀v,(x,v)∉binds)->bindL kindOf binds m x=m x
 |[],_,_=>rfl
 |(n,v)::r,m,h=>by
  unfold bindL;rw[Lc fun w hw=>h w (List.mem_cons_of_mem _ hw)];split
  ·have:x≠n:=by rintro rfl;exact h v List.mem_cons_self
   simp[this]
  ·rfl
theorem Ld{kindOf:Str->Option NameKind}{x:Str}:∀{binds:List (Str×Value)}{m:Str->Option Value},(∀v,(x,v)∉binds)->bindC kindOf binds m x=m x
 |[],_,_=>rfl
 |(n,v)::r,m,h=>by
  unfold bindC;rw[Ld fun w hw=>h w (List.mem_cons_of_mem _ hw)];split
  ·rfl
  ·have:x≠n:=by rintro rfl;exact h v List.mem_cons_self
   simp[this]
theorem Le{kindOf:Str->Option NameKind}{x:Str}{v:Value}:∀{P:List Str}{vs:List Value}{i:Nat}{m:Str->Option Value},P.Nodup->P[i]?=some x->vs[i]?=some v->kindOf x=some .local->
  bindL kindOf (P.zip vs) m x=some v
 |[],_,_,_,_,h,_,_=>by simp at h
 |_::_,[],_,_,_,_,h,_=>by simp at h
 |p::P,w::vs,0,m,nd,a,b,c=>by
  simp at a b;subst a;subst b;show bindL kindOf ((p,w)::P.zip vs) m p=_;unfold bindL;rw[Lc fun v d=>(List.nodup_cons.mp nd).1 (List.of_mem_zip d).1,if_pos c];simp
 |p::P,w::vs,i+1,m,nd,a,b,c=>by
  show bindL kindOf ((p,w)::P.zip vs) m x=_;unfold bindL;exact Le (i:=i) (List.nodup_cons.mp nd).2 (by simpa using a) (by simpa using b) c
theorem Lg{kindOf:Str->Option NameKind}{x:Str}{v:Value}:∀{P:List Str}{vs:List Value}{i:Nat}{m:Str->Option Value},P.Nodup->P[i]?=some x->vs[i]?=some v->kindOf x≠some .local->
  bindC kindOf (P.zip vs) m x=some v
 |[],_,_,_,_,h,_,_=>by simp at h
 |_::_,[],_,_,_,_,h,_=>by simp at h
 |p::P,w::vs,0,m,nd,a,b,c=>by
  simp at a b;subst a;subst b;show bindC kindOf ((p,w)::P.zip vs) m p=_;unfold bindC;rw[Ld fun v d=>(List.nodup_cons.mp nd).1 (List.of_mem_zip d).1,if_neg c];simp
 |p::P,w::vs,i+1,m,nd,a,b,c=>by
  show bindC kindOf ((p,w)::P.zip vs) m x=_;unfold bindC;exact Lg (i:=i) (List.nodup_cons.mp nd).2 (by simpa using a) (by simpa using b) c
def start(N:List Str)(vs:List V):St:=vs.map some++List.replicate (N.length-vs.length) none
def MU(CX:Ub)(P:Program)(w:World)(K:yt)(mg:Str->Option Value)(base:Heap)(N:List Str)(qual:Str)(scope:Scope)(f:Addr)(cd:Value)(A:Around)(outer:List Env)(s:Shared)(H:Hp)(E:XK):Cx where
 prog:=P
 w:=w
 K:=K
 mg:=mg
 base:=base
 A:=A.deeper (envOfC qual scope s.heap.objs.size f cd)
 N:=N
 s₀:=s
 H₀:=H
 env:=envOfC qual scope s.heap.objs.size f cd
 outer:=outer
 stack:=envOfC qual scope s.heap.objs.size f cd::outer
 ex:=[]
 calm:=true
 fn:=fun _=>true
 pn:=[]
 xe:=fun e s'=>wpAny (model P w) (A.deeper (envOfC qual scope s.heap.objs.size f cd)) (leaving (envOfC qual scope s.heap.objs.size f cd) e) (fun _ eY=>CX outer H s E e eY) (fun e' eY=>CX outer H s E e' eY) s'
theorem OB{a:Scope}(h:a.names.lookup x=some .cell):∃c,(cellsFrom n a.names []).lookup x=some c:=by
 have q:=PySem.W.cellsFrom_some a.names n [] (.inl h);exact Option.isSome_iff_exists.mp q
variable{scope:Scope}
theorem TL{D:Ub}{qual:Str}{f:Addr}{t:Value}{outer:List Env}{F:Shared}{E:XK}(S:AZ N ps scope)(J:A.handled=none)(g:Uu P w K mg base A outer s H)(hl:vs.length=ps.length)(r:Vals vs us)(x:InCallC s s.heap.objs.size (bindL (envOfC qual scope s.heap.objs.size f t).kindOf (ps.zip us) fun _=>none) (cellsFrom (s.heap.objs.size+1) scope.names []) (bindC (envOfC qual scope s.heap.objs.size f t).kindOf (ps.zip us) fun _=>none) F):
  Inv (MU D P w K mg base N qual scope f t A outer s H E) [] (start N vs) H F:=by
 have L:ps.length<=N.length:=by have:=congrArg List.length S.pre;rw[List.length_take]at this;lia
 obtain⟨B,Q,rfl,G⟩:=x.done;have j:∀b:Addr,b∉(MU D P w K mg base N qual scope f t A outer s H E).ex:=fun b z=>absurd (show b∈([]:List Addr)from z) (by simp);refine⟨⟨g.mod,S.kind,rfl,rfl,Nat.le_refl _,fun y z c B d=>?_,fun y l=>?_,fun y c _ h=>?_,fun _=>J,Around.frames_deeper g.frames,.inr ⟨rfl,rfl⟩,fun b z=>absurd z (j b),g.bs,g.S_,fun b _ _=>j b,fun b z=>absurd z (j b),g.Gv,g.Xi⟩,
  rfl,g.bare,Un.kept G,⟨_,x.toInCall.ns,fun i y v B d R=>?_⟩,fun y c h=>⟨_,x.cell y c h⟩,g.Ax.fresh (Nat.le_refl _),fun y c h=>?_,fun p m=>absurd (show p∈([]:List (Addr×Obj))from m) (by simp),g.Ax.kept G,?_⟩
 ·exact name_of_addr x.apart (PySem.mem_of_lookup B) (PySem.mem_of_lookup d)
 ·have l:scope.names.lookup y=some .cell∨scope.names.lookup y=some .free:=l;rcases l with l|l
  ·exact OB l
  ·exact absurd rfl (S.aV _ (PySem.mem_of_lookup l))
 ·exact Nat.le_of_lt (x.above y c (PySem.mem_of_lookup h))
 ·have C:i<vs.length:=by
   unfold start at d;by_cases C:i<vs.length
   ·exact C
   ·rw[List.getElem?_append_right (by simpa using C)]at d;rw[List.getElem?_replicate]at d;split at d<;>cases d
  have M:vs[i]?=some v:=by
   unfold start at d;rw[List.getElem?_append_left (by simpa using C),List.getElem?_map]at d;cases e:vs[i]? with
   |none=>rw[e]at d;cases d
   |some a=>rw[e]at d;cases d;rfl
  obtain⟨u,I,O⟩:=r.get M;have m:ps[i]?=some y:=by
   rw[<-S.pre,List.getElem?_take_of_lt (by lia)];exact B
  have o:ps.Nodup:=by rw[<-S.pre];exact S.nd.sublist (List.take_sublist _ _)
  refine⟨u,O,?_⟩;rcases S.par y (yr m)with k|k
  ·exact .inl ⟨k,Le o m I k⟩
  ·obtain⟨c,e⟩:=OB (n:=s.heap.objs.size+1) k;refine .inr ⟨.inl k,c,e,?_⟩;have q:=x.cell y c e;rw[Lg o m I (by show scope.names.lookup y≠_;rw[k];decide)]at q;exact q
 ·exact g.Ax.fresh (Nat.le_of_lt (x.above y c (PySem.mem_of_lookup h)))
 ·unfold start;show _=N.length;rw[List.length_append,List.length_map,List.length_replicate];lia
theorem ZV{m:Ub}{k:Nat}{f:Addr}{name qual:Str}{params:Arguments}{G kV doc pm a ct R:Value}{L T:Option Addr}{p:Array (Option Value)}{sp:Sp}(lk:K.lookup f=some ⟨R,T,.func (PySem.W.fnOf name qual params body scope G kV doc pm L a ct),p⟩)(z:PySem.W.codeIn K a qual=true)(S:AZ N ps scope)(len:∀vs H Q E,sp vs H Q E->vs.length=ps.length)(g:∀(A:Around) (outer:List Env) (s:Shared) (H:Hp) (vs:List V) (Q:VK) (E:XK),Bi k (A.deeper (envOfC qual scope s.heap.objs.size f a))->sp vs H Q E->
   ∃t,QC (MU m P w K mg base N qual scope f a A outer s H E) body t/\t {nx:=fun _ d=>Q .Ah d,rt:=Q} (start N vs) H):
  Au P w K mg base m (k+1) f (PySem.W.fnOf name qual params body scope G kV doc pm L a ct) ps sp:=by
 refine⟨len,fun A outer s H args U vs Q E B j X r l=>?_⟩;have Y:=len _ _ _ _ l;have M:K.In s.heap:=j.mod.dE.keeps fun b o e=>(j.bs b o e).1;have C:s.heap.NoLimit:=j.mod.nolimit.keeps fun b o e=>(j.bs b o e).1;have h:∀y∈ps.zip U,scope.names.lookup y.1=some .local∨(scope.names.lookup y.1=some .cell/\((cellsFrom (s.heap.objs.size+1) scope.names []).lookup y.1).isSome=true):=fun⟨n,v⟩ Z=>by
  rcases S.par n (List.of_mem_zip Z).1 with q|q
  ·exact .inl q
  ·exact .inr ⟨q,PySem.W.cellsFrom_some _ _ _ (.inl q)⟩
 refine codeAny_call_function B.depth (M _ _ lk) rfl S.co S.gen rfl (PySem.W.codeRec_of M z) (X _ _ _ _ ?_);refine wpAny_newFunctionEnv_cells S.kind h fun env he O x=>?_;subst he;refine⟨C.keeps x.toInCall.keep,codeAny_func ?_⟩;obtain⟨t,ht,hq⟩:=g A outer s H vs Q E (B.deeper _) l;have I:Inv (MU m P w K mg base N qual scope f a A outer s H E) [] (start N vs) H O:=TL S B.hd j Y r x;refine wpAny_mono (ht [] O (start N vs) H _ I hq) (fun fl D i=>?_) fun e D i=>i;have fin:∀{c:St}{d:Hp}{v:V}{u:Value},Inv (MU m P w K mg base N qual scope f a A outer s H E) [] c d D->RelV v u->Q v d->CE outer P w H s Q u D:=
  fun{c d v u} J F q=>⟨v,d,J.os,J.bare,J.base,J.Ax,F,q⟩
 cases fl with
 |ret u=>
  obtain⟨v,c,d,J,F,q⟩:=i;exact fin J F q
 |next=>
  obtain⟨c,d,J,q⟩:=i;exact fin (v:=V.Ah) (u:=Value.none) J rfl q
 |brk=>
  obtain⟨_,_,_,q⟩:=i;exact False.elim q
 |cont=>
  obtain⟨_,_,_,q⟩:=i;exact False.elim q
section
variable{X:Cx} {x:Str} {p pos:Pos} {e:Expr} {es:List Expr} {t:TA} {id T:String} {r:List V->Hp->VK->Prop}
def kA(r:List V->Hp->VK->Prop)(t:TA):TE:=fun a H Q=>t a H fun b c=>r b c Q
theorem Am(d:Bh X (.builtin id) r)(f:Gl X x)(g:X.mg x=none)(i:bootBuiltins x=some (.builtin id))(j:PA X (e::es) t)(k:x≠"__name__":=by decide)(a:(x==("__debug__":Str))=false:=by decide)(l:starEach (e::es) X.env=(false,eval e X.env)::starEach es X.env:=by rfl)(b:(backTo pos (starEach es X.env)).any (·.1)=false:=by rfl):PE X (.Call (.Name x p) (e::es) [] pos) (kA r t):=by
 intro pins s c H Q I h;refine wpAny_Call_Name_kw (El I f g i ?_ k a);exact PyProof.Rows.callWith_builtin1 (BK (j pos pins s c H _ I h) fun m n o=>o.elim fun q u v w y=>d pins n c u q m Q v w y) l b
theorem A'(d:Bh X (.type T) r)(f:Gl X x)(g:X.mg x=none)(i:bootBuiltins x=some (.type T))(j:PA X (e::es) t)(k:x≠"__name__":=by decide)(a:(x==("__debug__":Str))=false:=by decide)(l:starEach (e::es) X.env=(false,eval e X.env)::starEach es X.env:=by rfl)(b:(backTo pos (starEach es X.env)).any (·.1)=false:=by rfl):PE X (.Call (.Name x p) (e::es) [] pos) (kA r t):=by
 intro pins s c H Q I h;refine wpAny_Call_Name_kw (El I f g i ?_ k a);exact PyProof.Rows.callWith_type1 (BK (j pos pins s c H _ I h) fun m n o=>o.elim fun q u v w y=>d pins n c u q m Q v w y) l b
end
end L2
namespace HT
open PySem PyProof.Rows
section
open PySem.SeqAt
open PySem.AutoSeq1 (wpAny_loadPart')
open PySem.MeetsSeq PySem.MeetsSeq2 PySem.MeetsSeq3
end
section
variable{prog:Program} {w:World} {A:Around} {E:Value->Shared->Prop} {s:Shared}
theorem Xn{t b:Addr}{vs ws:List Value}{Q:Value->Shared->Prop}(r:IsTup s.heap t vs.toArray)(u:IsTup s.heap b ws.toArray)(j:vs≠[])(v:ws=[]->Q (.ref t) s)(x:ws≠[]->Q (.ref s.heap.objs.size) {s with heap:=s.heap.push {cls:=.type "tuple",data:=.seq (vs++ws).toArray}})(i:vs.length+ws.length<=sizeLine):wpAny (model prog w) A (binaryOp .Add (.ref t) (.ref b)) Q E s:=by
 obtain⟨⟨cls,k,data,l⟩,h,m,n,o⟩:=id r;obtain⟨⟨p,c,data2,d⟩,a,f,q,g⟩:=id u;simp only at m o f g;subst m o f g;have e:vs.toArray++ws.toArray=(vs++ws).toArray:=by simp
 by_cases hw:ws=[]
 ·exact concat_meets ⟨_,h,rfl⟩ ⟨_,a,rfl⟩ noFill_tuple_add seq_tuple_add PySem.F.slot_tuple_add PySem.F.entry_tuple_add (PySem.F.args_tuple_add_2 _ _) (tuple_addW1 t b vs.toArray ws.toArray n q k c l d (by simpa using j) (by simp[hw])) ⟨h,a,v hw⟩
 ·refine concat_meets ⟨_,h,rfl⟩ ⟨_,a,rfl⟩ noFill_tuple_add seq_tuple_add PySem.F.slot_tuple_add PySem.F.entry_tuple_add (PySem.F.args_tuple_add_2 _ _) (tuple_addW2 t b vs.toArray ws.toArray n q k c l d (by simpa using j) (by simpa using hw) (by rw[List.size_toArray,List.size_toArray];exact i)) ⟨h,a,?_⟩;rw[e];exact x hw
noncomputable def IB(n d:Nat):Option Int->Nat
 |none=>d
 |some v=>if v<0 then(v+(n:Int)).toNat else min v.toNat n
theorem MV(n d k:Nat):IB n d (some (k:Int))=min k n:=by
 show(if(k:Int)<0 then((k:Int)+(n:Int)).toNat else min (k:Int).toNat n)=min k n;rw[if_neg (by lia),Int.toNat_natCast]
end
end HT
namespace L2
open PySem PySem.Spec PyProof.Rows
abbrev TO:=St->Hp->(Option Int->Hp->Prop)->Prop
def PO(X:Cx)(e:Option Expr)(t:TO):Prop:=
 ∀(pins:List (Addr×Obj))(s:Shared)(a:St)(H:Hp)(Q:Option Int->Hp->Prop),Inv X pins a H s->t a H Q->
  wpAny (model X.prog X.w) X.A (evalPart e X.env) (fun u c=>∃o b,Inv X pins a b c/\IsPart u o/\Q o b) X.xe s
def Xo:TO:=fun _ H Q=>Q none H
def eZ(t:TE):TO:=fun a H Q=>t a H fun x b=>rB x b Q
variable{us:List Value}
section
variable{X:Cx} {e:Expr} {te:TE} {lo hi:Option Expr} {tl th:TO} {pos p2:Pos}
theorem Eo:PO X none Xo:=by
 intro pins s a H Q I h;rw[evalPart_none];exact wpAny_pure ⟨none,H,I,.none,h⟩
theorem DX(h:PE X e te):PO X (some e) (eZ te):=by
 intro pins s a H Q I hw;rw[evalPart_some];refine BK (h pins s a H _ I hw) fun u j b=>b.elim fun x c d f g=>?_;obtain⟨i,rfl,q⟩:=g;obtain⟨t,rfl⟩:=f;exact⟨some i,c,d,.int i t,q⟩
def kB(X:Cx)(r:V->Option Int->Option Int->Hp->VK->Prop):Prop:=
 ∀(pins:List (Addr×Obj))(s:Shared)(a:St)(H:Hp)(x:V)(v b c:Value)(lo hi:Option Int)(d:Addr)(Q:VK),Inv X pins a H s->RelV x v->s.heap.IsSliceOf d b c .none->IsPart b lo->IsPart c hi->r x lo hi H Q->
  ∃T id,typeLookup (.type T) "__getitem__"=pure (some (.builtin id))/\s.TypeIs v T/\wpAny (model X.prog X.w) X.A (getItem v (.ref d)) (EP X pins a Q) X.xe s
def rM(r:V->Option Int->Option Int->Hp->VK->Prop)(te:TE)(tl th:TO):TE:=fun a H Q=>te a H fun x b=>tl a b fun l c=>th a c fun u d=>r x l u d Q
theorem DK{r:V->Option Int->Option Int->Hp->VK->Prop}(i:kB X r)(j:PE X e te)(hl:PO X lo tl)(k:PO X hi th):PE X (.Subscript e (.Slice lo hi none p2) pos) (rM r te tl th):=by
 intro pins s c H Q I h;refine Subscript_ (BK (j pins s c H _ I h) fun v m n=>n.elim fun x o p t y=>?_);refine wpAny_Slice (BK (hl pins m c o _ p y) fun d z ⟨l,B,C,pl,D⟩=>BK (k pins z c B _ C D) fun f a ⟨u,g,E,F,G⟩=>?_);rw[evalPart_none];refine wpAny_pure ?_;have J:Inv X pins c g {a with heap:=a.heap.push {cls:=.type "slice",data:=.fields #[d,f,.none]}}:=E.kept (t':=a.toks) fun b N q=>Heap.get?_push_of_some _ q;obtain⟨T,id,K,L,M⟩:=i pins {a with heap:=a.heap.push {cls:=.type "slice",data:=.fields #[d,f,.none]}} c g x v d f l u a.heap.objs.size Q J t (Heap.IsSliceOf.new ..) pl F G;show wpAny (model X.prog X.w) X.A (subscriptTail e (.Slice lo hi none p2) v (.ref a.heap.objs.size)) (EP X pins c Q) X.xe {a with heap:=a.heap.push {cls:=.type "slice",data:=.fields #[d,f,.none]}};exact tail_any (ops:=[.ref a.heap.objs.size,v]) L K M (by with_unfolding_all rfl)
def MW(xs:List V)(lo hi:Option Int):List V:=(xs.drop (HT.IB xs.length 0 lo)).take (HT.IB xs.length xs.length hi-HT.IB xs.length 0 lo)
theorem OC(xs:List V)(lo hi:Option Int):(MW xs lo hi).length<=xs.length:=by
 unfold MW;rw[List.length_take,List.length_drop];lia
inductive aW(K:yt)(x y:V)(H:Hp)(Q:VK):Prop
 |mk(a b xs ys:_)(c:x=.ref a)(d:y=.ref b)(f:Bg K H a xs)(g:Bg K H b ys)(h:xs≠[])(i:xs.length+ys.length<=sizeLine)(j:(ys=[]->Q (.ref a) H))(k:(ys≠[]->∀p,H p=none->Q (.ref p) (upd H p (.tup (xs++ys)))))
def eg(K:yt):R2:=fun x y H Q=>aW K x y H Q
theorem Vals.JP{xs:List V}(r:Vals xs us):us=[]↔xs=[]:=by
 cases r with
 |nil=>simp
 |cons _ _=>simp
theorem Xp:Ek X (binaryOp .Add) (eg X.K):=by
 intro pins s C H x y v u Q I i j h;obtain⟨a,b,k,l,rfl,rfl,m,n,p,f,r,t⟩:=h;cases i;cases j;obtain⟨A,d,B,_⟩:=I.tuple m;obtain⟨g,c,p2,_⟩:=I.tuple n;refine HT.Xn B p2 (fun z=>p (d.JP.mp z)) (fun z=>⟨.ref a,H,I,rfl,r (c.JP.mp z)⟩) (fun z=>?_) (by rw[<-d.length,<-c.length];exact f);refine⟨.ref s.heap.objs.size,_,I.laid (t':=s.toks) (o:=.tup (k++l)) (fun b D q=>Heap.get?_push_of_some _ q) (Nat.le_refl _) ?_,rfl,t (fun w=>z (c.JP.mpr w)) _ (I.Ax.fresh (Nat.le_refl _))⟩;exact⟨by rw[List.length_append];exact f,_,d.append c,IsTup.new _ _⟩
end
def QE(n:Nat)(i:Int):Option Nat:=if 0<=i then(if i<n then some i.toNat else none)else if-(n:Int)<=i then some (i+n).toNat else none
def Lh{a:Type}(xs:List a)(i:Int):Option a:=(QE xs.length i).bind fun j=>xs[j]?
variable{n:Nat}
theorem Fy{i:Int}{j:Nat}(h:QE n i=some j):seqIndex? i n=some j/\j<n/\ -(n:Int)<=i/\i<n:=by
 unfold QE at h;by_cases b:0<=i
 ·rw[if_pos b]at h;by_cases a:i<n
  ·rw[if_pos a]at h;have e:i.toNat=j:=yq h;exact⟨by rw[seqIndex_of b a,e],by lia,by lia,a⟩
  ·rw[if_neg a]at h;cases h
 ·rw[if_neg b]at h;by_cases a: -(n:Int)<=i
  ·rw[if_pos a]at h;have e:(i+n).toNat=j:=yq h;exact⟨by rw[seqIndex_neg (by lia) a,e],by lia,a,by lia⟩
  ·rw[if_neg a]at h;cases h
variable{a:Type}
theorem JQ{xs:List a}{i:Int}{v:a}(h:Lh xs i=some v):∃j,seqIndex? i xs.length=some j/\xs[j]?=some v/\j<xs.length/\ -(xs.length:Int)<=i/\i<xs.length:=by
 unfold Lh at h;cases e:QE xs.length i with
 |none=>rw[e]at h;cases h
 |some j=>
  rw[e]at h;obtain⟨b,c,d,f⟩:=Fy e;exact⟨j,b,h,c,d,f⟩
theorem Av{xs:List a}{j:Nat}{v:a}(h:xs[j]?=some v):Lh xs (j:Int)=some v:=by
 have b:j<xs.length:=(yo h).1;have e:QE xs.length (j:Int)=some j:=by
  unfold QE;rw[if_pos (by lia),if_pos (by lia)];simp
 unfold Lh;rw[e];exact h
theorem OD(xs:List a)(v:a):Lh (xs++[v]) (-1)=some v:=by
 have b:(xs++[v]).length=xs.length+1:=by simp
 have e:QE (xs++[v]).length (-1)=some xs.length:=by
  unfold QE;rw[b,if_neg (by decide),if_pos (by lia)];congr 1;lia
 unfold Lh;rw[e];show(xs++[v])[xs.length]?=some v;simp
def Rn(b:Expr):Prop:=∀o i,subscripted b false o i=operate [o,i] (getItem o i)
def iV(X:Cx)(r:R2):Prop:=
 ∀(value slice:Expr)(pins:List (Addr×Obj))(s:Shared)(a:St)(H:Hp)(x y:V)(v u:Value)(Q:VK),Inv X pins a H s->RelV x v->RelV y u->r x y H Q->
  subscripted slice false v u=operate [v,u] (getItem v u)->wpAny (model X.prog X.w) X.A (subscriptTail value slice v u) (EP X pins a Q) X.xe s
def oN(X:Cx)(id:String)(r:V->List V->Hp->VK->Prop):Prop:=
 ∀(pins:List (Addr×Obj))(s:Shared)(a:St)(H:Hp)(x:V)(b:List V)(v:Value)(c:List Value)(Q:VK),Inv X pins a H s->RelV x v->Vals b c->r x b H Q->
  wpAny (model X.prog X.w) X.A (call (.builtin id) (v::c)) (EP X pins a Q) X.xe s
variable{pins:List (Addr×Obj)}{s:Shared}{u:Value}{H:Hp}{its:List Value}{y x:V}{A:Around}
section
variable{X:Cx} {a b:Expr} {ta tb:TE} {pos:Pos}
theorem FG{r:R2}(c:iV X r)(d:PE X a ta)(e:PE X b tb)(f:Rn b):PE X (.Subscript a b pos) (aN r ta tb):=by
 intro pins s g H Q I h;exact Subscript_ (aO d e I h fun v u i x y j k l m q=>c a b pins i g j x y v u Q k l m q (f _ _))
inductive en(K:yt)(x y:V)(H:Hp)(Q:VK):Prop
 |mk(p xs i v:_)(c:x=.ref p)(d:y=.int i)(e:As K H p xs)(f:Lh xs i=some v)(g:Q v H)
def eo(K:yt):R2:=fun x y H Q=>en K x y H Q
inductive er(K:yt)(x y:V)(H:Hp)(Q:VK):Prop
 |mk(p xs i v:_)(c:x=.ref p)(d:y=.int i)(e:Bg K H p xs)(f:Lh xs i=some v)(g:Q v H)
def MX(K:yt):R2:=fun x y H Q=>er K x y H Q
inductive ew(x y:V)(H:Hp)(Q:VK):Prop
 |mk(z i c:_)(d:x=.str z)(e:y=.int i)(f:z.length<=sizeLine)(g:Lh z.cps.toList i=some c)(h:Q (.str ⟨#[c]⟩) H)
def kC:R2:=fun x y H Q=>ew x y H Q
theorem Xq:iV X (eo X.K):=by
 intro value slice pins s g H x y v u Q I n o h k;obtain⟨p,J,i,z,rfl,rfl,A,B,q⟩:=h;cases n;obtain⟨t,rfl⟩:=o;obtain⟨d,r,pl,L⟩:=I.list A;obtain⟨j,c,C,M,D,E⟩:=JQ B;obtain⟨w,l,e⟩:=r.get C;have F:=r.length;have N:=IA;have fin:EP X pins g Q w s:=⟨z,H,I,e,q⟩;by_cases m:0<=i
 ·have f:i.toNat=j:=by
   rw[seqIndex_of m E]at c;exact yq c
  exact item_listR pl.isList m (by lia) (by rw[f];simpa using l) fin k
 ·have f:(i+(d.toArray.size:Int)).toNat=j:=by
   rw[seqIndex_neg (by lia) D]at c;rw[List.size_toArray,<-F];exact yq c
  exact subscriptTail_builtinR (x:=w) pl.isList.typeIs slot_list_getitem.lookup (wpAny_getItem_list_neg (Q:=fun r G=>r=w/\EP X pins g Q r G) pl.isList (by lia) (by rw[List.size_toArray]<;>lia) (by lia) (by rw[f];simpa using l) ⟨rfl,fin⟩) k
theorem FR:iV X (MX X.K):=by
 intro value slice pins s d H x y v u Q I e f h g;obtain⟨p,D,i,z,rfl,rfl,k,l,q⟩:=h;cases e;obtain⟨t,rfl⟩:=f;obtain⟨m,r,pl,E⟩:=I.tuple k;obtain⟨j,n,o,F,G,J⟩:=JQ l;obtain⟨w,A,c⟩:=r.get o;have B:=r.length;have L:=IA;have fin:EP X pins d Q w s:=⟨z,H,I,c,q⟩;exact subscriptTail_builtinR (x:=w) pl.typeIs slot_tuple_getitem.lookup (getItem_tuple (j:=j) (Q:=fun r C=>r=w/\EP X pins d Q r C) pl (by lia) (by lia) (by rw[List.size_toArray,<-B];exact n) (by simpa using A) ⟨rfl,fin⟩) g
theorem QT:iV X kC:=by
 intro value slice pins s w H x y v u Q I e f h g;obtain⟨z,i,c,rfl,rfl,A,k,q⟩:=h;obtain⟨t,rfl⟩:=e;obtain⟨B,rfl⟩:=f;obtain⟨j,d,l,C,m,n⟩:=JQ k;have o:z.cps.toList.length=z.length:=by simp[Str.length]
 rw[o]at d m n;have D:=IA;exact tail_any (typeIs_str s z t) slot_str_getitem.lookup (getItem_str (c:=c) (by
  have p:decide (i< -(2 ^ 63:Int))=false:=decide_eq_false (by lia);have r:decide (i≥2 ^ 63)=false:=decide_eq_false (by lia);rw[p,r,Bool.or_false]) (by rw[d];simpa using l) ⟨.str ⟨#[c]⟩,H,I.tok _,⟨_,rfl⟩,q⟩) g
theorem QU(its:List Value)(n j:Nat)(u:Value):Obj.mapSeq (·.setIfInBounds j u) {cls:=.type "list",data:=.seq its.toArray n}={cls:=.type "list",data:=.seq (its.set j u).toArray n}:=by
 simp[Obj.mapSeq]
theorem Inv.lst{pins:List (Addr×Obj)}{c:St}{H:Hp}{s:Shared}{p:Addr}{xs:List V}(I:Inv X pins c H s)(h:H p=some (.lst xs)):
  ∃(its:List Value)(n:Nat),Vals xs its/\s.heap.get? p=some {cls:=.type "list",data:=.seq its.toArray n}/\xs.length<=sizeLine:=by
 obtain⟨z,its,n,r,e⟩:=I.Ax p _ h;exact⟨its,n,r,e,z⟩
theorem Inv.aX{d:St}{p:Addr}{xs ys:List V}{its':List Value}{c:Nat}{f:Obj->Obj}(I:Inv X pins d H s)(h:H p=some (.lst xs))(i:s.heap.get? p=some {cls:=.type "list",data:=.seq its.toArray n})(g:f {cls:=.type "list",data:=.seq its.toArray n}={cls:=.type "list",data:=.seq its'.toArray c})(r:Vals ys its')(j:ys.length<=sizeLine)(t:Nat):
  Inv X pins d (upd H p (.lst ys)) {s with heap:=s.heap.update p f,toks:=t}:=by
 have e:(s.heap.update p f).get? p=some {cls:=.type "list",data:=.seq its'.toArray c}:=by
  rw[Heap.get?_update_self f i (by rw[g]<;>rfl),g]
 refine I.write (x:=p) (e:=p) (by rw[h];trivial) (.inl rfl) (fun b u k q=>(Heap.get?_update_other _ _ (Ne.symm k)).trans q) ⟨_,e⟩ ?_;exact⟨j,its',c,r,e⟩
inductive aY(o i v:V)(H:Hp)(Q:(Hp->Prop)):Prop
 |mk(p xs k j:_)(c:o=.ref p)(d:i=.int k)(e:H p=some (.lst xs))(f:QE xs.length k=some j)(g:Q (upd H p (.lst (xs.set j v))))
def e_:V->V->V->Hp->(Hp->Prop)->Prop:=fun o i v H Q=>aY o i v H Q
theorem set_list:eF X e_:=by
 intro pins s z H o i v ov G u Q I A B C h;obtain⟨p,D,k,j,rfl,rfl,l,E,q⟩:=h;cases A;obtain⟨t,rfl⟩:=B;obtain⟨c,n,r,e,F⟩:=I.lst l;obtain⟨d,J,m,w⟩:=Fy E;have f:=r.length;have K:=IA;have x:Inv X pins z (upd H p (.lst (D.set j v))) {s with heap:=s.heap.update p (Obj.mapSeq (·.setIfInBounds j u))}:=
  I.aX l e (QU c n j u) (r.set C j) (by rw[List.length_set];exact F) s.toks
 by_cases y:0<=k
 ·have g:k.toNat=j:=by
   rw[seqIndex_of y w]at d;exact yq d
  exact PySem.W.ki_setAt e y (by lia) (by rw[List.size_toArray,<-f];exact w) (by rw[g];exact⟨_,x,q⟩)
 ·have g:(k+(c.toArray.size:Int)).toNat=j:=by
   rw[seqIndex_neg (by lia) m]at d;rw[List.size_toArray,<-f];exact yq d
  exact PySem.W.ki_setBack e (by lia) (by rw[List.size_toArray,<-f];exact m) (by lia) (by rw[g];exact⟨_,x,q⟩)
theorem MY(lo c:Option Int)(n:Nat):(sliceBounds lo c none n).1=((HT.IB n 0 lo:Nat):Int)/\(sliceBounds lo c none n).2.1=((HT.IB n n c:Nat):Int)/\(sliceBounds lo c none n).2.2=1:=by
 refine⟨?_,?_,rfl⟩
 ·cases lo with
  |none=>simp[sliceBounds,HT.IB]
  |some i=>
   simp only[sliceBounds,HT.IB,Option.getD_none,show(1:Int)>0 by decide,if_true];by_cases h:i<0
   ·simp only[h,if_true]<;>lia
   ·simp only[h,if_false]<;>lia
 ·cases c with
  |none=>simp[sliceBounds,HT.IB]
  |some i=>
   simp only[sliceBounds,HT.IB,Option.getD_none,show(1:Int)>0 by decide,if_true];by_cases h:i<0
   ·simp only[h,if_true]<;>lia
   ·simp only[h,if_false]<;>lia
theorem LK(its:List Value)(lo c:Option Int):slicePick its.toArray lo c none=((its.drop (HT.IB its.length 0 lo)).take (HT.IB its.length its.length c-HT.IB its.length 0 lo)).toArray:=by
 obtain⟨d,e,f⟩:=MY lo c its.toArray.size;unfold slicePick;rw[d,e,f];simp only[sliceRange_one,pick_run,List.size_toArray]<;>rfl
inductive fF(K:yt)(x:V)(lo c:Option Int)(H:Hp)(Q:VK):Prop
 |mk(a xs:_)(d:x=.ref a)(e:As K H a xs)(f:∀p,H p=none->Q (.ref p) (upd H p (.lst (MW xs lo c))))
def Uv(K:yt):V->Option Int->Option Int->Hp->VK->Prop:=fun x lo c H Q=>fF K x lo c H Q
theorem JR:kB X (Uv X.K):=by
 intro pins s m H x v n p lo d t Q I f g pl i h;obtain⟨a,c,rfl,j,q⟩:=h;cases f;obtain⟨k,r,e,l⟩:=I.list j;have hlen:=r.length;refine⟨"list",_,slot_list_getitem.lookup,e.isList.typeIs,?_⟩;refine wpAny_getItem_list_slice e.isList g pl i .none (by simp) ?_ (by rw[List.size_toArray]<;>lia);rw[LK,<-hlen];refine⟨.ref s.heap.objs.size,_,I.laid (t':=s.toks) (o:=.lst (MW c lo d)) (fun b u q=>Heap.get?_push_of_some _ q) (Nat.le_refl _) ?_,rfl,q _ (I.Ax.fresh (Nat.le_refl _))⟩;exact⟨Nat.le_trans (OC c lo d) l,_,0,(r.drop (HT.IB c.length 0 lo)).take (HT.IB c.length c.length d-HT.IB c.length 0 lo),Heap.get?_push_size _ rfl⟩
noncomputable def Im:V->Bool
 | .Ah=>true
 | .bl _=>true
 | .int _=>true
 | .str _=>true
 |_=>false
noncomputable def Uw:V->V->Bool
 | .Ah,.Ah=>true
 | .bl a,.bl b=>a==b
 | .bl a,.int b=>(if a then 1 else 0)==b
 | .int a,.bl b=>a==(if b then 1 else 0)
 | .int a,.int b=>a==b
 | .str a,.str b=>a==b
 |_,_=>false
theorem aZ{v:Value}(e:RelV y u)(c:RelV x v)(g:Im y=true)(f:Im x=true):SeqAt.EqAt A s u v (Uw y x):=by
 cases y with
 |Ah=>
  cases e;cases x with
  |Ah=>cases c;exact SeqAt.EqAt.same _
  |bl b=>cases c;exact SeqAt.EqAt.none_bool b
  |int b=>obtain⟨t,rfl⟩:=c;exact SeqAt.EqAt.none_int b t
  |str b=>obtain⟨t,rfl⟩:=c;exact SeqAt.EqAt.none_str b t
  |_=>exact absurd (show false=true from f) Bool.false_ne_true
 |bl a=>
  cases e;cases x with
  |Ah=>cases c;exact SeqAt.EqAt.bool_none a
  |bl b=>cases c;exact SeqAt.EqAt.bool_bool a b
  |int b=>obtain⟨t,rfl⟩:=c;exact SeqAt.EqAt.bool_int a b t
  |str b=>obtain⟨t,rfl⟩:=c;exact SeqAt.EqAt.bool_str a b t
  |_=>exact absurd (show false=true from f) Bool.false_ne_true
 |int a=>
  obtain⟨d,rfl⟩:=e;cases x with
  |Ah=>cases c;exact SeqAt.EqAt.int_none a d
  |bl b=>cases c;exact SeqAt.EqAt.int_bool a d b
  |int b=>obtain⟨t,rfl⟩:=c;exact SeqAt.EqAt.int_int a d b t
  |str b=>obtain⟨t,rfl⟩:=c;exact SeqAt.EqAt.int_str a d b t
  |_=>exact absurd (show false=true from f) Bool.false_ne_true
 |str a=>
  obtain⟨d,rfl⟩:=e;cases x with
  |Ah=>cases c;exact SeqAt.EqAt.str_none a d
  |bl b=>cases c;exact SeqAt.EqAt.str_bool a d b
  |int b=>obtain⟨t,rfl⟩:=c;exact SeqAt.EqAt.str_int a d b t
  |str b=>obtain⟨t,rfl⟩:=c;exact SeqAt.EqAt.str_str a d b t
  |_=>exact absurd (show false=true from f) Bool.false_ne_true
 |_=>exact absurd (show false=true from g) Bool.false_ne_true
def QV(x:V)(u:Value):Bool:=match u with
 | .none=>Uw .Ah x
 | .bool b=>Uw (.bl b) x
 | .int i _=>Uw (.int i) x
 | .str z _=>Uw (.str z) x
 |_=>false
theorem Ux(r:RelV y u)(f:Im y=true):QV x u=Uw y x:=by
 cases y with
 |Ah=>cases r;rfl
 |bl b=>cases r;rfl
 |int i=>obtain⟨t,rfl⟩:=r;rfl
 |str z=>obtain⟨t,rfl⟩:=r;rfl
 |_=>exact absurd (show false=true from f) Bool.false_ne_true
theorem Gz{x:V}:∀{xs:List V}{us:List Value},Vals xs us->xs.all Im=true->us.any (QV x)=xs.any fun y=>Uw y x
 |_,_,.nil,_=>rfl
 |y::xs,u::us,.cons r t,f=>by
  rw[List.all_cons,Bool.and_eq_true]at f;rw[List.any_cons,List.any_cons,Ux r f.1,Gz t f.2]
theorem FT{A:Around}{s:Shared}{x:V}{v:Value}(d:RelV x v)(e:Im x=true):∀{xs:List V}{us:List Value},Vals xs us->xs.all Im=true->∀u∈us,SeqAt.EqAt A s u v (QV x u)
 |_,_,.nil,_=>fun u c=>by cases c
 |y::xs,u::us,.cons r t,f=>fun u' c=>by
  rw[List.all_cons,Bool.and_eq_true]at f;rcases List.mem_cons.mp c with rfl|c
  ·rw[Ux r f.1];exact aZ r d f.1 e
  ·exact FT d e t f.2 u' c
def ZW(x:V)(xs:List V):Bool:=xs.any fun y=>Uw y x
inductive kD(K:yt)(c:Bool)(x y:V)(H:Hp)(Q:VK):Prop
 |mk(p xs:_)(d:y=.ref p)(e:(As K H p xs∨Bg K H p xs))(f:Im x=true)(g:xs.all Im=true)(h:Q (.bl (if c then !ZW x xs else ZW x xs)) H)
def dI(K:yt)(c:Bool):R2:=fun x y H Q=>kD K c x y H Q
theorem IC:Ek X (compareOp .In) (dI X.K false):=by
 intro pins s j H x y v u Q I e g h;obtain⟨p,k,rfl,d,f,fs,q⟩:=h;cases g;rcases d with d|d
 ·obtain⟨c,r,pl,i⟩:=I.list d;refine SeqAt.in_listAt (QV x) pl.isList (fun w hw=>FT e f r fs w (by simpa using hw)) ⟨.bl _,H,I,rfl,?_⟩;rw[show c.toArray.any (QV x)=c.any (QV x)by simp,Gz r fs];exact q
 ·obtain⟨c,r,pl,i⟩:=I.tuple d;refine SeqAt.in_tupleAt (QV x) pl (fun w hw=>FT e f r fs w (by simpa using hw)) ⟨.bl _,H,I,rfl,?_⟩;rw[show c.toArray.any (QV x)=c.any (QV x)by simp,Gz r fs];exact q
theorem MZ:Ek X (compareOp .NotIn) (dI X.K true):=by
 intro pins s j H x y v u Q I e g h;obtain⟨p,k,rfl,d,f,fs,q⟩:=h;cases g;rcases d with d|d
 ·obtain⟨c,r,pl,i⟩:=I.list d;refine SeqAt.notIn_listAt (QV x) pl.isList (fun w hw=>FT e f r fs w (by simpa using hw)) ⟨.bl _,H,I,rfl,?_⟩;rw[show c.toArray.any (QV x)=c.any (QV x)by simp,Gz r fs];exact q
 ·obtain⟨c,r,pl,i⟩:=I.tuple d;refine SeqAt.notIn_tupleAt (QV x) pl (fun w hw=>FT e f r fs w (by simpa using hw)) ⟨.bl _,H,I,rfl,?_⟩;rw[show c.toArray.any (QV x)=c.any (QV x)by simp,Gz r fs];exact q
inductive JB(K:yt)(xs:List V)(H:Hp)(Q:VK):Prop
 |mk(p ys:_)(c:xs=[.ref p])(d:(As K H p ys∨Bg K H p ys))(e:Q (.int ys.length) H)
def FU(K:yt):List V->Hp->VK->Prop:=fun c H Q=>JB K c H Q
theorem Ma:Bh X (.builtin "len") (FU X.K):=by
 intro pins s j H k l Q I r h;obtain⟨p,f,rfl,c,q⟩:=h;obtain⟨u,rfl,g⟩:=vals1 r;cases g;have m:=IA;rcases c with c|c
 ·obtain⟨d,e,pl,i⟩:=I.list c;have hlen:=e.length;exact Calls.call_len_list pl.isList (by simp only[List.size_toArray]<;>lia) ⟨.int f.length,H,I.tok _,⟨s.toks+1,by rw[List.size_toArray,hlen]⟩,q⟩
 ·obtain⟨d,e,pl,i⟩:=I.tuple c;have hlen:=e.length;exact len_tuple pl (by simp only[List.size_toArray]<;>lia) ⟨.int f.length,H,I.tok _,⟨s.toks+1,by rw[List.size_toArray,hlen]⟩,q⟩
inductive JC(K:yt)(xs:List V)(H:Hp)(Q:VK):Prop
 |mk(p ys:_)(c:xs=[.ref p])(d:(As K H p ys∨Bg K H p ys))(e:∀l,H l=none->Q (.ref l) (upd H l (.lst ys)))
def Jl(K:yt):List V->Hp->VK->Prop:=fun c H Q=>JC K c H Q
theorem Ep:Bh X (.type "list") (Jl X.K):=by
 intro pins s y H A B Q I r h;obtain⟨p,l,rfl,i,q⟩:=h;obtain⟨u,rfl,z⟩:=vals1 r;cases z;have fin:∀(c:List Value),Vals l c->l.length<=sizeLine->∀(d:Heap)(f:Nat),(∀b x,s.heap.get? b=some x->d.get? b=some x)->
   d.get? s.heap.objs.size=some {cls:=.type "list",dict:=none,data:=.seq c.toArray f,slots:= #[]}->EP X pins y Q (.ref s.heap.objs.size) {s with heap:=d}:=fun c g j d f k e=>
  ⟨.ref s.heap.objs.size,_,I.laid (t':=s.toks) k (Nat.le_refl _) (show A_ X.prog X.w _ d _ (.lst l)from⟨j,c,f,g,e⟩),rfl,q _ (I.Ax.fresh (Nat.le_refl _))⟩
 rcases i with i|i
 ·obtain⟨c,g,pl,j⟩:=I.list i;have hlen:=g.length;obtain⟨o,m,t,n,v⟩:=pl.isList;exact call_list_seq p (.inl rfl) m t v (fun d f k e=>fin c g j d f k e) (by simp only[List.size_toArray]<;>lia)
 ·obtain⟨c,g,pl,j⟩:=I.tuple i;have hlen:=g.length;obtain⟨o,m,t,n,v⟩:=pl;exact call_list_seq p (.inr rfl) m t v (fun d f k e=>fin c g j d f k e) (by simp only[List.size_toArray]<;>lia)
inductive ID(K:yt)(xs:List V)(H:Hp)(Q:VK):Prop
 |mk(p ys:_)(c:xs=[.ref p])(d:((As K H p ys/\∀l,H l=none->Q (.ref l) (upd H l (.tup ys)))∨(Bg K H p ys/\Q (.ref p) H)))
def JD(K:yt):List V->Hp->VK->Prop:=fun c H Q=>ID K c H Q
theorem LL:Bh X (.type "tuple") (JD X.K):=by
 intro pins s i H v x Q I r h;obtain⟨p,j,rfl,h⟩:=h;obtain⟨u,rfl,m⟩:=vals1 r;cases m;rcases h with⟨f,q⟩|⟨f,q⟩
 ·obtain⟨c,g,pl,k⟩:=I.list f;have hlen:=g.length;refine call_tuple_list pl.isList (fun d n=>?_) (by simp only[List.size_toArray]<;>lia);have l:Inv X pins i H {s with heap:=d}:=I.kept (t':=s.toks) n;have t:Inv X pins i (upd H d.objs.size (.tup j)) {s with heap:=d.push {cls:=.type "tuple",data:=.seq c.toArray}}:=
   l.laid (t':=s.toks) (fun b o e=>Heap.get?_push_of_some _ e) (Nat.le_refl _) (show A_ X.prog X.w _ _ _ (.tup j)from⟨k,c,g,IsTup.new _ _⟩)
  exact⟨.ref d.objs.size,_,t,rfl,q _ (l.Ax.fresh (Nat.le_refl _))⟩
 ·obtain⟨c,g,pl,k⟩:=I.tuple f;exact call_tuple_same pl ⟨.ref p,H,I,rfl,q⟩
def kE(K:yt)(T:String)(x:V)(H:Hp):Prop:=match x with
 | .str _=>T="str"
 | .int _=>T="int"
 | .ref p=>(T="list"/\∃c,As K H p c)∨(T="tuple"/\∃o,K.lookup p=some o/\o.cls=.type "tuple"/\o.dict=none)∨ (T="dict"/\((∃kvs,H p=some (.dK kvs))∨∃kvs,H p=some (.dT kvs)))∨(T="set"/\∃S n,H p=some (.set S n))
 |_=>False
theorem Uy{k:St}{T:String}{v:Value}(I:Inv X pins k H s)(r:RelV x v)(ty:kE X.K T x H):
  s.TypeIs v T/\∀a,v=.ref a->∃j,s.heap.get? a=some j/\j.dict=none:=by
 cases x with
 |str z=>
  obtain⟨t,rfl⟩:=r;cases(show T="str"from ty);exact⟨typeIs_str s z t,fun _ e=>nomatch e⟩
 |int i=>
  obtain⟨t,rfl⟩:=r;cases(show T="int"from ty);exact⟨typeIs_int s i t,fun _ e=>nomatch e⟩
 |ref p=>
  cases r;rcases ty with⟨rfl,u,l⟩|⟨rfl,o,d,m,g⟩|⟨rfl,d⟩|⟨rfl,S,n,d⟩
  ·obtain⟨q,_,pl,_⟩:=I.list l;refine⟨pl.isList.typeIs,fun a e=>?_⟩;cases e;obtain⟨o,n,e,c,g,_⟩:=pl;exact⟨o,e,g⟩
  ·refine⟨⟨o,I.GP p o d,m⟩,fun a e=>?_⟩;cases e;exact⟨o,I.GP _ o d,g⟩
  ·have z:∃o,s.heap.get? p=some o/\o.ExactDict:=by
    rcases d with⟨kvs,d⟩|⟨kvs,d⟩
    ·obtain⟨_,_,_,_,o,_,_,e,f,_⟩:=I.Ax p _ d;exact⟨o,e,f⟩
    ·obtain⟨_,_,_,_,o,_,_,e,f,_⟩:=I.Ax p _ d;exact⟨o,e,f⟩
   obtain⟨o,e,f⟩:=z;refine⟨⟨o,e,f.1⟩,fun a h=>?_⟩;cases h;exact⟨o,e,f.2.1⟩
  ·obtain⟨o,_,_,_,e,f,_⟩:=I.Ax p _ d;refine⟨⟨o,e,f.1⟩,fun a h=>?_⟩;cases h;exact⟨o,e,f.2.1⟩
 |_=>exact False.elim ty
def kH(K:yt)(T:String)(r:V->List V->Hp->VK->Prop)(d:TE):TE:=fun e H Q=>d e H fun x c=>kE K T x c/\r x [] c Q
def rN(K:yt)(T:String)(r:V->List V->Hp->VK->Prop)(e:TE)(t:TA):TE:=fun c H Q=>e c H fun x d=>kE K T x d/\t c d fun f g=>r x f g Q
variable{o e:Expr} {es:List Expr} {to:TE} {t:TA} {name:Str} {apos FV:Pos} {T id:String} {r:V->List V->Hp->VK->Prop}
theorem aa(k:PlainAttrs T)(slot:Slot T name id)(f:typeOf (.builtin id)=pure (.type "method_descriptor"))(l:oN X id r)(m:PE X o to)(c:attributeBase o name X.env (eval o X.env)=eval o X.env:=by rfl)(d:(apos.endLine==FV.line)=true:=by rfl):PE X (.Call (.Attribute o name apos) [] [] FV) (kH X.K T r to):=by
 intro pins s g H Q I h;refine wpAny_Call_method0_late c d (BK (m pins s g H _ I h) fun v n ⟨x,p,i,j,ty,q⟩=>?_);obtain⟨u,w⟩:=Uy i j ty;exact⟨T,id,k,slot,f,u,w,Calls.callWith_builtin rfl (PySem.evalArgs_none (l pins n g p x [] v [] Q i j .nil q))⟩
theorem FW(m:PlainAttrs T)(slot:Slot T name id)(i:typeOf (.builtin id)=pure (.type "method_descriptor"))(n:oN X id r)(p:PE X o to)(q:PA X (e::es) t)(d:attributeBase o name X.env (eval o X.env)=eval o X.env:=by rfl)(g:((backTo FV (starEach (e::es) X.env)).all (fun x=> !x.1)&&(backToKw FV (keywordEach [] X.env)).all (fun x=>x.1.isSome)
   &&decide ((e::es).length+([]:List Keyword).length+(if([]:List Keyword).isEmpty then 0 else 1)<30))=true:=by rfl)(f:(apos.endLine==FV.line)=true:=by rfl)(u:starEach (e::es) X.env=(false,eval e X.env)::starEach es X.env:=by rfl)(c:(backTo FV (starEach es X.env)).any (·.1)=false:=by rfl):
  PE X (.Call (.Attribute o name apos) (e::es) [] FV) (rN X.K T r to t):=by
 intro pins s j H Q I h;refine wpAny_Call_method_late d g f rfl (BK (p pins s j H _ I h) fun v w ⟨x,y,k,l,ty,z⟩=>?_);obtain⟨A,B⟩:=Uy k l ty;refine⟨T,id,m,slot,i,A,B,?_⟩;have hA:=q FV pins w j y _ k z;rw[u]at hA⊢;refine Calls.callWith_builtin (by show(false||(backTo FV (starEach es X.env)).any (·.1))=false;rw[c]<;>rfl) (Calls.evalArgs_plain ?_);exact BK hA fun C D E=>E.elim fun F G J L M=>n pins D j G x F v C Q J l L M
end
def iW(X:Cx)(id:String)(r:V->List V->Hp->VK->Prop):Prop:=
 ∀(pins:List (Addr×Obj))(s:Shared)(a:St)(H:Hp)(x:V)(b:List V)(v:Value)(c:List Value)(Q:VK),Inv X pins a H s->RelV x v->Vals b c->r x b H Q->
  wpAny (model X.prog X.w) X.A (call (.builtin id) (v::c)) (EP X pins a Q) X.xe s
theorem Vals.zero(r:Vals [] us):us=[]:=List.eq_nil_of_length_eq_zero (Paired.length r).symm
theorem Vals.one(r:Vals [x] us):∃u,us=[u]/\RelV x u:=by
 obtain⟨u,a,rfl,h,t⟩:=r.inv;rw[t.zero];exact⟨u,rfl,h⟩
theorem Vals.dropLast{xs:List V}(h:Vals xs us):Vals xs.dropLast us.dropLast:=by
 induction h with
 |nil=>exact .nil
 |cons r t a=>
  cases t with
  |nil=>exact .nil
  |cons q b=>exact .cons r a
theorem Vals.eraseIdx:∀{xs:List V}{us:List Value}(i:Nat),Vals xs us->Vals (xs.eraseIdx i) (us.eraseIdx i)
 |_,_,_,.nil=>.nil
 |_,_,0,.cons _ t=>t
 |_,_,i+1,.cons r t=>.cons r (Vals.eraseIdx i t)
theorem Vals.rep{xs:List V}{us:List Value}(h:Vals xs us):∀k:Nat,Vals (List.replicate k xs).flatten (List.replicate k us).flatten
 |0=>.nil
 |k+1=>by
  rw[List.replicate_succ,List.replicate_succ,List.flatten_cons,List.flatten_cons];exact Vals.append h (Vals.rep h k)
theorem QW(l:List a):l.eraseIdx (l.length-1)=l.dropLast:=List.eraseIdx_length_sub_one
theorem Li{a:Type}:∀(l:List a)(i:Nat),(l.eraseIdx i).length<=l.length
 |[],_=>Nat.le_refl _
 |_::_,0=>Nat.le_succ _
 |_::r,i+1=>Nat.succ_le_succ (Li r i)
theorem foldl_rep(its:List Value):∀(k:Nat)(a:List Value),
  List.foldl (fun b c=>b++c) a.toArray (List.replicate k its.toArray)=(a++(List.replicate k its).flatten).toArray
 |0,a=>by simp
 |k+1,a=>by
  have e:a.toArray++its.toArray=(a++its).toArray:=by simp
  have d:(a++its)++(List.replicate k its).flatten=a++(List.replicate (k+1) its).flatten:=by
   rw[List.replicate_succ,List.flatten_cons,List.append_assoc]
  rw[<-d,<-foldl_rep its k (a++its),<-e,List.replicate_succ,List.foldl_cons]
variable{t':Nat}
section
variable{X:Cx} {pins:List (Addr×Obj)} {σ:St} {H:Hp} {s:Shared} {l b:Addr} {xs ys zs:List V}
theorem Inv.Xr{its':List Value}{f:Array Value->Array Value}(I:Inv X pins σ H s)(a:H l=some (.lst xs))(e:s.heap.get? l=some {cls:=.type "list",data:=.seq its.toArray n})(c:f its.toArray=its'.toArray)(d:Vals ys its')(g:ys.length<=sizeLine):
  Inv X pins σ (upd H l (.lst ys)) {s with heap:=s.heap.update l (Obj.mapSeq f),toks:=t'}:=by
 have q:=PySem.IsL.update e f;rw[c]at q;refine I.write (x:=l) (e:=l) (by rw[a];exact trivial) (.inl rfl) (fun j u h i=>(Heap.get?_update_other s.heap (Obj.mapSeq f) (Ne.symm h)).trans i) ⟨_,q⟩ ?_;exact⟨g,its',_,d,q⟩
theorem Inv.Uz(I:Inv X pins σ H s)(a:Vals ys its)(c:ys.length<=sizeLine):
  Inv X pins σ (upd H s.heap.objs.size (.lst ys)) {s with heap:=s.heap.push {cls:=.type "list",data:=.seq its.toArray},toks:=t'}:=
 I.laid (fun _ _ q=>Heap.get?_push_of_some _ q) (Nat.le_refl _) ⟨c,its,0,a,Heap.get?_push_size _ rfl⟩
theorem Inv.fresh(I:Inv X pins σ H s):H s.heap.objs.size=none:=I.Ax.fresh (Nat.le_refl _)
theorem Inv.OE(I:Inv X pins σ H s)(a:H l=some (.lst xs)):xs.length<=sizeLine/\∃(its:List Value)(n:Nat),Vals xs its/\xs.length=its.length/\s.heap.get? l=some {cls:=.type "list",data:=.seq its.toArray n}:=by
 obtain⟨z,its,n,r,e⟩:=I.Ax l _ a;exact⟨z,its,n,r,r.length,e⟩
theorem OF(h:n<=sizeLine):Builtin.List.listTooLong n=false:=by
 unfold Builtin.List.listTooLong;exact decide_eq_false (by lia)
end
section
variable{X:Cx}
inductive U_(x:V)(vs:List V)(H:Hp)(Q:VK):Prop
 |mk(l xs y:_)(a:x=.ref l)(b:vs=[y])(c:H l=some (.lst xs))(d:xs.length<sizeLine)(e:Q .Ah (upd H l (.lst (xs++[y]))))
def Xs:V->List V->Hp->VK->Prop:=fun x a H Q=>U_ x a H Q
theorem ES:iW X "list.append" Xs:=by
 intro pins s g H x i v j Q I c d h;obtain⟨l,k,y,rfl,rfl,b,m,q⟩:=h;cases c;obtain⟨u,rfl,f⟩:=d.one;obtain⟨z,a,n,r,o,e⟩:=I.OE b;refine call_meets F.slot_list_append ⟨_,e,rfl⟩ F.entry_list_append (F.args_list_append_2 _ _) (PySem.list_append l a.toArray n u (by rw[List.size_toArray];lia)) ⟨e,?_⟩;refine⟨.Ah,_,I.Xr (its':=a++[u]) b e (by simp) (r.append (.cons f .nil)) ?_,rfl,q⟩;rw[List.length_append,List.length_singleton];lia
inductive U'(x:V)(vs:List V)(H:Hp)(Q:VK):Prop
 |mk(l b xs zs:_)(a:x=.ref l)(c:vs=[.ref b])(d:H l=some (.lst xs))(e:H b=some (.lst zs))(f:xs.length+zs.length<=sizeLine)(g:Q .Ah (upd H l (.lst (xs++zs))))
def Ro:V->List V->Hp->VK->Prop:=fun x a H Q=>U' x a H Q
theorem ET:iW X "list.extend" Ro:=by
 intro pins s y H x A v B Q I i j h;obtain⟨l,b,C,D,rfl,rfl,g,k,E,q⟩:=h;cases i;obtain⟨u,rfl,m⟩:=j.one;cases m;obtain⟨z,c,n,r,G,e⟩:=I.OE g;obtain⟨z2,a,o,p,t,w⟩:=I.OE k;have f:c.toArray.size+a.toArray.size<=sizeLine:=by rw[List.size_toArray,List.size_toArray];lia
 have d:¬(!c.toArray.isEmpty&&Builtin.List.listTooLong (c.toArray.size+a.toArray.size))=true:=by
  rw[OF f,Bool.and_false];exact Bool.false_ne_true
 refine call_meets F.slot_list_extend ⟨_,e,rfl⟩ F.entry_list_extend (F.args_list_extend_2 _ _) (AutoSeq1.list_extend_list_list_0 l c.toArray n b a.toArray o d (by rw[List.size_toArray];lia) (by lia)) ⟨e,w,?_⟩;refine⟨.Ah,_,I.Xr (its':=c++a) g e (by simp) (r.append p) ?_,rfl,q⟩;rw[List.length_append];lia
inductive fG(x:V)(vs:List V)(H:Hp)(Q:VK):Prop
 |mk(l xs y:_)(a:x=.ref l)(b:vs=[])(c:H l=some (.lst xs))(d:xs[xs.length-1]?=some y)(e:Q y (upd H l (.lst xs.dropLast)))
def kK:V->List V->Hp->VK->Prop:=fun x a H Q=>fG x a H Q
theorem ab:iW X "list.pop" kK:=by
 intro pins s o H x p v t Q I f g h;obtain⟨l,w,y,rfl,rfl,d,i,q⟩:=h;cases f;have b:=g.zero;subst b;obtain⟨z,a,n,r,j,e⟩:=I.OE d;obtain⟨u,k,m⟩:=r.get i;have c:a.toArray[a.toArray.size-1]?=some u:=by
  show a.toArray[a.length-1]?=some u;rw[<-Array.getElem?_toList,<-j];exact k
 refine call_meets F.slot_list_pop ⟨_,e,rfl⟩ F.entry_list_pop (F.args_list_pop_1 _) (MeetsSeq.list_pop_last l a.toArray n u c (by rw[List.size_toArray];lia)) ⟨e,?_⟩;refine⟨y,_,I.Xr (its':=a.dropLast) d e ?_ r.dropLast ?_,m,q⟩
 ·show a.toArray.eraseIdxIfInBounds (a.toArray.size-1)=a.dropLast.toArray;rw[List.size_toArray,List.eraseIdxIfInBounds_toArray,QW]
 ·rw[List.length_dropLast];lia
inductive Xt(x:V)(vs:List V)(H:Hp)(Q:VK):Prop
 |mk(l xs i k y:_)(a:x=.ref l)(b:vs=[.int i])(c:H l=some (.lst xs))(d: -(2 ^ 63)<=i)(e:i<2 ^ 63)(f:seqIndex? i xs.length=some k)(g:xs[k]?=some y)(h:Q y (upd H l (.lst (xs.eraseIdx k))))
def ag:V->List V->Hp->VK->Prop:=fun x a H Q=>Xt x a H Q
theorem Jm:iW X "list.pop" ag:=by
 intro pins s C H x D v E Q I d f h;obtain⟨l,g,i,k,y,rfl,rfl,c,j,m,o,p,q⟩:=h;cases d;obtain⟨u,rfl,A⟩:=f.one;obtain⟨t,rfl⟩:=A;obtain⟨z,a,n,r,B,e⟩:=I.OE c;obtain⟨w,hw,b⟩:=r.get p;refine call_meets F.slot_list_pop ⟨_,e,rfl⟩ F.entry_list_pop (F.args_list_pop_2 _ _) (MeetsSeq.list_pop_at l a.toArray n i t k w (fitsIndex_both j m) (by rw[List.size_toArray,<-B];exact o) (by rw[<-Array.getElem?_toList];exact hw) (by rw[List.size_toArray];lia)) ⟨e,?_⟩;refine⟨y,_,I.Xr (its':=a.eraseIdx k) c e ?_ (r.eraseIdx k) ?_,b,q⟩
 ·show a.toArray.eraseIdxIfInBounds k=(a.eraseIdx k).toArray;rw[List.eraseIdxIfInBounds_toArray]
 ·have:=Li g k;lia
inductive fH(x y:V)(H:Hp)(Q:VK):Prop
 |mk(l b xs zs:_)(a:x=.ref l)(c:y=.ref b)(d:H l=some (.lst xs))(e:H b=some (.lst zs))(f:xs.length+zs.length<=sizeLine)(g:∀p,H p=none->Q (.ref p) (upd H p (.lst (xs++zs))))
def fK:R2:=fun x y H Q=>fH x y H Q
theorem Jn:Ek X (binaryOp .Add) fK:=by
 intro pins s p H x y v u Q I d f h;obtain⟨l,b,t,w,rfl,rfl,g,i,A,q⟩:=h;cases d;cases f;obtain⟨z,c,n,r,B,e⟩:=I.OE g;obtain⟨z2,a,C,j,k,m⟩:=I.OE i;refine PySem.P.add_list e m ?_ (by rw[List.size_toArray,List.size_toArray];lia);have o:c.toArray++a.toArray=(c++a).toArray:=by simp
 rw[o];exact⟨.ref _,_,I.Uz (t':=s.toks) (r.append j) (by rw[List.length_append];lia),rfl,q _ I.fresh⟩
inductive fO(x y:V)(H:Hp)(Q:VK):Prop
 |mk(l k xs:_)(a:x=.ref l)(b:y=.int k)(c:H l=some (.lst xs))(d: -(2 ^ 63)<=k)(e:k<2 ^ 63)(f:xs.length*k.toNat<=sizeLine)(g:∀p,H p=none->Q (.ref p) (upd H p (.lst (List.replicate k.toNat xs).flatten)))
def fP:R2:=fun x y H Q=>fO x y H Q
theorem len_rep(xs:List a)(k:Nat):(List.replicate k xs).flatten.length=k*xs.length:=by
 induction k with
 |zero=>simp
 |succ k b=>rw[List.replicate_succ,List.flatten_cons,List.length_append,b,Nat.succ_mul,Nat.add_comm]
theorem VA:Ek X (binaryOp .Mult) fP:=by
 intro pins s J H x y v u Q I p w h;obtain⟨l,k,K,rfl,rfl,A,B,C,o,q⟩:=h;cases p;obtain⟨t,rfl⟩:=w;obtain⟨z,b,n,r,D,e⟩:=I.OE A;have hlen:b.toArray.size*k.toNat<=sizeLine:=by rw[List.size_toArray,<-D];exact o
 have d:¬b.toArray.size*k.toNat>(2 ^ 63-1)/8:=by
  have:(sizeLine:Nat)<=(2 ^ 63-1)/8:=by decide
  lia
 have f:¬(!Builtin.List.listFitsIndex k)=true:=by
  rw[fitsIndex_both B C];exact Bool.false_ne_true
 have c:¬Builtin.List.listTooLong (b.toArray.size*k.toNat)=true:=by
  rw[OF hlen];exact Bool.false_ne_true
 have g:List.foldl (fun i j=>i++j) #[] (List.replicate (if b.toArray.isEmpty=true then 0 else k.toNat) b.toArray)=(List.replicate k.toNat b).flatten.toArray:=by
  have E:∀m:Nat,List.foldl (fun i j=>i++j) #[] (List.replicate m b.toArray)=(List.replicate m b).flatten.toArray:=fun m=>by
   have:=foldl_rep b m [];rw[List.nil_append]at this;exact this
  rw[E];cases b with
  |nil=>simp
  |cons a L=>rw[if_neg (by simp)]
 refine wpAny_binaryOp_repeat_ref (T:="list") (U:="int") (by decide) ⟨_,e,rfl⟩ (fun G=>typeIs_int G k t) noFill_list_mul F.fills_int_mul F.slot_int_rmul repeat_list F.slot_int_index.lookup (call_meets F.slot_int_rmul (typeIs_int s k t) F.entry_int_rmul (F.args_int_rmul_2 _ _) (int___rmul___int_list k t l b.toArray n)
   ⟨e,rfl,⟨_,e,rfl⟩,call_meets F.slot_list_mul ⟨_,e,rfl⟩ F.entry_list_mul (F.args_list_mul_2 _ _) (AutoListH.list___mul___list_int_3 l b.toArray n k t f d c) ⟨e,?_⟩⟩)
 rw[g];exact⟨.ref _,_,I.Uz (t':=s.toks) (r.rep k.toNat) (by rw[len_rep,Nat.mul_comm];exact o),rfl,q _ I.fresh⟩
end
section
variable{prog:Program} {w:World} {A:Around} {E:Value->Shared->Prop} {s:Shared}
end
section
variable{X:Cx}
end
variable{o:Option V}
section
variable{κ:Type} [DecidableEq κ]
def BQ(kvs:List (κ×V))(k:κ):Option V:=(kvs.find? fun a=>decide (a.1=k)).map (·.2)
def putK(kvs:List (κ×V))(k:κ)(v:V):List (κ×V):=
 if(kvs.any fun a=>decide (a.1=k))=true then kvs.map (fun a=>if a.1=k then(a.1,v)else a)else kvs++[(k,v)]
def OG(kvs:List (κ×V))(k:κ):List (κ×V):=kvs.filter fun a=>decide (a.1≠k)
theorem Bb{p:κ×V}{r:List (κ×V)}{k:κ}(e:p.1=k):BQ (p::r) k=some p.2:=by simp[BQ,List.find?_cons,e]
theorem Bc{p:κ×V}{r:List (κ×V)}{k:κ}(e:¬p.1=k):BQ (p::r) k=BQ r k:=by simp[BQ,List.find?_cons,e]
theorem Ct(k:κ):∀kvs:List (κ×V),(kvs.any fun a=>decide (a.1=k))=(BQ kvs k).isSome
 |[]=>rfl
 |p::r=>by
  rw[List.any_cons];by_cases e:p.1=k
  ·simp only[Bb e,decide_eq_true e,Bool.true_or,Option.isSome_some]
  ·rw[Bc e,decide_eq_false e,Bool.false_or];exact Ct k r
theorem OH(k j:κ)(y:V):∀kvs:List (κ×V),BQ (kvs.map fun a=>if a.1=k then(a.1,y)else a) j=(BQ kvs j).map fun x=>if j=k then y else x
 |[]=>rfl
 |p::r=>by
  have b:=OH k j y r;rw[List.map_cons];by_cases h:p.1=k
  ·rw[if_pos h];by_cases e:p.1=j
   ·rw[Bb (p:=(p.1,y)) e,Bb e,Option.map_some,if_pos (e.symm.trans h)]
   ·rw[Bc (p:=(p.1,y)) e,Bc e,b]
  ·rw[if_neg h];by_cases e:p.1=j
   ·rw[Bb (p:=p) e,Bb e,Option.map_some,if_neg (fun z=>h (e.trans z))]
   ·rw[Bc (p:=p) e,Bc e,b]
theorem Lj(k j:κ)(y:V):∀kvs:List (κ×V),BQ kvs k=none->BQ (kvs++[(k,y)]) j=if j=k then some y else BQ kvs j
 |[],_=>by
  by_cases e:k=j
  ·rw[if_pos e.symm];exact Bb (p:=(k,y)) e
  ·rw[if_neg (fun z=>e z.symm)];exact Bc (p:=(k,y)) e
 |p::r,a=>by
  rw[List.cons_append];have b:¬p.1=k:=fun z=>by rw[Bb z]at a;cases a
  rw[Bc b]at a;have c:=Lj k j y r a;by_cases e:p.1=j
  ·rw[Bb e,Bb e,if_neg (fun z=>b (e.trans z))]
  ·rw[Bc e,Bc e,c]
theorem VB(kvs:List (κ×V))(k j:κ)(y:V):BQ (putK kvs k y) j=if j=k then some y else BQ kvs j:=by
 unfold putK;by_cases a:(kvs.any fun b=>decide (b.1=k))=true
 ·rw[if_pos a,OH];rw[Ct]at a;by_cases e:j=k
  ·obtain⟨x,c⟩:=Option.isSome_iff_exists.mp a;rw[if_pos e,e,c,Option.map_some,if_pos rfl]
  ·rw[if_neg e];cases BQ kvs j with
   |none=>rfl
   |some x=>rw[Option.map_some,if_neg e]
 ·rw[if_neg a];refine Lj k j y kvs ?_;rw[Ct]at a;cases q:BQ kvs k with
  |none=>rfl
  |some x=>rw[q]at a;exact(a rfl).elim
theorem D_(kvs:List (κ×V))(k:κ)(v:V):(putK kvs k v).length<=kvs.length+1:=by
 unfold putK;split
 ·rw[List.length_map];lia
 ·rw[List.length_append,List.length_cons,List.length_nil];lia
theorem OI{kvs:List (κ×V)}{k:κ}(v:V)(h:BQ kvs k=none):putK kvs k v=kvs++[(k,v)]:=by
 unfold putK;rw[Ct,h];exact if_neg (by decide)
theorem Hv.EU{u:Option Value}(r:Hv o u):o.isSome=u.isSome:=by
 cases o with
 |none=>cases u with
  |none=>rfl
  |some _=>exact(show False from r).elim
 |some _=>cases u with
  |none=>exact(show False from r).elim
  |some _=>rfl
theorem KV.val{kvs:List (κ×V)}{vs:List (κ×Value)}(r:KV kvs vs)(k:κ):Hv (BQ kvs k) (valueAt vs k):=by
 unfold KV at r
 induction r with
 |nil=>exact True.intro
 |@cons p q i a h t f=>
  obtain⟨d,g⟩:=h;by_cases e:p.1=k
  ·have c:q.1=k:=d.symm.trans e;have b:valueAt (q::a) k=some q.2:=by simp[valueAt,List.find?_cons,c]
   rw[Bb e,b];exact g
  ·have c:¬q.1=k:=fun z=>e (d.trans z);have b:valueAt (q::a) k=valueAt a k:=by simp[valueAt,List.find?_cons,c]
   rw[Bc e,b];exact f
theorem KV.any{kvs:List (κ×V)}{vs:List (κ×Value)}(r:KV kvs vs)(k:κ):(kvs.any fun a=>decide (a.1=k))=vs.any fun a=>decide (a.1=k):=by
 unfold KV at r
 induction r with
 |nil=>rfl
 |cons h t b=>rw[List.any_cons,List.any_cons,b,h.1]
theorem KV.ah{kvs:List (κ×V)}{vs:List (κ×Value)}(r:KV kvs vs)(k:κ)(c:RelV y u):
  KV (kvs.map fun a=>if a.1=k then(a.1,y)else a) (vs.map fun a=>if a.1=k then(a.1,u)else a):=by
 unfold KV at r⊢
 induction r with
 |nil=>exact .nil
 |@cons p q g i h t d=>
  rw[List.map_cons,List.map_cons];refine .cons ?_ d;obtain⟨b,f⟩:=h;by_cases e:p.1=k
  ·rw[if_pos e,if_pos (b.symm.trans e)];exact⟨b,c⟩
  ·rw[if_neg e,if_neg (fun z=>e (b.trans z))];exact⟨b,f⟩
theorem KV.put{kvs:List (κ×V)}{vs:List (κ×Value)}(r:KV kvs vs)(k:κ)(a:RelV y u):KV (putK kvs k y) (stored vs k u):=by
 unfold putK stored;rw[r.any k];by_cases e:(vs.any fun b=>decide (b.1=k))=true
 ·rw[if_pos e,if_pos e];exact r.ah k a
 ·rw[if_neg e,if_neg e];exact Paired.snoc r ⟨rfl,a⟩
theorem KV.drop{kvs:List (κ×V)}{vs:List (κ×Value)}(r:KV kvs vs)(k:κ):KV (OG kvs k) (without vs k):=by
 unfold KV at r⊢;unfold OG without
 induction r with
 |nil=>exact .nil
 |@cons p q i j h t d=>
  obtain⟨c,f⟩:=h;rw[List.filter_cons,List.filter_cons];by_cases e:p.1=k
  ·have a:¬decide (p.1≠k)=true:=by simp[e]
   have b:¬decide (q.1≠k)=true:=by simp[c.symm.trans e]
   rw[if_neg a,if_neg b];exact d
  ·have g:¬q.1=k:=fun z=>e (c.trans z);have a:decide (p.1≠k)=true:=by simp[e]
   have b:decide (q.1≠k)=true:=by simp[g]
   rw[if_pos a,if_pos b];exact .cons ⟨c,f⟩ d
theorem KV.keys{kvs:List (κ×V)}{vs:List (κ×Value)}(r:KV kvs vs):kvs.map (·.1)=vs.map (·.1):=by
 unfold KV at r
 induction r with
 |nil=>rfl
 |cons h t a=>rw[List.map_cons,List.map_cons,a,h.1]
theorem KV.length{kvs:List (κ×V)}{vs:List (κ×Value)}(r:KV kvs vs):kvs.length=vs.length:=Paired.length r
theorem VC(kvs:List (κ×V))(k:κ):(OG kvs k).length<=kvs.length:=List.length_filter_le _ _
end
variable{w:World}{P:Program}
theorem G_{k:Key}(r:RelV (kV k) u):(Al P w).is k u=true:=by
 cases k with
 |inl i=>obtain⟨t,e⟩:=(show∃t,u=Value.int i t from r);subst e;exact Nr P w i t
 |inr x=>obtain⟨t,e⟩:=(show∃t,u=Value.str x t from r);subst e;exact Nt P w x t
theorem ai{a b:Key}(e:kV a=kV b):a=b:=by
 cases a with
 |inl i=>cases b with
  |inl j=>have c:V.int i=V.int j:=e;injection c with c;rw[c]
  |inr y=>exact nomatch(show V.int i=V.str y from e)
 |inr x=>cases b with
  |inl j=>exact nomatch(show V.str x=V.int j from e)
  |inr y=>have c:V.str x=V.str y:=e;injection c with c;rw[c]
theorem Rp:∀{a b:List Key},a.map kV=b.map kV->a=b
 |[],[],_=>rfl
 |[],_::_,e=>by simp at e
 |_::_,[],e=>by simp at e
 |x::xs,y::ys,e=>by
  rw[List.map_cons,List.map_cons]at e;injection e with c d;rw[ai c,Rp d]
theorem IE{P:Program}{w:World}:∀{ks:List Key}{us:List Value},Vals (ks.map kV) us->ItemsAre (Al P w) ks us
 |[],_,r=>by rw[List.map_nil]at r;cases r;exact .nil
 |k::ks,_,r=>by
  rw[List.map_cons]at r;cases r with
  |cons h t=>exact .cons (G_ h) (IE t)
abbrev KT(H:Hp):List (List Key×V)->List (List Key×Addr×Value)->Prop:=Paired fun p q=>p.1=q.1/\H q.2.1=some (.tup (p.1.map kV))/\RelV p.2 q.2.2
variable{xs:List (List Key×Addr×Value)}
theorem KT.val{kvs:List (List Key×V)}(r:KT H kvs xs)(k:List Key):Hv (BQ kvs k) ((atKey xs k).map (·.2)):=by
 induction r with
 |nil=>exact True.intro
 |@cons p q i a h t f=>
  obtain⟨d,_,g⟩:=h;by_cases e:p.1=k
  ·have c:q.1=k:=d.symm.trans e;have b:atKey (q::a) k=some q.2:=by simp[atKey,List.find?_cons,c]
   rw[Bb e,b];exact g
  ·have c:¬q.1=k:=fun z=>e (d.trans z);have b:atKey (q::a) k=atKey a k:=by simp[atKey,List.find?_cons,c]
   rw[Bc e,b];exact f
theorem KT.ah{kvs:List (List Key×V)}(r:KT H kvs xs)(k:List Key)(d:RelV y u):
  KT H (kvs.map fun b=>if b.1=k then(b.1,y)else b) (xs.map (putAt k u)):=by
 induction r with
 |nil=>exact .nil
 |@cons p q i j h t f=>
  rw[List.map_cons,List.map_cons];refine .cons ?_ f;obtain⟨a,c,g⟩:=h;unfold putAt;by_cases e:p.1=k
  ·rw[if_pos e,if_pos (a.symm.trans e)];exact⟨a,c,d⟩
  ·rw[if_neg e,if_neg (fun z=>e (a.trans z))];exact⟨a,c,g⟩
theorem KT.put{kvs:List (List Key×V)}(r:KT H kvs xs)(k:List Key){b:Addr}(c:H b=some (.tup (k.map kV)))(a:RelV y u):
  KT H (putK kvs k y) (storedH xs k b u):=by
 have e:(kvs.any fun d=>decide (d.1=k))=(atKey xs k).isSome:=by
  rw[Ct,(r.val k).EU,Option.isSome_map]
 unfold putK storedH;rw[e];by_cases q:(atKey xs k).isSome=true
 ·rw[if_pos q,if_pos q];exact r.ah k a
 ·rw[if_neg q,if_neg q];exact Paired.snoc r ⟨rfl,c,a⟩
variable{H':Hp}
theorem KT.keeps{kvs:List (List Key×V)}(r:KT H kvs xs)(a:∀b ys,H b=some (.tup ys)->H' b=some (.tup ys)):KT H' kvs xs:=
 Paired.dy r fun _ _ z=>⟨z.1,a _ _ z.2.1,z.2.2⟩
section
variable{P:Program} {w:World} {H:Hp} {h:Heap} {a:Addr}
theorem ZX{u:HO}(ok:EN P w H h)(e:Rd H a u):A_ P w H h a u:=e.ok ok
theorem EV{kvs:List (Key×V)}(ok:EN P w H h)(e:Rd H a (.dK kvs)):kvs.length<=sizeLine/\(a==sysModules)=false/\∃vs,KV kvs vs/\h.DictOf (Al P w) a vs:=
 show A_ P w H h a (.dK kvs)from ZX ok e
theorem VD{kvs:List (Key×V)}(ok:EN P w H h)(e:H a=some (.dK kvs)):kvs.length<=sizeLine/\(a==sysModules)=false/\∃vs,KV kvs vs/\h.DictOf (Al P w) a vs:=EV ok (.inl e)
theorem IF{ks:List Key}(ok:EN P w H h)(e:H a=some (.tup (ks.map kV))):(tupleKind (Al P w)).is h ks a:=by
 obtain⟨_,b,r,o,c,d,n,f⟩:=(show A_ P w H h a (.tup (ks.map kV))from ok a _ e);exact⟨o,b.toArray,n,c,d,f,by simpa using IE r⟩
theorem Jo{kvs:List (List Key×V)}(ok:EN P w H h)(e:Rd H a (.dT kvs)):kvs.length<=sizeLine/\(a==sysModules)=false/\
  ∃xs,KT H kvs xs/\h.DictOfH (tupleKind (Al P w)) a xs:=by
 obtain⟨z,y,xs,r,o,d,f,g,i,j,k,n⟩:=(show A_ P w H h a (.dT kvs)from ZX ok e);refine⟨z,y,xs,r,o,d,f,g,i,j,k,fun x b=>?_,n⟩;have all:∀{l:List (List Key×V)}{m:List (List Key×Addr×Value)},KT H l m->∀x∈m,(tupleKind (Al P w)).is h x.1 x.2.1:=by
  intro l m q
  induction q with
  |nil=>intro x b;exact nomatch b
  |@cons p q u v c t s=>
   intro x b;rcases List.mem_cons.mp b with e|b
   ·subst e;exact IF ok (by rw[<-c.1];exact c.2.1)
   ·exact s x b
 exact all r x b
theorem fQ{kvs:List (List Key×V)}(ok:EN P w H h)(e:H a=some (.dT kvs)):kvs.length<=sizeLine/\(a==sysModules)=false/\
  ∃xs,KT H kvs xs/\h.DictOfH (tupleKind (Al P w)) a xs:=Jo ok (.inl e)
end
def LM(H:Hp)(a:Addr)(y:V)(r:Option V):Prop:= (∃kvs k,Rd H a (.dK kvs)/\y=kV k/\r=BQ kvs k)∨∃kvs k b,Rd H a (.dT kvs)/\y=.ref b/\H b=some (.tup (k.map kV))/\r=BQ kvs k
def TN(H:Hp)(a:Addr)(y v:V)(H':Hp):Prop:= (∃kvs k,H a=some (.dK kvs)/\y=kV k/\kvs.length<sizeLine/\H'=upd H a (.dK (putK kvs k v)))∨
 ∃kvs k b,H a=some (.dT kvs)/\y=.ref b/\H b=some (.tup (k.map kV))/\kvs.length<sizeLine/\H'=upd H a (.dT (putK kvs k v))
theorem TN.k{H:Hp}{a:Addr}{kvs:List (Key×V)}{k:Key}{v:V}(e:H a=some (.dK kvs))(hl:kvs.length<sizeLine):TN H a (kV k) v (upd H a (.dK (putK kvs k v))):=.inl ⟨kvs,k,e,rfl,hl,rfl⟩
variable{Q:Value->Shared->Prop}{h':Heap}
section
variable{X:Cx} {pins:List (Addr×Obj)} {σ:St} {H:Hp} {s:Shared} {a:Addr} {y v:V} {u r:Value} {o:Option V} {A:Around} {E:Value->Shared->Prop}
theorem Inv.big(I:Inv X pins σ H s):sysModules<s.heap.objs.size:=by
 have h:mainGlobals<s.heap.objs.size:=(I.mod.glob.keeps I.bk).lt;exact Nat.lt_trans (by decide) h
theorem TQ(t:A.units+1<cLine)(I:Inv X pins σ H s)(g:LM H a y (some v))(n:RelV y u)(h:∀f q,Inv X pins σ H q->RelV v f->Q f q):
  wpAny (model X.prog X.w) A (getItem (.ref a) u) Q E s:=by
 rcases g with⟨kvs,k,e,i,l⟩|⟨kvs,k,b,e,i,x,l⟩
 ·subst i;obtain⟨z,B,C,c,j⟩:=EV I.Ax e;obtain⟨f,hw,d⟩:=Hv.some_of (v:=v) (o:=valueAt C k) (by rw[l];exact c.val k);exact wpAny_getItem_of (G_ n) j.mapOf hw (h f _ (I.tok _) d)
 ·subst i;cases(show u=Value.ref b from n);obtain⟨z,B,D,c,j⟩:=Jo I.Ax e;obtain⟨f,hw,d⟩:=Hv.some_of (v:=v) (o:=(atKey D k).map (·.2)) (by rw[l];exact c.val k);obtain⟨p,F,m⟩:=Option.map_eq_some_iff.mp hw;refine wpAny_getItem_heap (tupleKind_room_in1 t) (IF I.Ax x) j F ?_;rw[m];exact h f _ (I.tok _) d
theorem kL(n:A.units+1<cLine)(I:Inv X pins σ H s)(g:LM H a y o)(j:RelV y u)(h:∀m,Inv X pins σ H m->Q (.bool o.isSome) m):
  wpAny (model X.prog X.w) A (compareOp .In u (.ref a)) Q E s:=by
 rcases g with⟨kvs,k,e,d,l⟩|⟨kvs,k,b,e,d,p,l⟩
 ·subst d;obtain⟨z,f,t,c,i⟩:=EV I.Ax e;refine wpAny_in_of (G_ j) f i.mapOf ?_;rw[<-(c.val k).EU,<-l];exact h _ (I.tok _)
 ·subst d;cases(show u=Value.ref b from j);obtain⟨z,f,x,c,i⟩:=Jo I.Ax e;refine wpAny_in_heap (tupleKind_room_in1 n) (IF I.Ax p) f i ?_;have q:=(c.val k).EU;rw[Option.isSome_map]at q;rw[<-q,<-l];exact h _ (I.tok _)
theorem Xu(n:A.units+1<cLine)(I:Inv X pins σ H s)(g:LM H a y o)(j:RelV y u)(h:∀m,Inv X pins σ H m->Q (.bool (!o.isSome)) m):
  wpAny (model X.prog X.w) A (compareOp .NotIn u (.ref a)) Q E s:=by
 rcases g with⟨kvs,k,e,d,l⟩|⟨kvs,k,b,e,d,p,l⟩
 ·subst d;obtain⟨z,f,t,c,i⟩:=EV I.Ax e;refine wpAny_notIn_of (G_ j) f i.mapOf ?_;rw[<-(c.val k).EU,<-l];exact h _ (I.tok _)
 ·subst d;cases(show u=Value.ref b from j);obtain⟨z,f,x,c,i⟩:=Jo I.Ax e;refine wpAny_notIn_heap (tupleKind_room_in1 n) (IF I.Ax p) f i ?_;have q:=(c.val k).EU;rw[Option.isSome_map]at q;rw[<-q,<-l];exact h _ (I.tok _)
theorem JS{c:HO}(I:Inv X pins σ H s)(d:dz (H a))(f:Heap.SameBut a s.heap h')(g:∃q,h'.get? a=some q)(new:A_ X.prog X.w (upd H a c) h' a c):
  Inv X pins σ (upd H a c) {s with heap:=h',toks:=t'}:=
 I.write (x:=a) (e:=a) d (.inl rfl) (fun b q h z=>(f.2 b h).trans z) g new
theorem IG{kvs:List (Key×V)}{vs:List (Key×Value)}(z:kvs.length<=sizeLine)(c:(a==sysModules)=false)(b:KV kvs vs)(d:h'.DictOf (Al P w) a vs):
  A_ P w H' h' a (.dK kvs):=⟨z,c,vs,b,d⟩
theorem TR{Q:Unit->Shared->Prop}(L:A.units+1<cLine)(I:Inv X pins σ H s)(g:TN H a y v H')(C:RelV y u)(D:RelV v r)(h:∀F,Inv X pins σ H' F->Q () F):
  wpAny (model X.prog X.w) A (setItem (.ref a) u r) Q E s:=by
 rcases g with⟨kvs,k,e,j,l,m⟩|⟨kvs,k,b,e,j,G,l,m⟩
 ·subst j m;obtain⟨z,n,M,d,p⟩:=VD I.Ax e;have t:M.length<=sizeLine:=by rw[<-d.length];exact z
  have x:(putK kvs k v).length<=sizeLine:=by have:=D_ kvs k v;lia
  refine wpAny_setItem_pairs (hsz:=t) (G_ C) p fun J f B=>h _ ?_;have N:∃q,J.get? a=some q:=let⟨q,_,_,i,_⟩:=f;⟨q,i⟩;exact JS I (by rw[e];exact True.intro) B N (IG x n (d.put k D) f)
 ·subst j m;cases(show u=Value.ref b from C);obtain⟨z,n,O,d,p⟩:=fQ I.Ax e;have t:O.length<=sizeLine:=by rw[<-Paired.length d];exact z
  have x:(putK kvs k v).length<=sizeLine:=by have:=D_ kvs k v;lia
  refine wpAny_setItem_heap (hsz:=t) (tupleKind_room_in1 L) (IF I.Ax G) p fun J f B=>h _ ?_;obtain⟨q,P,R,i,S,T,U,_,W⟩:=f;refine JS I (by rw[e];exact True.intro) B ⟨q,i⟩ ⟨x,n,_,(d.put k G D).keeps fun c Y K=>?_,q,P,R,i,S,T,U,W⟩;rw[AH (dw K e (fun z=>nomatch z))];exact K
end
section
variable{X:Cx} {pins:List (Addr×Obj)} {σ:St} {H:Hp} {s:Shared} {a:Addr} {kvs:List (Key×V)} {k:Key} {u:Value} {A:Around} {E:Value->Shared->Prop}
theorem fR{v:V}{more:List Value}(I:Inv X pins σ H s)(e:H a=some (.dK kvs))(f:RelV (kV k) u)(l:BQ kvs k=some v)(j:more=[]∨∃x,more=[x])(h:∀c m,Inv X pins σ (upd H a (.dK (OG kvs k))) m->RelV v c->Q c m):wpAny (model X.prog X.w) A (call (.builtin "dict.pop") (.ref a::u::more)) Q E s:=by
 obtain⟨z,r,n,b,p⟩:=VD I.Ax e;obtain⟨c,hw,g⟩:=Hv.some_of (v:=v) (o:=valueAt n k) (by rw[<-l];exact b.val k);have y:(keyPart u).isSome=true:=by
  cases k with
  |inl i=>obtain⟨t,q⟩:=(show∃t,u=Value.int i t from f);subst q;rfl
  |inr x=>obtain⟨t,q⟩:=(show∃t,u=Value.str x t from f);subst q;rfl
 have B:argsOk "dict.pop" ⟨.ref a::u::more,[]⟩:=by
  rcases j with q|⟨x,q⟩
  ·subst q;exact PySem.F.args_dict_pop_2 _ _
  ·subst q;exact PySem.F.args_dict_pop_3 _ _ _
 refine call_meetsIn PySem.F.slot_dict_pop p.typeIs PySem.F.entry_dict_pop B (meets_dict_pop_there (Al X.prog X.w) a (G_ f) more j y)
  ⟨n,c,p,by rw[<-b.length];exact z,hw,fun C d D=>h c _ ?_ g⟩
 have G:∃q,C.get? a=some q:=let⟨q,_,_,J,_⟩:=d;⟨q,J⟩;exact JS I (by rw[e];exact True.intro) D G (IG (Nat.le_trans (VC kvs k) z) r (b.drop k) d)
end
def Xv(i:Expr):Prop:=∀ov a,subscripted i false ov a=operate [ov,a] (getItem ov a)
theorem Rq{prog:Program}{E:Value->Shared->Prop}{env:Env}{value slice:Expr}{pos:Pos}{T id:String}(hl:typeLookup (.type T) "__getitem__"=pure (some (.builtin id)))(j:Xv slice)(h:wpAny (model prog w) A (eval value env) (fun o c=>wpAny (model prog w) A (eval slice env) (fun i a=>a.TypeIs o T/\wpAny (model prog w) A (getItem o i) Q E a) E c) E s):
  wpAny (model prog w) A (eval (.Subscript value slice pos) env) Q E s:=by
 refine Subscript_ (wpAny_mono h (fun o c e=>wpAny_mono e (fun i a b=>?_) fun _ _ x=>x) fun _ _ x=>x);obtain⟨g,b⟩:=b;unfold subscriptTail;refine wpAny_bind ?_;rw[getitemInPython_of_ne g.not_modules];refine wpAny_bind (wpAny_specialOf g hl ?_);have fin:wpAny (model prog w) A (subscripted slice false o i) (fun r d=>wpAny (model prog w) A (letTemporaryGo value o r>>=fun _=>pure r) Q E d) E a:=by
  rw[j o i];exact wpAny_operating (wpAny_mono b (fun r d f=>wpAny_bind (wpAny_letTemporaryGo (wpAny_pure f))) fun _ _ x=>x)
 first
  |exact wpAny_pure (wpAny_bind fin)
  |exact wpAny_bind (wpAny_pure (wpAny_bind fin))
  |exact wpAny_bind fin
variable{X:Cx}
theorem OJ{d:St}{a:Addr}(I:Inv X pins d H s)(g:LM H a y o):s.TypeIs (.ref a) "dict":=by
 rcases g with⟨kvs,k,e,_,_⟩|⟨kvs,k,b,e,_,_,_⟩
 ·obtain⟨_,_,f,_,c⟩:=EV I.Ax e;exact c.typeIs
 ·obtain⟨_,_,h,_,c⟩:=Jo I.Ax e;exact c.typeIs
inductive rO(x y:V)(H:Hp)(Q:VK):Prop
 |mk(a:Addr)(v:V)(e:x=.ref a)(g:LM H a y (some v))(q:Q v H)
inductive rP(x y:V)(H:Hp)(Q:VK):Prop
 |mk(a:Addr)(o:Option V)(e:x=.ref a)(g:LM H a y o)(q:Q (.bl o.isSome) H)
inductive rQ(x y:V)(H:Hp)(Q:VK):Prop
 |mk(a:Addr)(o:Option V)(e:x=.ref a)(g:LM H a y o)(q:Q (.bl (!o.isSome)) H)
def ZY(b ty:TE):TE:=fun a H Q=>b a H fun x c=>ty a c fun y d=>rO x y d Q
def kM(ty b:TE):TE:=fun a H Q=>ty a H fun y c=>b a c fun x d=>rP x y d Q
def Xw(ty b:TE):TE:=fun a H Q=>ty a H fun y c=>b a c fun x d=>rQ x y d Q
def fS(d ty e:TE):TS:=fun D b H=>e b H fun v f=>d b f fun x g=>ty b g fun y h=>∃a c,x=.ref a/\TN h a y v c/\D.nx b c
section
variable{X:Cx} {o i e value:Expr} {pos pos' jx:Pos} {td ty tv:TE}
theorem Xx(f:X.A.units+1<cLine)(j:PE X o td)(k:PE X i ty)(l:Xv i):PE X (.Subscript o i pos) (ZY td ty):=by
 intro pins s c H Q I h;refine Rq PySem.F.slot_dict_getitem.lookup l (BK (j pins s c H _ I h) fun u m n=>n.elim fun x p q r t=>BK (k pins m c p _ q t) fun E G ⟨y,w,d,z,a,v,B,g,C⟩=>?_);subst B;obtain rfl:u=Value.ref a:=r;exact⟨OJ d g,TQ f d g z fun J K D b=>⟨v,w,D,b,C⟩⟩
theorem QX(c:X.A.units+1<cLine)(d:PE X i ty)(f:PE X o td):PC X .In i o (kM ty td):=by
 intro pins s b H Q I h;refine BK (d pins s b H _ I h) fun B j k=>k.elim fun y l m n p=>BK (f pins j b l _ m p) fun u C ⟨x,q,r,t,a,ov,v,g,w⟩=>?_;subst v;obtain rfl:u=Value.ref a:=t;exact kL c r g n fun D z=>⟨.bl ov.isSome,q,z,rfl,w⟩
theorem Lk(c:X.A.units+1<cLine)(d:PE X i ty)(f:PE X o td):PC X .NotIn i o (Xw ty td):=by
 intro pins s b H Q I h;refine BK (d pins s b H _ I h) fun B j k=>k.elim fun y l m n p=>BK (f pins j b l _ m p) fun u C ⟨x,q,r,t,a,ov,v,g,w⟩=>?_;subst v;obtain rfl:u=Value.ref a:=t;exact Xu c r g n fun D z=>⟨.bl (!ov.isSome),q,z,rfl,w⟩
theorem D'(d:X.A.units+1<cLine)(f:PE X o td)(j:PE X i ty)(k:PE X value tv)(l:swapsWith value (some (.Subscript o i pos')) pos.line X.env=pure false):
  PS X (.Assign [.Subscript o i pos'] value pos) (fS td ty tv):=by
 intro pins s b H D I h;refine wpAny_Assign_Subscript (BK (k pins s b H _ I h) fun r m c=>c.elim fun v n p q t=>BK (f pins m b n _ p t) fun u w c=>c.elim fun x z B C E=>BK (j pins w b z _ B E) fun N O ⟨y,P,F,G,a,J,K,g,L⟩=>?_) l;subst K;obtain rfl:u=Value.ref a:=C;exact TR d F g G q fun Q M=>⟨b,J,M,L⟩
end
theorem OK(h:Heap)(a:sysModules<h.objs.size):A_ P w H (h.push {cls:=.type "dict",data:=.dict #[]}) h.objs.size (.dK []):=
 ⟨Nat.zero_le _,beq_eq_false_iff_ne.mpr (Ne.symm (Nat.ne_of_lt a)),[],.nil,Heap.DictOf.new h⟩
def aj:TE:=fun _ H Q=>∀p,H p=none->Q (.ref p) (upd H p (.dK []))
section
variable{X:Cx} {pos:Pos}
theorem G':PE X (.Dict [] [] pos) aj:=fun pins s b H Q I h=>
 wpAny_Dict_empty ⟨.ref s.heap.objs.size,_,I.laid (a:=s.heap.objs.size) (o:=.dK []) (t':=s.toks) (fun _ _ q=>Heap.get?_push_of_some _ q) (Nat.le_refl _) (OK s.heap I.big),rfl,h _ (I.Ax.fresh (Nat.le_refl _))⟩
end
def QY:List (TE×TE)->St->Hp->(List (V×V)->Hp->Prop)->Prop
 |[],_,H,Q=>Q [] H
 |(tk,b)::r,a,H,Q=>tk a H fun x c=>b a c fun y H2=>QY r a H2 fun ps d=>Q ((x,y)::ps) d
abbrev VV:List (V×V)->List (Value×Value)->Prop:=Paired fun p q=>RelV p.1 q.1/\RelV p.2 q.2
def iX(X:Cx)(pos:Pos)(keys:List (Option Expr))(values:List Expr)(a:List (TE×TE)):Prop:=
 ∀(pins:List (Addr×Obj))(s:Shared)(b:St)(H:Hp)(Q:List (V×V)->Hp->Prop),Inv X pins b H s->QY a b H Q->
  wpAny (model X.prog X.w) X.A (evalPairs (pairTrees keys values X.env pos)) (fun e f=>∃c d,Inv X pins b d f/\VV c e/\Q c d) X.xe s
theorem Mc{pos:Pos}:iX X pos [] [] []:=fun pins s a H Q I h=>pairTrees_nil_walk ⟨[],H,I,.nil,h⟩
theorem HG{pos:Pos}{k v:Expr}{ks:List (Option Expr)}{vs:List Expr}{tk d:TE}{a:List (TE×TE)}(e:PE X k tk)(f:PE X v d)(g:iX X pos ks vs a):
  iX X pos (some k::ks) (v::vs) ((tk,d)::a):=fun pins s b H Q I h=>
 pairTrees_cons_walk (BK (e pins s b H _ I h) fun u i j=>j.elim fun x l m n o=>BK (f pins i b l _ m o) fun D p ⟨y,q,r,t,w⟩=>
  BK (g pins p b q _ r w) fun E F ⟨z,A,B,c,C⟩=>⟨(x,y)::z,A,B,.cons ⟨n,t⟩ c,C⟩)
def CY(kvs more:List (Key×V)):List (Key×V):=more.foldl (fun a b=>putK a b.1 b.2) kvs
theorem KV.merge:∀{more:List (Key×V)}{a:List (Key×Value)}{kvs:List (Key×V)}{vs:List (Key×Value)},KV more a->KV kvs vs->KV (CY kvs more) (merged vs a):=by
 intro more a kvs vs r;unfold KV at r
 induction r generalizing kvs vs with
 |nil=>intro q;exact q
 |@cons p q d f h t b=>
  intro c;have e:KV (putK kvs p.1 p.2) (stored vs q.1 q.2):=by
   have:=c.put p.1 h.2;rw[<-h.1];exact this
  exact b e
theorem DJ:∀(more kvs:List (Key×V)),(CY kvs more).length<=kvs.length+more.length
 |[],kvs=>by show kvs.length<=kvs.length+0;lia
 |p::r,kvs=>by
  have a:=DJ r (putK kvs p.1 p.2);have b:=D_ kvs p.1 p.2;show(CY (putK kvs p.1 p.2) r).length<=_;rw[List.length_cons];lia
theorem Jp{P:Program}{w:World}:∀{kvs:List (Key×V)}{ws:List (Value×Value)},VV (kvs.map fun e=>(kV e.1,e.2)) ws->∃d,Carries (Al P w) ws d/\KV kvs d
 |[],_,r=>by rw[List.map_nil]at r;cases r;exact⟨[],True.intro,.nil⟩
 |p::kvs,_,r=>by
  rw[List.map_cons]at r;cases r with
  |@cons a b as bs h t=>
   obtain⟨d,c,q⟩:=Jp (P:=P) (w:=w) t;obtain⟨g,f⟩:=b;exact⟨(p.1,f)::d,⟨G_ h.1,rfl,c⟩,.cons ⟨rfl,h.2⟩ q⟩
def fU(a:List (TE×TE)):TE:=fun d H Q=>∀p,H p=none->QY a d (upd H p (.dK [])) fun e b=>b p=some (.dK [])/\∃kvs:List (Key×V),e=kvs.map (fun c=>(kV c.1,c.2))/\kvs.length<=15/\Q (.ref p) (upd b p (.dK (CY [] kvs)))
theorem Me{pos:Pos}{keys:List (Option Expr)}{values:List Expr}{b:List (TE×TE)}(h:iX X pos keys values b)(d:keys.all (·.isSome)=true)(hl:keys.length=values.length)(k:keys≠[])(g:keys.length<=15):PE X (.Dict keys values pos) (fU b):=by
 intro pins s l H Q I q;have m:=I.Ax.fresh (Nat.le_refl s.heap.objs.size);have n:=I.laid (a:=s.heap.objs.size) (o:=.dK []) (h':=s.heap.push {cls:=.type "dict",data:=.dict #[]}) (t':=s.toks) (fun _ _ q=>Heap.get?_push_of_some _ q) (Nat.le_refl _) (OK s.heap I.big);refine wpAny_Dict_walk (knd:=Al X.prog X.w) d hl k g (BK (h pins _ l _ _ n (q _ m)) fun G J ⟨K,L,j,i,e,kvs,p,lk,r⟩=>?_);subst p;obtain⟨t,c,u⟩:=Jp (P:=X.prog) (w:=X.w) i;obtain⟨z,v,x,y,A⟩:=VD j.Ax e;cases y;refine⟨t,c,A,fun h' f B=>⟨.ref s.heap.objs.size,_,?_,rfl,r⟩⟩;have C:(CY [] kvs).length<=sizeLine:=by
  have D:=DJ kvs [];rw[List.length_nil]at D;rw[sizeLine_eq];lia
 have E:∃q,h'.get? s.heap.objs.size=some q:=let⟨q,_,_,F,_⟩:=f;⟨q,F⟩;exact JS j (by rw[e];exact True.intro) B E (IG C v (u.merge .nil) f)
structure M1(X:Cx)(o:Expr)(m:Str)(apos:Pos)(e:Expr)(FV:Pos):Prop where
 base:attributeBase o m X.env (eval o X.env)=eval o X.env
 Io:((backTo FV (starEach [e] X.env)).all (fun x=> !x.1)&&(backToKw FV (keywordEach [] X.env)).all (fun x=>x.1.isSome)
  &&decide (([e]:List Expr).length+([]:List Keyword).length+(if([]:List Keyword).isEmpty then 0 else 1)<30))=true
 line:(apos.endLine==FV.line)=true
 trees:backTo FV (starEach [e] X.env)=[(false,eval e X.env)]
def oO(H:Hp)(a:Addr):Prop:=(∃kvs,Rd H a (.dK kvs))∨∃kvs,Rd H a (.dT kvs)
theorem ao{j:St}{a:Addr}(I:Inv X pins j H s)(d:oO H a):
  s.TypeIs (.ref a) "dict"/\(∀b,Value.ref a=.ref b->∃c,s.heap.get? b=some c/\c.dict=none)/\(a==sysModules)=false:=by
 rcases d with⟨kvs,e⟩|⟨kvs,e⟩
 ·obtain⟨_,g,k,_,f⟩:=EV I.Ax e;refine⟨f.typeIs,fun b q=>?_,g⟩;cases q;obtain⟨c,_,_,h,i,_⟩:=f;exact⟨c,h,i.2.1⟩
 ·obtain⟨_,g,l,_,f⟩:=Jo I.Ax e;refine⟨f.typeIs,fun b q=>?_,g⟩;cases q;obtain⟨c,_,_,h,i,_⟩:=f;exact⟨c,h,i.2.1⟩
section
variable{X:Cx} {pins:List (Addr×Obj)} {σ:St} {H:Hp} {s:Shared} {a:Addr} {y d:V} {u r:Value} {o:Option V} {A:Around} {E:Value->Shared->Prop}
end
def aq(e ty:TE):TE:=fun b H Q=>e b H fun x c=>∃a,x=.ref a/\oO c a/\ty b c fun y d=>∃kvs k v,d a=some (.dK kvs)/\y=kV k/\BQ kvs k=some v/\Q v (upd d a (.dK (OG kvs k)))
section
variable{X:Cx} {o e f:Expr} {apos FV:Pos} {td ty tx:TE}
theorem Jq(i:PE X o td)(j:PE X e ty)(m:M1 X o "pop" apos e FV):PE X (.Call (.Attribute o "pop" apos) [e] [] FV) (aq td ty):=by
 intro pins s c H Q I h;refine wpAny_Call_method m.base m.Io m.line PySem.F.plainAttrs_dict PySem.F.slot_dict_pop PySem.F.type_dict_pop (BK (i pins s c H _ I h) fun u n ⟨x,p,g,q,a,r,d,t⟩=>?_);subst r;obtain rfl:u=Value.ref a:=q;obtain⟨t1,t2,_⟩:=ao g d;refine⟨t1,t2,?_⟩;rw[m.trees];refine Calls.callWith_builtin rfl (Calls.evalArgs_plain (Calls.spliced_cons (BK (j pins n c p _ g t) fun E G ⟨y,J,w,z,kvs,k,v,A,B,l,C⟩=>Calls.spliced_nil ?_)));subst B;exact fR w A z l (.inl rfl) fun K L D b=>⟨v,_,D,b,C⟩
end
section
variable{X:Cx} {pins:List (Addr×Obj)} {σ:St} {H:Hp} {s:Shared} {a:Addr} {kvs:List (Key×V)} {A:Around} {E:Value->Shared->Prop}
theorem VE(I:Inv X pins σ H s)(e:Rd H a (.dK kvs))(h:∀p f,H p=none->Inv X pins σ (upd H p (.dK kvs)) f->Q (.ref p) f):wpAny (model X.prog X.w) A (call (.type "dict") [.ref a]) Q E s:=by
 obtain⟨z,i,l,c,j⟩:=EV I.Ax e;refine kt_call_dict i j (by rw[<-c.length];exact z) fun m d k=>?_;refine h _ _ (I.Ax.fresh (Nat.le_refl _)) (I.laid (a:=s.heap.objs.size) (o:=.dK kvs) (t':=s.toks) (fun b q g=>?_) (Nat.le_refl _) (IG z (beq_eq_false_iff_ne.mpr (Ne.symm (Nat.ne_of_lt I.big))) c d));exact(k.2 b (Nat.ne_of_lt (Heap.lt_size g))).trans (Heap.get?_push_of_some _ g)
end
section
variable{X:Cx} {pins:List (Addr×Obj)} {σ:St} {H:Hp} {s:Shared} {a:Addr} {y:V} {u:Value} {A:Around} {E:Value->Shared->Prop}
end
end L2
namespace oP
open PySem PySem.W PySem.Calls PyProof.Rows
variable{P:Params}
theorem JE{h:Heap}:∀(c:List Int)(vs:List Value),WellAll P h vs (c.map WData.int)->IntsAre vs c:=by
 intro c
 induction c with
 |nil=>
  intro vs w;rw[List.map_nil]at w;cases w;exact .nil
 |cons n c d=>
  intro vs w;rw[List.map_cons]at w;cases w with
  |cons a b=>
   cases a;exact .cons _ _ (d _ b)
variable{l:OpenLaw}
theorem TU{n:Nat}(m:l.most=some n){h:Heap}{args:List WData}{vals:List Value}(c:l.row.toRowW.claim.pre args=true)(i:WellAll P h vals args):
  ∃a vs b,vals=[Value.ref a]/\args=[WData.list (b.map WData.int)]/\h.get? a=some {cls:=.type "list",data:=.seq vs.toArray}/\IntsAre vs b/\b.length<=n:=by
 have j:WShape.hasAll [] args [.list .int]=true:=(pre_splitW c).1;have k:l.pre.holds [] {args:=args}=true:=(pre_splitW c).2;obtain⟨d,r,rfl,o,p⟩:=hasAllW_cons j;obtain rfl:=hasAllW_nil p;obtain⟨x,rfl,s⟩:=hasW_list o;obtain⟨b,rfl⟩:=items_int s;have hlen:b.length<=n:=by
  unfold OpenLaw.pre at k;have f:(WTm.not (.lt (.lit (.int (n:Int))) (.len (.arg 0)))).holds [] {args:=[.list (b.map .int)]}=true:=by
   have f:=(holds_andW k).1;rw[m]at f;exact f
  have g:=condW_of f (w_not (w_lt w_lit (w_len_list (w_arg rfl))));rw[List.length_map]at g;refine Nat.le_of_not_lt fun q=>?_;have t:(n:Int)<((b.length:Nat):Int):=by lia
  first
   |(rw[decide_eq_true t]at g;exact absurd g (by decide))
   |(simp at g;lia)
 cases i with
 |cons u v=>
  cases v;cases u with
  |list w e=>exact⟨_,_,b,rfl,rfl,w,JE b _ e,hlen⟩
theorem TV(l:OpenLaw)(args:List WData):l.row.toRowW.claim.post args (.bool true) args=true:=
 postW_of (r:=l.row.toRowW) (X:=(true==true)) (show WShape.has [] (.bool true) .bool=true by first|rfl|decide|simp[WShape.has,WShape.arms,WShape.armsAll]) (show(WTm.eq .res (.lit (.bool true))).value [] {args:=args,res:=some (.bool true),after:=args}=some (.bool (true==true))from w_eq_bool (w_res rfl) w_lit) rfl
theorem OL{n:Nat}{q:Program}{loose:List Str}{t:(Str->Option Value)->Heap->Prop}{YP:World->Heap->Prop}{d:DefRec}(x:l.most=some n)(j:d.params.defaults=[])(call:∀(w:World) (s₀ b:Shared) (mg k:Str->Option Value) (fa:Addr) (o:Obj) (pm g doc:Value) (a:Addr) (vs:List Value) (h:List Int),
   Ground q loose [] t w s₀ mg k b.heap->YP w b.heap->
   b.heap.get? fa=some o->o.data=.func (docDef d.name d.params d.body d.scope pm g doc)->b.heap.CodeRec g d.name->mg d.name=some (.ref fa)->
   b.heap.get? a=some {cls:=.type "list",data:=.seq vs.toArray}->IntsAre vs h->h.length<=n->b.gens= #[]->
   codeAny (model l.prog w) callerA (.call (.ref fa) ⟨[.ref a],[]⟩) (fun r i=>r=.ok (.ret (.bool true))/\OldK b.heap i.heap/\i.os=b.os/\AllBare i.gens) b):
  WalkO q loose t YP l.row.toRowW d [] (fun f vs=>PySem.call f vs):=by
 intro w s₀ b mg k G Y fa o pm g doc y kV z A m u p B args vals K c v C s D;obtain rfl:y=.none:=Dflts.none u j;obtain rfl:kV=.none:=Dflts.noKw u;obtain⟨a,vs,h,rfl,rfl,e,hints,hlen⟩:=TU x c s;refine enter_call (codeAny_mono (call w s₀ b mg k fa o pm g doc a vs h G Y z (fd_plain A) m p e hints hlen B) fun r i E=>?_);obtain⟨rfl,F,H,I⟩:=E;exact⟨.inl ⟨.bool true,.bool true,[],rfl,fun _=>rfl,.bool true,TV l _,fun _=>⟨List.Pairwise.nil,fun _ J=>(nomatch J)⟩⟩,F,H,I⟩
section
variable{prog:Program} {w:World} {A:Around} {E:Value->Shared->Prop} {s:Shared} {K:Frag}
end
end oP
namespace L2
open PySem PySem.Spec PyProof.Rows
theorem TX{vs:List Value}{a:List Int}(h:IntsAre vs a):Vals (a.map V.int) vs:=by
 induction h with
 |nil=>exact .nil
 |cons n t _ b=>exact .cons ⟨t,rfl⟩ b
def DY(s:Stmt):Arguments:=match s with
 | .FunctionDef _ a _ _ _ _ _ _ _ _=>a
 |_=>{posonlyargs:=[],args:=[],vararg:=none,kwonlyargs:=[],kw_defaults:=[],kwarg:=none,defaults:=[]}
def Cg(s:Stmt):List Stmt:=match s with
 | .FunctionDef _ _ b _ _ _ _ _ _ _=>b
 |_=>[]
def AM(s:Stmt):Scope:=match s with
 | .FunctionDef _ _ _ _ _ _ a _ _ _=>a
 |_=>{kind:=.function,names:=[],isGenerator:=false,isCoroutine:=false}
abbrev CK:Ub:=fun _ _ _ _ _ _=>False
abbrev E0:XK:=fun _ _ _=>False
variable{X:Cx}
theorem OM:Passes CK X E0:=fun _ _ _ _ _ _ _ h=>h.elim
structure Co(K:yt)(x qual:Str)(st:Stmt)(f:Addr)(fd:FuncData):Prop where
 ex:∃(oc:Value)(od:Option Addr)(kV doc pm:Value)(an:Option Addr)(Jr ct:Value)(rR:Array (Option Value)),
  fd=PySem.W.fnOf x qual (DY st) (Cg st) (AM st) .none kV doc pm an Jr ct/\K.lookup f=some ⟨oc,od,.func fd,rR⟩/\PySem.W.codeIn K Jr qual=true
 kp:PySem.W.keepIn K (.ref f)=true
variable{x qual:Str}{st:Stmt}{f:Addr}
section
variable{P:Program} {w:World} {K:yt} {mg:Str->Option Value} {base:Heap}
theorem Co.ok{e:FuncData}{N ps:List Str}{k:Nat}{sp:Sp}(F:Co K x qual st f e)(S:AZ N ps (AM st))(len:∀vs H Q E,sp vs H Q E->vs.length=ps.length)(b:∀(a:Value) (A:Around) (outer:List Env) (s:Shared) (H:Hp) (vs:List V) (Q:VK) (E:XK),Bi k (A.deeper (envOfC qual (AM st) s.heap.objs.size f a))->sp vs H Q E->
   ∃t,QC (MU CK P w K mg base N qual (AM st) f a A outer s H E).ZS (Cg st) t/\t {nx:=fun _ g=>Q .Ah g,rt:=Q} (start N vs) H):Au P w K mg base CK (k+1) f e ps sp:=by
 obtain⟨l,m,kV,doc,n,o,a,p,i,rfl,lk,c⟩:=F.ex;refine ZV lk c S len fun A outer s H vs Q E j d=>?_;obtain⟨t,h,q⟩:=b a A outer s H vs Q E j d;exact⟨t,h.ZS,q⟩
theorem Co.binds{c:FuncData}{ps:List Str}(F:Co K x qual st f c)(h:∀(kV doc pm:Value) (b:Option Addr) (a ct:Value) (us:List Value),us.length=ps.length->bindArgs (PySem.W.fnOf x qual (DY st) (Cg st) (AM st) .none kV doc pm b a ct) ⟨us,[]⟩=pure (ps.zip us)):Binds K c ps []:=by
 obtain⟨g,i,kV,doc,pm,b,a,ct,d,rfl,lk,e⟩:=F.ex;exact .all (h kV doc pm b a ct)
theorem QZ{e:Value}{g d:Option Addr}{b:Array (Option Value)}{kV doc pm a ct:Value}(l:K.lookup f=some ⟨e,g,.func (PySem.W.fnOf x qual (DY st) (Cg st) (AM st) .none kV doc pm d a ct),b⟩)(c:PySem.W.codeIn K a qual=true)(k:PySem.W.keepIn K (.ref f)=true):Co K x qual st f (PySem.W.fnOf x qual (DY st) (Cg st) (AM st) .none kV doc pm d a ct):=⟨⟨e,g,kV,doc,pm,d,a,ct,b,rfl,l,c⟩,k⟩
end
variable{A:Around}
theorem BJ{k:Nat}(a:Bi k A):A.units+1<cLine:=Nat.lt_of_le_of_lt (Nat.add_le_add_left (by decide:1<=64) _) a.units
variable{n:Nat}
theorem Aw(h:n<=1000):n<sizeLine:=Nat.lt_of_le_of_lt h (by decide)
section
variable{X:Cx}
theorem pv(i:Nat){pos:Pos}(b:X.N[i]?=some x:=by rfl)(c:iQ X.env.scope x:=by first|exact Or.inl rfl|exact Or.inr (Or.inl rfl)|exact Or.inr (Or.inr rfl))(d:(x==("__debug__":Str))=false:=by decide)(a:(x==("__classdict__":Str))=false:=by decide):PE X (.Name x pos) (aG i):=aH b c d a
end
theorem BE{A B:Prop}(h:B):if false=true then A else B:=by
 rw[if_neg Bool.false_ne_true];exact h
theorem Cc{A B:Prop}(h:A):if true=true then A else B:=by
 rw[if_pos rfl];exact h
theorem VF{c A B:Prop}[Decidable c](a:c->A)(b:¬c->B):if c then A else B:=by
 by_cases h:c
 ·rw[if_pos h];exact a h
 ·rw[if_neg h];exact b h
def AF(H H':Hp):Prop:=∀b o,H b=some o->H' b=some o
theorem AF.refl(H:Hp):AF H H:=fun _ _ h=>h
variable{H:Hp}
theorem AF.trans{d H2:Hp}(a:AF H d)(b:AF d H2):AF H H2:=fun c o h=>b c o (a c o h)
theorem AF.free{H':Hp}(e:AF H H'){l:Addr}(h:H' l=Option.none):H l=Option.none:=by
 cases q:H l with
 |none=>rfl
 |some o=>
  rw[e l o q]at h;cases h
theorem AF.seq{K:yt}{H':Hp}{a:Addr}{xs:List V}(e:AF H H')(h:As K H a xs):As K H' a xs:=by
 rcases h with(h|⟨o,h⟩)|h
 ·exact .inl (.inl (e _ _ h))
 ·exact .inl (.inr ⟨o,e _ _ h⟩)
 ·exact .inr h
section
variable{κ:Type} [DecidableEq κ]
theorem ON{kvs:List (κ×V)}{k:κ}(h:BQ kvs k=none):¬k∈kvs.map (·.1):=by
 intro m;obtain⟨p,a,e⟩:=List.mem_map.mp m;have q:(kvs.any fun b=>decide (b.1=k))=true:=List.any_eq_true.mpr ⟨p,a,decide_eq_true e⟩;rw[Ct,h]at q;exact absurd q (by simp)
theorem Mf{kvs:List (κ×V)}{k:κ}{v:V}(h:BQ kvs k=some v):k∈kvs.map (·.1):=by
 have q:(kvs.any fun a=>decide (a.1=k))=true:=by
  rw[Ct,h]
  all_goals rfl
 obtain⟨p,b,e⟩:=List.any_eq_true.mp q;exact List.mem_map.mpr ⟨p,b,of_decide_eq_true e⟩
end
variable{scope:Scope}{s:Shared}{env:Env}
theorem Js{prog:Program}{w:World}{R:Result->Shared->Prop}{a f iter:Expr}{d:List Expr}{pos:Pos}{g b:Value}(e:Nat->Shared->Prop)(step:∀n s,e n s->wpAny (model prog w) A (pyNext g) (fun r p=>match r with
   |none=>R (.ok .next) p
   |some v=>wpAny (model prog w) A (letOwnedTupleGo f g v) (fun _ u=>wpAny (model prog w) A (assign f env v) (fun _ B=>
     wpAny (model prog w) A (forIn d true fun c r=>if r=true then do let ok<-isTrue c env (eval c env);pure (ForInStep.yield ok)else pure (ForInStep.yield r)) (fun ok i=>
      if ok=true then wpAny (model prog w) A (eval a env) (fun y j=>wpAny (model prog w) A (call (.builtin "list.append") [b,y]) (fun _ l=>∃m,m<n/\e m l) (fun _ _=>False) j) (fun _ _=>False) i
      else∃m,m<n/\e m i) (fun _ _=>False) B) (fun _ _=>False) u) (fun _ _=>False) p) (fun _ _=>False) s)(n:Nat)(h:e n s):codeAny (model prog w) A (.compLoop (.ListComp a [⟨f,iter,d,0⟩] scope pos) 0 g b env) R s:=by
 have up:∀{C:Type}{t:Sem C}{Q:C->Shared->Prop}{E:Value->Shared->Prop}{s:Shared},wpAny (model prog w) A t Q (fun _ _=>False) s->wpAny (model prog w) A t Q E s:=
  fun h=>wpAny_mono h (fun _ _ q=>q) fun _ _ z=>z.elim
 refine codeAny_loop rfl e (fun k s F=>?_) n h;show wpAny _ A ((compTurn (.ListComp a [⟨f,iter,d,0⟩] scope pos) 0 g b env).onRaise (fun x=>do noteFrame x env;theTreesLotGoes x)) _ _ s;refine wpAny_noted ?_;rw[compTurn_list];refine wpAny_bind (wpAny_standAt (wpAny_bind (wpAny_mono (up (step k s F)) (fun r p D=>?_) fun _ _ z=>z)));cases r with
 |none=>exact wpAny_pure D
 |some v=>
  refine wpAny_bind (wpAny_mono (up D) (fun _ u G=>?_) fun _ _ z=>z);refine wpAny_bind (wpAny_mono (up G) (fun _ B H=>?_) fun _ _ z=>z);refine wpAny_bind (wpAny_mono (up H) (fun ok i o=>?_) fun _ _ z=>z);cases ok with
  |false=>exact wpAny_pure ⟨rfl,o⟩
  |true=>
   have o:wpAny (model prog w) A (eval a env) (fun y j=>wpAny (model prog w) A (call (.builtin "list.append") [b,y]) (fun _ l=>∃m,m<k/\e m l) (fun _ _=>False) j) (fun _ _=>False) i:=o;exact wpAny_bind (wpAny_bind (wpAny_mono (up o) (fun y j I=>wpAny_bind (wpAny_mono (up I) (fun _ l J=>wpAny_pure (wpAny_pure ⟨rfl,J⟩)) fun _ _ z=>z)) fun _ _ z=>z))
noncomputable def Cp(cells:List (Str×Addr)):List (Str×NameKind)->List (Str×Addr)->List (Str×Addr)
 |[],a=>a
 |(n,k)::r,a=>if k==.free then Cp cells r ((n,(cells.lookup n).getD 0)::a)else Cp cells r a
theorem DZ{cells:List (Str×Addr)}{x:Str}{c:Addr}:∀(names:List (Str×NameKind))(a:List (Str×Addr)),(∀p∈names,p.2=.free->∃c,cells.lookup p.1=some c)-> (∀y d,a.lookup y=some d->cells.lookup y=some d)->(Cp cells names a).lookup x=some c->cells.lookup x=some c
 |[],a,_,g,h=>g x c h
 |(n,k)::r,a,i,g,h=>by
  unfold Cp at h;by_cases j:(k==NameKind.free)=true
  ·rw[if_pos j]at h;have o:k=.free:=by simpa using j
   obtain⟨d,q⟩:=i (n,k) List.mem_cons_self o;refine DZ r _ (fun p l=>i p (List.mem_cons_of_mem _ l)) (fun y e f=>?_) h;rw[List.lookup_cons]at f;cases b:y==n with
   |true=>
    rw[b]at f;have:y=n:=by simpa using b
    subst this;have m:List.lookup y cells=some d:=q;rw[m]at f⊢;exact f
   |false=>
    rw[b]at f;exact g y e f
  ·rw[if_neg j]at h;exact DZ r a (fun p l=>i p (List.mem_cons_of_mem _ l)) g h
theorem Dh{cells:List (Str×Addr)}{x:Str}:∀(names:List (Str×NameKind))(a:List (Str×Addr)),((a.lookup x).isSome=true∨(x,NameKind.free)∈names)->((Cp cells names a).lookup x).isSome=true
 |[],a,h=>h.elim (fun z=>z) fun z=>nomatch z
 |(n,k)::r,a,h=>by
  unfold Cp;by_cases b:(k==NameKind.free)=true
  ·rw[if_pos b];refine Dh r _ ?_;rcases h with h|h
   ·refine .inl ?_;rw[List.lookup_cons];cases x==n<;>simp[h]
   ·rcases List.mem_cons.mp h with e|e
    ·refine .inl ?_;have:x=n:=congrArg Prod.fst e;subst this;rw[List.lookup_cons];simp
    ·exact .inr e
  ·rw[if_neg b];refine Dh r _ ?_;rcases h with h|h
   ·exact .inl h
   ·rcases List.mem_cons.mp h with e|e
    ·have:NameKind.free=k:=congrArg Prod.snd e;subst this;exact absurd rfl b
    ·exact .inr e
theorem DE(h:∀p∈scope.names,p.2=.free->∃c,env.cells.lookup p.1=some c):closureFor scope env=pure (Cp env.cells scope.names []):=by
 have go:∀(names:List (Str×NameKind))(b:List (Str×Addr)),(∀p∈names,p.2=.free->∃c,env.cells.lookup p.1=some c)-> (forIn names b (fun(x:Str×NameKind) r=>if(x.2==NameKind.free)=true then do let a<-cellOf env x.1;pure (ForInStep.yield ((x.1,a)::r))else pure (ForInStep.yield r)):Sem (List (Str×Addr)))=pure (Cp env.cells names b):=by
  intro names
  induction names with
  |nil=>intro b _;rfl
  |cons p r j=>
   intro b f;obtain⟨n,k⟩:=p;rw[List.forIn_cons];unfold Cp;by_cases g:(k==NameKind.free)=true
   ·have l:k=.free:=by simpa using g
    obtain⟨c,d⟩:=f (n,k) List.mem_cons_self l;have d:List.lookup n env.cells=some c:=d;have e:cellOf env n=pure c:=by unfold cellOf;rw[d]
    simp only[g,if_true,e,d,Option.getD_some];exact j _ fun p i=>f p (List.mem_cons_of_mem _ i)
   ·simp only[g,if_false];exact j _ fun p i=>f p (List.mem_cons_of_mem _ i)
 unfold closureFor;exact Eq.trans (congrArg (fun t:Sem (List (Str×Addr))=>t>>=fun m=>pure m) (go scope.names [] h)) rfl
def HH(env:Env)(n:Str)(k:NameKind):NameKind:=if(k==.free&&env.scope.kind==.function&&env.kindOf n==some .cell)=true then .cell else k
theorem HI{g:Str->NameKind->NameKind}(y:Str):∀names:List (Str×NameKind),(names.map fun p=>(p.1,g p.1 p.2)).lookup y=(names.lookup y).map (g y)
 |[]=>rfl
 |(n,k)::r=>by
  rw[List.map_cons,List.lookup_cons,List.lookup_cons];cases e:y==n with
  |true=>
   have:y=n:=by simpa using e
   subst this;rfl
  |false=>exact HI y r
theorem CL(scope:Scope)(env:Env)(y:Str):(relabel scope env).names.lookup y=(scope.names.lookup y).map (HH env y):=by
 have e:(relabel scope env).names=scope.names.map fun p=>(p.1,HH env p.1 p.2):=by
  unfold relabel;refine List.map_congr_left fun p _=>?_;obtain⟨n,k⟩:=p;show(if(k==NameKind.free&&env.scope.kind==.function&&env.kindOf n==some .cell)=true then(n,NameKind.cell)else(n,k))=(n,if(k==NameKind.free&&env.scope.kind==.function&&env.kindOf n==some .cell)=true then NameKind.cell else k);by_cases h:(k==NameKind.free&&env.scope.kind==.function&&env.kindOf n==some .cell)=true
  ·rw[if_pos h,if_pos h]
  ·rw[if_neg h,if_neg h]
 rw[e];exact HI y _
def Bq(a:St)(fs:List Nat):St:=fs.map fun i=>(a[i]?).join
theorem Ll{b:St}{fs:List Nat}{j:Nat}{v:V}(h:(Bq b fs)[j]?=some (some v)):∃i,fs[j]?=some i/\b[i]?=some (some v):=by
 unfold Bq at h;rw[List.getElem?_map]at h;cases e:fs[j]? with
 |none=>rw[e]at h;cases h
 |some i=>
  rw[e]at h;refine⟨i,rfl,?_⟩;have a:(b[i]?).join=some v:=yq h;cases c:b[i]? with
  |none=>rw[c]at a;cases a
  |some o=>
   rw[c]at a;have a:o=some v:=a;rw[a]
noncomputable def kindB:Bool->NameKind
 |true=>.cell
 |false=>.local
noncomputable def ar:Bool->Str->List (Str×NameKind)
 |true,x=>[(x,.cell)]
 |false,_=>[]
noncomputable def JF:Bool->Str->Addr->List (Str×Addr)
 |true,x,C=>[(x,C+1)]
 |false,_,_=>[]
theorem GX:∀(names:List (Str×NameKind))(n:Nat)(a:List (Str×Addr))(h:Heap),names.filter (fun p=>p.2==.cell)=[]->cellsFrom n names a=a/\pushCells h names=h
 |[],_,_,_,_=>⟨rfl,rfl⟩
 |(y,k)::r,n,a,h,e=>by
  rw[List.filter_cons]at e;cases b:k==NameKind.cell with
  |true=>rw[b]at e;simp at e
  |false=>
   rw[b]at e;unfold cellsFrom pushCells;rw[b];exact GX r n a h (by simpa using e)
theorem Lm{x:Str}:∀(names:List (Str×NameKind))(n:Nat)(a:List (Str×Addr))(h:Heap),names.filter (fun p=>p.2==.cell)=[(x,.cell)]->cellsFrom n names a=(x,n)::a/\pushCells h names=h.push {cls:=.type "cell",data:=.cell none}
 |[],_,_,_,e=>by simp at e
 |(y,k)::r,n,a,h,e=>by
  rw[List.filter_cons]at e;cases b:k==NameKind.cell with
  |true=>
   rw[b]at e;simp only[if_true,List.cons.injEq,Prod.mk.injEq]at e;unfold cellsFrom pushCells;rw[b];simp only[if_true];obtain⟨c,d⟩:=GX r (n+1) ((y,n)::a) (h.push {cls:=.type "cell",data:=.cell none}) e.2;rw[c,d,e.1.1];exact⟨rfl,rfl⟩
  |false=>
   rw[b]at e;unfold cellsFrom pushCells;rw[b];exact Lm r n a h (by simpa using e)
variable{E:Value->Shared->Prop}{b:Bool}
theorem Jt{M:Model}{globals:Addr}{cl:List (Str×Addr)}{outer:Env}{Q:Env->Shared->Prop}(g:scope.names.filter (fun p=>p.2==.cell)=ar b x)(h:∀h':Heap,h'.Ns s.heap.objs.size (fun _=>none)->(∀a o,s.heap.get? a=some o->h'.get? a=some o)->(b=true->h'.IsCell (s.heap.objs.size+1) none)->
   Q {scope,locals:=s.heap.objs.size,globals,cells:=JF b x s.heap.objs.size++cl,qual,func:=none,code:=outer.code,frame:=outer.frame,builtins:=outer.builtins} {s with heap:=h'}):
  wpAny M A (newFunctionEnv scope globals cl [] qual none .none (some outer)) Q E s:=by
 simp only[newFunctionEnv,Option.isSome_some,if_true];refine wpAny_bind (wpAny_alloc ?_);refine wpAny_bind (wpAny_layCells _ (fun name kind cells=>by cases c:kind==NameKind.cell<;>simp[c]) _ _ _ _ ?_);rw[List.forIn_nil];refine wpAny_bind (wpAny_pure (wpAny_pure ?_));have sz:(s.heap.push {cls:=.type "dict",data:=.dict #[]}).objs.size=s.heap.objs.size+1:=Heap.size_push ..;cases b with
 |false=>
  obtain⟨d,f⟩:=GX scope.names (s.heap.push {cls:=.type "dict",data:=.dict #[]}).objs.size cl (s.heap.push {cls:=.type "dict",data:=.dict #[]}) g;show Q {scope:=_,locals:=_,globals:=_,cells:=cellsFrom (s.heap.push {cls:=.type "dict",data:=.dict #[]}).objs.size scope.names cl,qual:=_,func:=_,code:=_,frame:=_,builtins:=_} {s with heap:=pushCells (s.heap.push {cls:=.type "dict",data:=.dict #[]}) scope.names};rw[d,f];exact h _ (Heap.Ns.new s.heap (.type "dict")) (fun a o e=>Heap.get?_push_of_some _ e) (fun z=>nomatch z)
 |true=>
  obtain⟨d,f⟩:=Lm scope.names (s.heap.push {cls:=.type "dict",data:=.dict #[]}).objs.size cl (s.heap.push {cls:=.type "dict",data:=.dict #[]}) g;show Q {scope:=_,locals:=_,globals:=_,cells:=cellsFrom (s.heap.push {cls:=.type "dict",data:=.dict #[]}).objs.size scope.names cl,qual:=_,func:=_,code:=_,frame:=_,builtins:=_} {s with heap:=pushCells (s.heap.push {cls:=.type "dict",data:=.dict #[]}) scope.names};rw[d,f,sz];exact h _ ((Heap.Ns.new s.heap (.type "dict")).push _) (fun a o e=>Heap.get?_push_of_some _ (Heap.get?_push_of_some _ e)) (fun _=>⟨_,by rw[<-sz];exact Heap.get?_push_size _ rfl,rfl⟩)
structure DF(X:Cx)(scope:Scope)(x:Str)(fv:List Str)(fs:List Nat)(b:Bool:=false):Prop where
 kind:scope.kind=.function
 iY:scope.names.filter (fun p=>p.2==.cell)=ar b x
 names:∀p∈scope.names,p.2=.local->scope.names.lookup p.1=some .local
 tg:scope.names.lookup x=some (kindB b)
 free:∀p∈scope.names,p.2=.free->X.env.scope.names.lookup p.1=some .cell
 nd:(x::fv).Nodup
 kN:∀(j:Nat) y,fv[j]?=some y->∃i,fs[j]?=some i/\X.N[i]?=some y/\scope.names.lookup y=some .free
 len:fv.length=fs.length
def Rr(a:Scope)(N:List Str)(scope:Scope)(x:Str)(fv:List Str)(fs:List Nat)(b:Bool:=false):Bool:=
 scope.kind==.function&&scope.names.filter (fun p=>p.2==.cell)==ar b x&&(scope.names.all fun p=>p.2 !=.local||scope.names.lookup p.1==some .local)&&scope.names.lookup x==some (kindB b)&&
 (scope.names.all fun p=>p.2 !=.free||a.names.lookup p.1==some .cell)&&decide (x::fv).Nodup&&fs.map (N[·]?)==fv.map some&&(fv.all fun y=>scope.names.lookup y==some .free)
theorem DF.of{fv:List Str}{fs:List Nat}(h:Rr X.env.scope X.N scope x fv fs b=true):DF X scope x fv fs b:=by
 unfold Rr at h;simp only[Bool.and_eq_true,List.all_eq_true,Bool.or_eq_true,bne_iff_ne,beq_iff_eq,decide_eq_true_eq]at h;obtain⟨⟨⟨⟨⟨⟨⟨i,k⟩,m⟩,n⟩,o⟩,q⟩,g⟩,r⟩:=h;have hlen:fs.length=fv.length:=by
  have:=congrArg List.length g;simpa using this
 refine⟨i,k,fun p c d=>(m p c).resolve_left fun z=>z d,n,fun p c d=>(o p c).resolve_left fun z=>z d,q,fun j y e=>?_,hlen.symm⟩;have s:j<fv.length:=(yo e).1;have f:=congrArg (fun l=>l[j]?) g;simp only[List.getElem?_map,e]at f;have a:j<fs.length:=by lia
 rw[yn a]at f;refine⟨fs[j],yn a,?_,r y (yr e)⟩;simpa using f
abbrev Ci(X:Cx)(ex:List (Str×Addr))(N':List Str)(scope:Scope)(C:Addr)(s0:Shared)(H0:Hp)(fp:List Addr):Cx where
 prog:=X.prog
 w:=X.w
 K:=X.K
 mg:=X.mg
 base:=X.base
 A:=X.A
 N:=N'
 s₀:=s0
 H₀:=H0
 env:=compEnvC scope (ex++Cp X.env.cells scope.names []) C X.env
 outer:=X.stack
 stack:=X.stack
 ex:=fp
 fn:=fun y=>(ex.lookup y).isSome
 calm:=X.calm
 pn:=[]
 xe:=fun _ _=>False
abbrev DV(X:Cx)(a:List Str)(scope:Scope)(C:Addr)(b:Shared)(c:Hp)(d:List Addr):Cx:=Ci X [] a scope C b c d
variable{y:Str}{C:Addr}
section
variable{X:Cx} {pins:List (Addr×Obj)} {σ:St} {H H':Hp} {s s':Shared} {scope:Scope} {x:Str} {fv:List Str} {fs:List Nat} {fp:List Addr} {b:Bool}
theorem DF.cells(ok:DF X scope x fv fs b)(I:Inv X pins σ H s):∀p∈scope.names,p.2=.free->∃c,X.env.cells.lookup p.1=some c:=fun p a d=>I.ok.has p.1 (.inl (ok.free p a d))
theorem DF.look(ok:DF X scope x fv fs b)(I:Inv X pins σ H s){c:Addr}(h:(Cp X.env.cells scope.names []).lookup y=some c):X.env.cells.lookup y=some c:=
 DZ scope.names [] (ok.cells I) (fun _ _ z=>by cases z) h
theorem Ju{c:Addr}(h:(JF b x C).lookup y=some c):b=true/\y=x/\c=C+1:=by
 cases b with
 |false=>cases h
 |true=>
  have h:(List.lookup y [(x,C+1)])=some c:=h;rw[List.lookup_cons]at h;cases e:y==x with
  |true=>rw[e]at h;cases h;exact⟨rfl,eq_of_beq e,rfl⟩
  |false=>rw[e]at h;cases h
theorem Qa(ok:DF X scope x fv fs b)(I:Inv X pins σ H s)(E:∀b∈fp,FK X pins H b)(A:∀b∈fp,∃o,s.heap.get? b=some o){w:Heap}{m:Str->Option Value}{tk:Nat}(R:w.Ns s.heap.objs.size m)(kept:∀b o,s.heap.get? b=some o->w.get? b=some o)(B:b=true->w.IsCell (s.heap.objs.size+1) none):Inv (Ci X (JF b x s.heap.objs.size) (x::fv) scope s.heap.objs.size s H fp) [] (none::Bq σ fs) H {s with heap:=w,toks:=tk}:=by
 have C:∀{y c},(JF b x s.heap.objs.size++Cp X.env.cells scope.names []).lookup y=some c->X.env.cells.lookup y=some c∨(b=true/\y=x/\c=s.heap.objs.size+1):=fun{y c} h=>by
  rw[List.lookup_append]at h;cases e:(JF b x s.heap.objs.size).lookup y with
  |some d=>rw[e]at h;cases h;exact .inr (Ju e)
  |none=>rw[e]at h;exact .inl (ok.look I (by simpa using h))
 have lt:∀{y c},X.env.cells.lookup y=some c->c<s.heap.objs.size:=fun h=>by obtain⟨_,o,n,_⟩:=I.cell _ _ h;exact Heap.lt_size n
 have G:X.env.scope.kind=.function:=I.ok.kind;refine⟨⟨I.ok.mod,ok.kind,I.ok.glob,I.ok.blt,Nat.le_refl _,fun y z c w S=>?_,fun y f=>?_,fun y c t h=>?_,I.ok.hd,I.ok.frames,.inl rfl,fun b g=>⟨?_,fun y c e z=>?_⟩,I.bs,
  Nat.le_trans I.ok.S_ I.sz,fun b o e g=>?_,fun b g J=>?_,I.stack,I.MP⟩,rfl,I.bare,Un.kept kept,⟨m,R,fun i y v F q e3=>?_⟩,fun y c e=>?_,I.fresh,fun y c e=>?_,fun p T=>absurd (show p∈([]:List (Addr×Obj))from T) (by simp),I.Ax.kept kept,?_⟩
 ·rcases C w with a|⟨_,a1,a2⟩<;>rcases C S with d|⟨_,U,d2⟩
  ·exact I.ok.inj y z c a d
  ·have:=lt a;lia
  ·have:=lt d;lia
  ·rw[a1,U]
 ·have f:(relabel scope X.env).names.lookup y=some .cell∨(relabel scope X.env).names.lookup y=some .free:=f;rw[CL]at f;cases e:scope.names.lookup y with
  |none=>rw[e]at f;rcases f with z|z<;>cases z
  |some k=>
   show∃c,(JF b x s.heap.objs.size++Cp X.env.cells scope.names []).lookup y=some c;rw[List.lookup_append];rw[e]at f;have f:HH X.env y k=.cell∨HH X.env y k=.free:=f.elim (fun z=>.inl (yq z)) fun z=>.inr (yq z);by_cases K:k=.free
   ·subst K;have:=Dh (cells:=X.env.cells) scope.names [] (.inr (PySem.mem_of_lookup e));obtain⟨c,W⟩:=Option.isSome_iff_exists.mp this;rw[W];cases(JF b x s.heap.objs.size).lookup y<;>exact⟨_,rfl⟩
   ·have q:HH X.env y k=k:=by
     unfold HH;have:(k==NameKind.free)=false:=by simpa using K
     rw[this];rfl
    rw[q]at f;rcases f with z|z
    ·subst z;have L:(y,NameKind.cell)∈scope.names.filter (fun p=>p.2==.cell):=List.mem_filter.mpr ⟨PySem.mem_of_lookup e,rfl⟩;rw[ok.iY]at L;cases b with
     |false=>cases L
     |true=>
      have:y=x:=congrArg Prod.fst (List.mem_singleton.mp L);subst this;exact⟨s.heap.objs.size+1,by show(List.lookup y [(y,s.heap.objs.size+1)]).or _=_;rw[List.lookup_cons];simp⟩
    ·exact absurd z K
 ·have t:((JF b x s.heap.objs.size).lookup y).isSome=true:=t;obtain⟨d,hd⟩:=Option.isSome_iff_exists.mp t;have h:(JF b x s.heap.objs.size++Cp X.env.cells scope.names []).lookup y=some c:=h;rw[List.lookup_append,hd]at h;cases h;obtain⟨_,_,rfl⟩:=Ju hd;exact Nat.le_succ _
 ·obtain⟨o,n⟩:=A b g;exact Nat.ne_of_lt (Heap.lt_size n)
 ·rcases C e with a|⟨_,_,a2⟩
  ·exact(E b g).2.2.2.2.1 y c a z
  ·obtain⟨o,n⟩:=A b g;have:=Heap.lt_size n;lia
 ·rcases(E b g).2.2.2.1 with z|z
  ·exact I.ok.S' b o e z
  ·exact absurd (Nat.lt_of_lt_of_le (Heap.lt_size e) (Nat.le_trans I.ok.S_ z)) (Nat.lt_irrefl _)
 ·rcases List.mem_cons.mp (I.Jh b J)with z|z
  ·exact(E b g).2.1 z
  ·exact(E b g).2.2.1 z
 ·cases i with
  |zero=>
   have q:(some none:Option (Option V))=some (some v):=q;cases q
  |succ j=>
   have F:fv[j]?=some y:=F;have q:(Bq σ fs)[j]?=some (some v):=q;obtain⟨i,Y,Z⟩:=Ll q;obtain⟨i',Q,g4,M⟩:=ok.kN j y F;rw[Y]at Q;cases Q;have N:X.env.scope.names.lookup y=some .cell:=ok.free (y,.free) (PySem.mem_of_lookup M) rfl;obtain⟨m0,_,O⟩:=I.loc;obtain⟨u,r,l⟩:=O i y v g4 Z (.inr (.inl N));refine⟨u,r,?_⟩;rcases l with⟨k,_⟩|⟨_,c,e,o,n,hd⟩
   ·have k:X.env.scope.names.lookup y=some .local:=k;rw[N]at k;cases k
   ·obtain⟨c',D⟩:=Option.isSome_iff_exists.mp (Dh (cells:=X.env.cells) scope.names [] (.inr (PySem.mem_of_lookup M)));have:=ok.look I D;rw[e]at this;cases this;have ny:(JF b x s.heap.objs.size).lookup y=none:=by
     cases ey:(JF b x s.heap.objs.size).lookup y with
     |none=>rfl
     |some d=>
      obtain⟨_,z,_⟩:=Ju ey;exact absurd (show x∈fv from z▸yr (l:=fv) (show fv[j]?=some y from F)) (List.nodup_cons.mp ok.nd).1
    refine .inr ⟨.inl ?_,c,by show(JF b x s.heap.objs.size++Cp X.env.cells scope.names []).lookup y=some c;rw[List.lookup_append,ny];exact D,o,kept _ _ n,hd⟩;show(relabel scope X.env).names.lookup y=some .cell;rw[CL,M];show some (HH X.env y .free)=_;have P:X.env.kindOf y=some .cell:=N;unfold HH;rw[G,P];rfl
 ·rcases C e with a|⟨g,_,rfl⟩
  ·obtain⟨v,o,n,hd⟩:=I.cell y c a;exact⟨v,o,kept _ _ n,hd⟩
  ·exact⟨none,B g⟩
 ·rcases C e with a|⟨_,_,rfl⟩
  ·exact I.DU y c a
  ·exact I.Ax.fresh (Nat.le_succ _)
 ·show(none::Bq σ fs).length=(x::fv).length;simp[Bq,ok.len]
theorem Jv{e:St}{f:List Str}{ex:List (Str×Addr)}(I:Inv X pins σ H s)(a:∀b∈fp,FK X pins H b)(c:Inv (Ci X ex f scope C s H fp) [] e H' s'):Inv X pins σ H' s':=
 I.d_ (ch:=fp) c.os c.base c.Ax c.bare fun b d=>⟨(a b d).2.2.2.1,(a b d).2.1,(a b d).2.2.2.2.1,(a b d).2.2.2.2.2⟩
theorem Inv.off{h':Heap}(I:Inv X pins σ H s)(f:FK X pins H C)(a:Heap.SameBut C s.heap h'):Inv X pins σ H {s with heap:=h'}:=
 I.turned (t':=s.toks) (fun b o c e=>a.extBut b o c e) f.1 (fun z=>f.2.1 z) f.2.2.2.1 f.2.2.2.2.1 f.2.2.2.2.2
end
def Xy(X:Cx)(a:List Expr)(t:TT):Prop:=
 ∀(pins:List (Addr×Obj))(s:Shared)(b:St)(H:Hp)(Q:Bool->Hp->Prop),Inv X pins b H s->t b H Q->
  wpAny (model X.prog X.w) X.A (forIn a true fun c r=>if r=true then do let ok<-isTrue c X.env (eval c X.env);pure (ForInStep.yield ok)else pure (ForInStep.yield r)) (TP X pins b Q) X.xe s
def Mg:TT:=fun _ H Q=>Q true H
theorem Fz:Xy X [] Mg:=fun _ _ _ H _ I h=>wpAny_tests_nil ⟨H,I,h⟩
theorem Xz{c:Expr}{t:TT}(h:PT X c t):Xy X [c] t:=fun pins s a H Q I q=>wpAny_tests_one (h pins s a H Q I q)
def Er(J:It)(h:TT)(j:TE)(fs:List Nat)(d:St)(H:Hp)(Q:VK):Prop:=∀D,H D=none->∃W:Nat->Nat->Hp->Prop,(∃m,W 0 m (upd H D (.lst [])))/\∀i m a,W i m a-> (J.stop i a/\Q (.ref D) a)∨(J.go i a/\∀v e,J.N_ i a v e->h (some v::Bq d fs) e fun ok f=>
  if ok=true then j (some v::Bq d fs) f fun y g=>∃c,g D=some (.lst c)/\c.length<sizeLine/\∃b,b<m/\W (i+1) b (upd g D (.lst (c++[y])))else∃b,b<m/\W (i+1) b f)
def OO(b:TI)(c:TT)(d:TE)(fs:List Nat):TE:=fun a H Q=>b a H fun J e=>Er J c d fs a e Q
variable{J:It}{Q:VK}
section
variable{X:Cx} {elt iter:Expr} {x:Str} {px pos:Pos} {ifs:List Expr} {scope:Scope} {fv:List Str} {fs:List Nat} {wi:TI} {te:TE} {tc:TT}
theorem OP(hc:X.calm=true)(ok:DF X scope x fv fs b)(kO:∀C s0 H0 f,Xy (Ci X (JF b x C) (x::fv) scope C s0 H0 f) ifs tc)(he:∀C s0 H0 f,PE (Ci X (JF b x C) (x::fv) scope C s0 H0 f) elt te){pins:List (Addr×Obj)}{t:St}{it:Addr}{f:List Addr}{G:Nat->Heap->Prop}(I:Inv X pins t H s)(T:Turn X.prog X.w X.K (.Name x px) J f it G)(st:G 0 s.heap)(hf:∀b∈f,FK X pins H b)(rd:Er J tc te fs t H Q){RR:Value->Addr->Result->Shared->Prop}(kQ:∀D C z H',Inv X pins t H' z->FK X pins H' C->(∃m,z.heap.Ns C m)->Q (.ref D) H'->RR (.ref D) C (.ok .next) z):
  wpAny (model X.prog X.w) X.A (newList []) (fun L c=>wpAny (model X.prog X.w) X.A (newFunctionEnv scope X.env.globals (Cp X.env.cells scope.names []) [] X.env.qual none .none (some X.env)) (fun h s4=>
   codeAny (model X.prog X.w) X.A (.compStart (.ListComp elt [⟨.Name x px,iter,ifs,0⟩] scope pos) 0 (.ref it) L {h with scope:=relabel scope X.env}) (RR L h.locals) s4) E c) E s:=by
 obtain⟨W,⟨m0,w0⟩,turn⟩:=rd s.heap.objs.size I.fresh;have Z:Inv X pins t (upd H s.heap.objs.size (.lst [])) {s with heap:=s.heap.push {cls:=.type "list",dict:=none,data:=.seq ([]:List Value).toArray}}:=I.Uz (its:=[]) (ys:=[]) (t':=s.toks) .nil (Nat.zero_le _);refine wpAny_newObj_type ?_;show wpAny _ _ _ _ _ ({s with heap:=s.heap.push {cls:=.type "list",dict:=none,data:=.seq ([]:List Value).toArray}}:Shared);generalize kR:({s with heap:=s.heap.push {cls:=.type "list",dict:=none,data:=.seq ([]:List Value).toArray}}:Shared)=c at Z⊢;refine Jt ok.iY fun h1 kS kept M=>?_;have eh:c.heap=s.heap.push {cls:=.type "list",dict:=none,data:=.seq ([]:List Value).toArray}:=by rw[<-kR]
 have N:∀b o,s.heap.get? b=some o->c.heap.get? b=some o:=fun b o e=>by rw[eh];exact Heap.get?_push_of_some _ e
 have kT:∀b∈f,∃o,c.heap.get? b=some o:=fun b d=>let⟨o,ho,_⟩:=T.obj 0 _ st b d;⟨o,N b o ho⟩;have kU:∀b∈f,b≠s.heap.objs.size:=fun b d=>let⟨o,ho,_⟩:=T.obj 0 _ st b d;Nat.ne_of_lt (Heap.lt_size ho);have j:∀b∈f,FK X pins (upd H s.heap.objs.size (.lst [])) b:=fun b d=>⟨by rw[AH (kU b d)];exact(hf b d).1,(hf b d).2⟩;have I4:=Qa (tk:=c.toks) ok Z j kT kS kept M;have O:G 0 h1:=T.keep 0 _ _ st fun b d o e=>kept b o (N b o e);have g:∀{H':Hp},(∀b∈f,H' b=none)->∀a∈f,FK (Ci X (JF b x c.heap.objs.size) (x::fv) scope c.heap.objs.size c (upd H s.heap.objs.size (.lst [])) f) [] H' a:=fun hn b d=>
  ⟨hn b d,(I4.ok.dF b d).1,I4.ok.TB b d,.inl d,(I4.ok.dF b d).2,fun p hp=>absurd hp (by simp)⟩
 have hg:PG (Ci X (JF b x c.heap.objs.size) (x::fv) scope c.heap.objs.size c (upd H s.heap.objs.size (.lst [])) f) (.Name x px) (CA 0):=by
  have tg:=ok.tg;cases b with
  |false=>exact Gx ok.nd rfl (.inl (lookup_relabel_local tg)) (.inr (lookup_relabel_local tg))
  |true=>exact Gx ok.nd rfl (.inr (show(relabel scope X.env).names.lookup x=_ from by rw[CL,tg];rfl)) (.inl (show(List.lookup x [(x,c.heap.objs.size+1)]).isSome=true from by rw[List.lookup_cons];simp))
 have loop:codeAny (model X.prog X.w) X.A (.compLoop (.ListComp elt [⟨.Name x px,iter,ifs,0⟩] scope pos) 0 (.ref it) (.ref s.heap.objs.size) (compEnvC scope (JF b x c.heap.objs.size++Cp X.env.cells scope.names []) c.heap.objs.size X.env)) (RR (.ref s.heap.objs.size) c.heap.objs.size)
   {c with heap:=h1}:=by
  refine Js (fun n z=>∃i o H',Inv (Ci X (JF b x c.heap.objs.size) (x::fv) scope c.heap.objs.size c (upd H s.heap.objs.size (.lst [])) f) [] (o::Bq t fs) H' z/\G i z.heap/\(∀b∈f,H' b=none)/\W i n H') ?_ m0
   ⟨0,none,_,I4,O,fun b d=>(j b d).1,w0⟩
  rintro n s5 ⟨i,o,H5,I5,P,R,w5⟩;rcases turn i n H5 w5 with⟨stop,q⟩|⟨go,step⟩
  ·refine BK (T.done (Ci X (JF b x c.heap.objs.size) (x::fv) scope c.heap.objs.size c (upd H s.heap.objs.size (.lst [])) f) rfl rfl rfl hc i [] s5 _ H5 _ I5 (g R) P stop) fun r s6 ⟨hr,I6⟩=>?_;subst hr;obtain⟨m,hm,_⟩:=I6.loc;exact kQ _ _ s6 H5 (Jv Z j I6) (Z.OA (Nat.le_refl _) I6.free) ⟨m,hm⟩ q
  ·refine BK (T.item (Ci X (JF b x c.heap.objs.size) (x::fv) scope c.heap.objs.size c (upd H s.heap.objs.size (.lst [])) f) rfl rfl rfl hc i [] s5 _ H5 _ I5 (g R) P go) fun r s6 ⟨u,hr,h6⟩=>?_;subst hr;refine BK h6 fun _ s7 ⟨v,H7,I7,r7,y7,k,kW⟩=>?_;have kX:=I7.pinned (g kW) (T.obj _ _ k);have back:∀{S:St}{B:Hp}{U:Shared},Inv (Ci X (JF b x c.heap.objs.size) (x::fv) scope c.heap.objs.size c (upd H s.heap.objs.size (.lst [])) f) ([]++H_ f s7.heap) S B U->G (i+1) U.heap/\∀b∈f,B b=none:=fun{S B U} F=>
    ⟨T.keep _ _ _ k fun b d o e=>(F.pin (b,o) (DD d e)).1,fun b d=>by
     obtain⟨o,e,_⟩:=T.obj _ _ k b d;exact(F.pin (b,o) (DD d e)).2.1⟩
   refine BK (hg _ s7 _ H7 v u (fun σ2 H2=>σ2=some v::Bq t fs/\H2=H7) kX r7 ⟨rfl,rfl⟩) fun _ s8 ⟨σ8,H8,I8,e8,kY⟩=>?_;subst e8 kY;refine BK (kO _ _ _ _ _ s8 _ H8 _ I8 (step v H8 y7)) fun ok U ⟨B,F,q9⟩=>?_;cases ok with
   |false=>
    obtain⟨m',l,w9⟩:=q9;obtain⟨b1,b2⟩:=back F;exact⟨m',l,i+1,some v,B,F.Dk,b1,b2,w9⟩
   |true=>
    refine BK (he _ _ _ _ _ U _ B _ F q9) fun y s10 ⟨yv,V,kZ,r10,ys,hD,hz,m',l,w10⟩=>?_;refine BK (ES _ s10 _ V (.ref s.heap.objs.size) [yv] (.ref s.heap.objs.size) [y] (fun _ H'=>H'=upd V s.heap.objs.size (.lst (ys++[yv]))) kZ rfl (.cons r10 .nil) ⟨_,ys,yv,rfl,rfl,hD,hz,rfl⟩) fun _ s11 ⟨_,rS,Y,_,e11⟩=>?_;subst e11;obtain⟨b1,b2⟩:=back Y;exact⟨m',l,i+1,some v,_,Y.Dk,b1,b2,w10⟩
 exact codeAny_compStart_list loop (T.self _ 0 _ _ _ O loop)
theorem VG(b:Bool)(i:X.calm=true)(ok:DF X scope x fv fs b)(j:PI X (.Name x px) iter wi)(c:∀C d e a,Xy (Ci X (JF b x C) (x::fv) scope C d e a) ifs tc)(k:∀C d e a,PE (Ci X (JF b x C) (x::fv) scope C d e a) elt te)(l:∀x,foldedSetIterable iter X.env x=pure x:=by intro _;rfl):PE X (.ListComp elt [⟨.Name x px,iter,ifs,0⟩] scope pos) (OO wi tc te fs):=by
 intro pins s n H Q I h;rw[eval_ListComp];refine wpAny_comprehension_free (use:=none) rfl l (DE (ok.cells I)) ok.kind ok.names (BK (j pins s n H _ I h) fun B E o=>BK o fun p F r=>?_);obtain⟨G,a,K,J,L,rfl,t,T,f,u,v⟩:=r;exact OP i ok c k t T f u v fun D C M w y z ⟨m,A⟩ q=>⟨m,A,fun N g=>⟨.ref D,w,y.off z g,rfl,q⟩⟩
theorem X_(e:X.calm=true)(ok:DF X scope x fv fs)(f:PI X (.Name x px) iter wi)(a:∀C b c d,Xy (DV X (x::fv) scope C b c d) ifs tc)(g:∀C b c d,PE (DV X (x::fv) scope C b c d) elt te)(h:∀x,foldedSetIterable iter X.env x=pure x:=by intro _;rfl):PE X (.ListComp elt [⟨.Name x px,iter,ifs,0⟩] scope pos) (OO wi tc te fs):=VG false e ok f a g h
theorem Ip(b:Bool){i:Nat}{d c:Pos}(L:X.calm=true)(ok:DF X scope x fv fs b)(M:X.N.Nodup)(l:X.N[i]?=some y)(O:Loc X.env.scope y)(P:PI X (.Name x px) iter wi)(n:∀C o p j,Xy (Ci X (JF b x C) (x::fv) scope C o p j) ifs tc)(R:∀C o p j,PE (Ci X (JF b x C) (x::fv) scope C o p j) elt te)(r:swapsWith (.ListComp elt [⟨.Name x px,iter,ifs,0⟩] scope pos) (some (.Name y d)) c.line X.env=pure true:=by rfl)(t:X.fn y=true∨X.env.scope.names.lookup y=some .local:=by first|exact .inl rfl|exact .inr rfl|assumption)(S:∀x,foldedSetIterable iter X.env x=pure x:=by intro _;rfl):PS X (.Assign [.Name y d] (.ListComp elt [⟨.Name x px,iter,ifs,0⟩] scope pos) c) (fun D f H=>OO wi tc te fs f H fun v g=>D.nx (f.set i (some v)) g):=by
 intro pins s f H D I h;rw[exec_Assign_Name_used _ _ _ _ r];refine wpAny_bind (wpAny_standAt (wpAny_bind ?_));show wpAny _ X.A (comprehension (.ListComp elt [⟨.Name x px,iter,ifs,0⟩] scope pos) scope X.env _ (newList []) false (eval iter X.env) (some (assign (.Name y d) X.env))>>=fun _=>pure ()) _ _ s;refine wpAny_bind (BK (wpAny_comprehension_free (use:=some (assign (.Name y d) X.env)) (Q:=fun _ k=>SP X pins D .next k) rfl S (DE (ok.cells I)) ok.kind ok.names (BK (P pins s f H _ I h) fun xv s1 U=>BK U fun V s2 W=>?_)) fun _ k Y=>wpAny_pure (wpAny_pure Y));obtain⟨it,j,tn,J,H2,rfl,Z,T,u,f2,rd⟩:=W;refine OP (Q:=fun v g=>D.nx (f.set i (some v)) g) L ok n R Z T u f2 rd fun K C k g I' w ⟨m,hm⟩ q=>?_;show wpAny _ X.A (assign (.Name y d) X.env (.ref K)) _ _ k;refine wpAny_assign_Name (Hy I' M l O (v:=.ref K) rfl (fun eY B ⟨a,E,ha⟩=>?_) t);have F:C≠a:=by
  rcases ha with z|z
  ·rw[z];exact w.2.1
  ·exact fun e=>w.2.2.2.2.1 y a z e.symm
 exact⟨m,hm.sameBut E F,fun h' G=>⟨_,g,B.off w G,q⟩⟩
theorem Es{i:Nat}{j a:Pos}(l:X.calm=true)(ok:DF X scope x fv fs)(m:X.N.Nodup)(b:X.N[i]?=some y)(n:Loc X.env.scope y)(o:PI X (.Name x px) iter wi)(c:∀C d e f,Xy (DV X (x::fv) scope C d e f) ifs tc)(p:∀C d e f,PE (DV X (x::fv) scope C d e f) elt te)(g:swapsWith (.ListComp elt [⟨.Name x px,iter,ifs,0⟩] scope pos) (some (.Name y j)) a.line X.env=pure true:=by rfl)(h:X.fn y=true∨X.env.scope.names.lookup y=some .local:=by first|exact .inl rfl|exact .inr rfl|assumption)(q:∀x,foldedSetIterable iter X.env x=pure x:=by intro _;rfl):PS X (.Assign [.Name y j] (.ListComp elt [⟨.Name x px,iter,ifs,0⟩] scope pos) a) (fun D k H=>OO wi tc te fs k H fun v r=>D.nx (k.set i (some v)) r):=Ip false l ok m b n o c p g h q
end
theorem TY{l:TT}{f:TE}{fs:List Nat}{h:St}(item g:Nat->V)(p:Nat->Bool)(z:n<=sizeLine)(j:∀i D ys,i<n->H D=none->J.go i (upd H D (.lst ys)))(r:∀i D ys v H',i<n->H D=none->J.N_ i (upd H D (.lst ys)) v H'->v=item i/\H'=upd H D (.lst ys))(k:∀D ys,H D=none->J.stop n (upd H D (.lst ys)))(s:∀i D ys (R:Bool->Hp->Prop),i<n->H D=none->R (p i) (upd H D (.lst ys))->l (some (item i)::Bq h fs) (upd H D (.lst ys)) R)(t:∀i D ys (R:VK),i<n->H D=none->p i=true->R (g i) (upd H D (.lst ys))->f (some (item i)::Bq h fs) (upd H D (.lst ys)) R)(u:∀D,H D=none->Q (.ref D) (upd H D (.lst (((List.range n).filter p).map g)))):
  Er J l f fs h H Q:=by
 intro D c;refine⟨fun i m o=>m=n-i/\i<=n/\o=upd H D (.lst (((List.range i).filter p).map g)),⟨n,by simp⟩,?_⟩;rintro i m o ⟨rfl,A,rfl⟩;by_cases a:i<n
 ·refine .inr ⟨j i D _ a c,fun v w x=>?_⟩;obtain⟨rfl,rfl⟩:=r i D _ v w a c x;refine s i D _ _ a c ?_;have q:∀b,p i=b->((List.range (i+1)).filter p).map g=((List.range i).filter p).map g++(if b=true then[g i]else[]):=fun b d=>by
   rw[List.range_succ,List.filter_append,List.map_append];cases b with
   |true=>simp[d]
   |false=>simp[d]
  cases d:p i with
  |false=>
   show∃y,y<n-i/\_;refine⟨n-(i+1),by lia,rfl,a,?_⟩;rw[q false d];simp
  |true=>
   show f _ _ _;refine t i D _ _ a c d ⟨_,AD,?_,n-(i+1),by lia,rfl,a,?_⟩
   ·rw[List.length_map];have:=List.length_filter_le p (List.range i);rw[List.length_range]at this;lia
   ·rw[Rb,q true d];simp
 ·have e:i=n:=by lia
  subst e;exact .inl ⟨k D _ c,u D c⟩
theorem AF.put{H':Hp}{D:Addr}{o:HO}(s:AF H H')(h:H D=none):AF H (upd H' D o):=fun b u e=>by
 rw[AH (Aj e h)];exact s b u e
theorem AF.new{D:Addr}{o:HO}(h:H D=none):AF H (upd H D o):=(AF.refl H).put h
theorem Dm{f:TE}{fs:List Nat}{o:St}(item:Nat->V)(Ok:Nat->V->Prop)(C:n<=sizeLine)(g:∀i H2,i<n->AF H H2->J.go i H2)(u:∀i H2 v H',i<n->AF H H2->J.N_ i H2 v H'->v=item i/\H'=H2)(h:∀H2,AF H H2->J.stop n H2)(w:∀i H2 (R:VK),i<n->AF H H2->(∀y d,AF H2 d->Ok i y->R y d)->f (some (item i)::Bq o fs) H2 R)(x:∀D H2 ys,H D=none->AF H H2->H2 D=some (.lst ys)->ys.length=n->(∀(i:Nat) y,ys[i]?=some y->Ok i y)->Q (.ref D) H2):
  Er J Mg f fs o H Q:=by
 intro D k;refine⟨fun i m H2=>m=n-i/\i<=n/\AF H H2/\∃ys,H2 D=some (.lst ys)/\ys.length=i/\∀(j:Nat) y,ys[j]?=some y->Ok j y,⟨n,by simp,Nat.zero_le _,AF.new k,[],AD,rfl,fun j y z=>by simp at z⟩,?_⟩;rintro i m H2 ⟨rfl,E,c,ys,p,r,s⟩;by_cases a:i<n
 ·refine .inr ⟨g i H2 a c,fun v d A=>?_⟩;obtain⟨rfl,rfl⟩:=u i H2 v d a c A;show f _ _ _;refine w i _ _ a c fun y F t l=>⟨ys,t _ _ p,by lia,n-(i+1),by lia,rfl,a,(c.trans t).put k,ys++[y],AD,by simp[r],fun j z b=>?_⟩;by_cases B:j<ys.length
  ·rw[List.getElem?_append_left B]at b;exact s j z b
  ·rw[List.getElem?_append_right (by lia)]at b;have e:j-ys.length=0:=by
    cases q:j-ys.length with
    |zero=>rfl
    |succ G=>rw[q]at b;simp at b
   rw[e]at b;have:y=z:=by simpa using b
   subst this;have:j=i:=by lia
   subst this;exact l
 ·have e:i=n:=by lia
  subst e;exact .inl ⟨h H2 c,x D H2 ys k c p r s⟩
open Builtin Builtin.Str
theorem X'(n m:Nat):max 0 (min (m:Int) (n:Int))=((min m n:Nat):Int):=by
 rw[Int.max_eq_right (Int.le_min.mpr ⟨Int.natCast_nonneg _,Int.natCast_nonneg _⟩)];by_cases h:m<=n
 ·rw[Nat.min_eq_left h,Int.min_eq_left (Int.ofNat_le.mpr h)]
 ·rw[Nat.min_eq_right (Nat.le_of_not_le h),Int.min_eq_right (Int.ofNat_le.mpr (Nat.le_of_not_le h))]
theorem VH(n:Nat){i:Int}(h:i<0):max 0 (min (i+(n:Int)) (n:Int))=(((i+(n:Int)).toNat:Nat):Int):=by
 rw[Int.min_eq_left (by lia),Int.toNat_eq_max,Int.max_comm]
theorem VI(l u:Option Int)(n:Nat):strSliceIndices l u 1 n=(List.range (HT.IB n n u-HT.IB n 0 l)).map (HT.IB n 0 l+·):=by
 have clip:∀(v:Option Int)(d:Nat),(match v with|none=>(d:Int)|some i=>max 0 (min (if i<0 then i+(n:Int)else i) (n:Int)))=((HT.IB n d v:Nat):Int):=by
  intro v d;cases v with
  |none=>rfl
  |some i=>
   show max 0 (min (if i<0 then i+(n:Int)else i) (n:Int))=(((if i<0 then(i+(n:Int)).toNat else min i.toNat n):Nat):Int);by_cases h:i<0
   ·simp only[if_pos h];exact VH n h
   ·simp only[if_neg h];obtain⟨m,rfl⟩:=Int.eq_ofNat_of_zero_le (Int.not_lt.mp h);exact X' n m
 have c:=clip l 0;have e:=clip u n;unfold strSliceIndices sliceRange;simp only[show(1:Int)>0 by decide,if_true,Int.one_mul,Int.ediv_one];have f:((0:Nat):Int)=0:=rfl;rw[f]at c;have gen:∀(A B:Int)(a b:Nat),A=(a:Int)->B=(b:Int)->List.map (fun k:Nat=>(A+(k:Int)).toNat) (List.range (if A<B then B-A+1-1 else 0).toNat)=List.map (fun x=>a+x) (List.range (b-a)):=by
  intro A B a b hA g;subst hA g;have j:(if(a:Int)<(b:Int)then(b:Int)-(a:Int)+1-1 else 0).toNat=b-a:=by
   split<;>lia
  rw[j];refine List.map_congr_left fun k _=>?_;lia
 exact gen _ _ _ _ c e
def Qb(xs:List Nat)(l u:Option Int):List Nat:=(xs.drop (HT.IB xs.length 0 l)).take (HT.IB xs.length xs.length u-HT.IB xs.length 0 l)
theorem Qc{c:Type}(xs:List c)(a k:Nat)(h:a+k<=xs.length):((List.range k).map (a+·)).filterMap (xs[·]?)=(xs.drop a).take k:=by
 rw[List.filterMap_map]
 induction k with
 |zero=>simp
 |succ k d=>
  rw[List.range_succ,List.filterMap_append,d (by lia)];have b:a+k<xs.length:=by lia
  have e:(xs.drop a)[k]?=some (xs[a+k]):=by
   rw[List.getElem?_drop];exact yn b
  rw[List.take_add_one,e];simp[b]
theorem OQ(x:Str)(l u:Option Int):(Txt.slice x l u).cps.toList=Qb x.cps.toList l u:=by
 have hlen:x.cps.toList.length=x.length:=by rw[Array.length_toList];rfl
 have c:HT.IB x.length x.length u<=x.length:=by
  cases u with
  |none=>exact Nat.le_refl _
  |some v=>
   show(if v<0 then(v+(x.length:Int)).toNat else min v.toNat x.length)<=x.length;split<;>lia
 unfold Txt.slice Qb;rw[hlen,VI];generalize k:HT.IB x.length 0 l=a;generalize d:HT.IB x.length x.length u=b at c;by_cases f:a<=b
 ·split
  ·rename_i h
   simp at h;have:b-a=x.length:=h;have g:a=0:=by lia
   have j:b=x.length:=by lia
   subst g;rw[j,<-hlen,List.drop_zero,Nat.sub_zero,List.take_length]
  ·show(List.filterMap (fun i=>x.cps[i]?) _).toArray.toList=_;rw[List.toList_toArray];have e:(fun i:Nat=>x.cps[i]?)=fun i:Nat=>x.cps.toList[i]?:=by
    funext i;exact(Array.getElem?_toList).symm
   rw[e];exact Qc _ a (b-a) (by lia)
 ·have z:b-a=0:=by lia
  rw[z];simp only[List.range_zero,List.map_nil,List.take_zero];split
  ·rename_i h
   simp at h;have:x.cps.toList=[]:=List.eq_nil_of_length_eq_zero (by rw[hlen];exact h.symm);exact this
  ·rfl
section
variable{X:Cx}
inductive fV(x:V)(lo a:Option Int)(H:Hp)(Q:VK):Prop
 |mk(z:_)(b:x=.str z)(c:z.length<=sizeLine)(d:Q (.str (Txt.slice z lo a)) H)
def ka:V->Option Int->Option Int->Hp->VK->Prop:=fun x lo a H Q=>fV x lo a H Q
theorem Mh:kB X ka:=by
 intro pins s g H x v o p lo m r Q I n a pl e h;obtain⟨z,rfl,b,q⟩:=h;obtain⟨t,rfl⟩:=n;refine⟨"str",_,F.slot_str_getitem.lookup,typeIs_str _ _ _,?_⟩;have fin:∀c k,EP X pins g Q (.str (Txt.slice z lo m) c) {s with toks:=k}:=fun c k=>⟨.str _,H,I.tok k,⟨c,rfl⟩,q⟩;cases pl with
 |none=>
  cases e with
  |none=>exact wpAny_getItem_str_slice (l:=none) (u:=none) (st:=none) a rfl (post_val_or_str ⟨Nat.le_trans (Txt.slice_le z _ _) b,fin⟩)
  |int j d=>exact wpAny_getItem_str_slice (l:=none) (u:=some (j,d)) (st:=none) a rfl (post_val_or_str ⟨Nat.le_trans (Txt.slice_le z _ _) b,fin⟩)
 |int i f=>
  cases e with
  |none=>exact wpAny_getItem_str_slice (l:=some (i,f)) (u:=none) (st:=none) a rfl (post_val_or_str ⟨Nat.le_trans (Txt.slice_le z _ _) b,fin⟩)
  |int j d=>exact wpAny_getItem_str_slice (l:=some (i,f)) (u:=some (j,d)) (st:=none) a rfl (post_val_or_str ⟨Nat.le_trans (Txt.slice_le z _ _) b,fin⟩)
end
section
variable{X:Cx} {tg:Expr}
end
section
variable{X:Cx}
end
end L2
namespace HT
open PySem PyProof.Rows
section
variable{prog:Program} {w:World} {A:Around} {E:Value->Shared->Prop} {s:Shared}
end
end HT
namespace L2
open PySem PySem.Spec PyProof.Rows
section
variable{X:Cx}
theorem IH(l:List V)(k:Nat):MW l (some (k:Int)) none=l.drop k:=by
 unfold MW;rw[HT.MV];show(l.drop (min k l.length)).take (l.length-min k l.length)=_;have:(l.drop (min k l.length)).length=l.length-min k l.length:=List.length_drop;rw[<-this,List.take_length];by_cases h:k<=l.length
 ·rw[Nat.min_eq_left h]
 ·rw[Nat.min_eq_right (by lia),List.drop_eq_nil_of_le (by lia),List.drop_eq_nil_of_le (by lia)]
end
inductive Qd(H:Hp):V->String->Prop where
 |Ah:Qd H .Ah "NoneType"
 |bl (b:Bool):Qd H (.bl b) "bool"
 |int (i:Int):Qd H (.int i) "int"
 |str (x:Str):Qd H (.str x) "str"
 |lst {a:Addr} {xs:List V} (e:Rd H a (.lst xs)):Qd H (.ref a) "list"
 |tup {a:Addr} {xs:List V} (e:H a=some (.tup xs)):Qd H (.ref a) "tuple"
 |dK {a:Addr} {kvs:List (Key×V)} (e:Rd H a (.dK kvs)):Qd H (.ref a) "dict"
variable{H:Hp}{a:Addr}
theorem Rd.up{H':Hp}{u:HO}(h:Rd H a u)(s:∀o,H a=some o->H' a=some o):Rd H' a u:=by
 rcases h with h|⟨o,h⟩
 ·exact .inl (s _ h)
 ·exact .inr ⟨o,s _ h⟩
def VJ(T c:String):Bool:=T==c||(T=="bool"&&c=="int")
def YA(c:String):Bool:=["int","bool","str","list","tuple","dict"].contains c
variable{T:String}{K:yt}
theorem Rt{v:V}{c:String}(h:Qd H v T)(a:YA c=true):PySem.W.kitOne K (.type T) (.type c)=some (VJ T c):=by
 have a:c="int"∨c="bool"∨c="str"∨c="list"∨c="tuple"∨c="dict":=by
  unfold YA at a;simpa using a
 cases h<;>rcases a with rfl|rfl|rfl|rfl|rfl|rfl<;>kernel_rfl
variable{E Q:Value->Shared->Prop}{pins:List (Addr×Obj)}{u:Value}{s:Shared}{A:Around}{x:V}
section
variable{X:Cx}
inductive fW(xs:List V)(H:Hp)(Q:VK):Prop
 |mk(x c T:_)(a:xs=[x,.ty c])(b:YA c=true)(d:Qd H x T)(e:Q (.bl (VJ T c)) H)
def kb:List V->Hp->VK->Prop:=fun a H Q=>fW a H Q
theorem OR{j:St}{c:String}{b:Bool}(I:Inv X pins j H s)(d:RelV x u)(ty:Qd H x T)(e:PySem.W.kitOne X.K (.type T) (.type c)=some b)(h:∀tk,Q (.bool b) {s with toks:=tk}):
  wpAny (model X.prog X.w) A (call (.builtin "isinstance") [u,.type c]) Q E s:=by
 cases ty with
 |Ah=>exact ER I d .Ah e h
 |bl y=>exact ER I d (.bl y) e h
 |int i=>exact ER I d (.int i) e h
 |str y=>exact ER I d (.str y) e h
 |tup f=>exact ER I d (.tup f) e h
 |@lst a k f=>
  cases(show u=Value.ref a from d);obtain⟨_,_,n,_,g⟩:=(show A_ X.prog X.w H s.heap a (.lst k)from f.ok I.Ax);exact PySem.W.kia_one PySem.W.kitx_list I.GP ⟨_,g,rfl⟩ e (fun z=>nomatch z) h
 |@dK a kvs f=>
  cases(show u=Value.ref a from d);obtain⟨_,_,m,_,p⟩:=(show A_ X.prog X.w H s.heap a (.dK kvs)from f.ok I.Ax);obtain⟨o,q,r,g,l,_⟩:=p;exact PySem.W.kia_one PySem.W.kitx_dict I.GP ⟨o,g,l.1⟩ e (fun z=>nomatch z) h
theorem EW:Bh X (.builtin "isinstance") kb:=by
 intro pins s f H g i Q I r h;obtain⟨x,c,T,rfl,b,ty,q⟩:=h;obtain⟨u,j,rfl,d,a⟩:=vals2 r;cases a;exact OR I d ty (Rt ty b) fun e=>⟨.bl _,H,I.tok e,rfl,q⟩
end
open Builtin Builtin.Str
abbrev sgn(x:Str):List Nat:=x.cps.toList
def VL:List Nat:=sgn "abcdefghijklmnopqrstuvwxyz"
def au(c:Nat):Bool:=decide (c∈VL)
theorem Jw(x:Str):(sgn x).length=x.length:=by
 show x.cps.toList.length=x.cps.size;exact Array.length_toList
theorem CM(x y:Str):sgn (x++y)=sgn x++sgn y:=by
 show(x.cps++y.cps).toList=_;exact Array.toList_append
theorem EX(x:Str)(l u:Option Int):sgn (Txt.slice x l u)=Qb (sgn x) l u:=OQ x l u
def OS(l:List Nat):Bool:=decide (1<=l.length)&&decide (l.length<=8)&&l.all au
def Dn(x:Str):Bool:=OS (sgn x)
theorem ZZ(n d k:Nat):HT.IB n d (some (k:Int))=min k n:=by
 show(if(k:Int)<0 then((k:Int)+(n:Int)).toNat else min (k:Int).toNat n)=min k n;rw[if_neg (by lia),Int.toNat_natCast]
theorem Mi(l:List Nat)(k:Nat):Qb l none (some (k:Int))=l.take k:=by
 unfold Qb;have e:=ZZ l.length l.length k;rw[e];show(l.drop 0).take (min k l.length-0)=_;rw[List.drop_zero,Nat.sub_zero,List.take_eq_take_min];simp
theorem VM(l:List Nat)(k:Nat):Qb l (some (k:Int)) none=l.drop k:=by
 unfold Qb;have e:=ZZ l.length 0 k;rw[e];show(l.drop (min k l.length)).take (l.length-min k l.length)=_;have:(l.drop (min k l.length)).length=l.length-min k l.length:=List.length_drop;rw[<-this,List.take_length];by_cases h:k<=l.length
 ·rw[Nat.min_eq_left h]
 ·rw[Nat.min_eq_right (by lia),List.drop_eq_nil_of_le (by lia),List.drop_eq_nil_of_le (by lia)]
variable{l:List Nat}{p:Nat->Bool}
theorem OT(h:l.all p=true)(k:Nat):(l.take k).all p=true:=by
 rw[List.all_eq_true]at h⊢;exact fun x a=>h x (List.mem_of_mem_take a)
theorem VN(h:l.all p=true)(k:Nat):(l.drop k).all p=true:=by
 rw[List.all_eq_true]at h⊢;exact fun x a=>h x (List.mem_of_mem_drop a)
theorem Qe{c:Nat}(h:c∈VL):au c=true:=decide_eq_true h
theorem OU(a:1<=l.length)(b:l.length<=8)(c:l.all au=true):OS l=true:=by
 unfold OS;simp only[Bool.and_eq_true,decide_eq_true_eq];exact⟨⟨a,b⟩,c⟩
inductive Dc where
 |leaf (v:V)
 |row (a:Addr) (xs:List Dc)
 |tab (a:Addr) (ks:List Str) (xs:List Dc)
variable{ks:List Str}{xs:List Dc}
namespace Dc
noncomputable def val:Dc->V
 |leaf v=>v
 |row a _=>.ref a
 |tab a _ _=>.ref a
mutual
noncomputable def addrs:Dc->List Addr
 |leaf _=>[]
 |row a xs=>a::Ay xs
 |tab a _ xs=>a::Ay xs
noncomputable def Ay:List Dc->List Addr
 |[]=>[]
 |x::r=>addrs x++Ay r
end
mutual
noncomputable def size:Dc->Nat
 |leaf _=>1
 |row _ xs=>1+AI xs
 |tab _ _ xs=>1+AI xs
noncomputable def AI:List Dc->Nat
 |[]=>0
 |x::r=>size x+AI r
end
def Lf(v:V):Prop:=(∃i,v=.int i)∨∃x:Str,v=.str x/\x.length<=100
def kvs(ks:List Str)(xs:List Dc):List (Key×V):=(ks.zip (xs.map val)).map fun p=>(Sum.inr p.1,p.2)
mutual
def At(H:Hp):Dc->Prop
 |leaf v=>Lf v
 |row a xs=>Rd H a (.lst (xs.map val))/\Ht H xs
 |tab a ks xs=>Rd H a (.dK (kvs ks xs))/\ks.length=xs.length/\ks.Nodup/\Ht H xs
def Ht(H:Hp):List Dc->Prop
 |[]=>True
 |x::r=>At H x/\Ht H r
end
mutual
noncomputable def put(b:Addr)(i:Nat)(k:Str)(p:Dc):Dc->Dc
 |leaf v=>leaf v
 |row a xs=>if a=b then row a (xs.take i++p::xs.drop i)else row a (putL b i k p xs)
 |tab a ks xs=>if a=b then tab a (ks++[k]) (xs++[p])else tab a ks (putL b i k p xs)
noncomputable def putL(b:Addr)(i:Nat)(k:Str)(p:Dc):List Dc->List Dc
 |[]=>[]
 |x::r=>put b i k p x::putL b i k p r
end
theorem size_pos(d:Dc):1<=d.size:=by
 cases d<;>simp only[size]<;>lia
theorem Cd:∀xs ys:List Dc,Ay (xs++ys)=Ay xs++Ay ys
 |[],_=>rfl
 |x::r,ys=>by simp only[List.cons_append,Ay,Cd r ys,List.append_assoc]
theorem Ab:∀xs ys:List Dc,AI (xs++ys)=AI xs+AI ys
 |[],ys=>by simp[AI]
 |x::r,ys=>by simp only[List.cons_append,AI,Ab r ys];lia
theorem Et{H:Hp}:∀xs ys:List Dc,Ht H (xs++ys)↔Ht H xs/\Ht H ys
 |[],ys=>by simp[Ht]
 |x::r,ys=>by simp only[List.cons_append,Ht,Et r ys,and_assoc]
theorem F_{H:Hp}:∀{xs:List Dc},Ht H xs->∀x∈xs,At H x
 |[],_,x,a=>nomatch a
 |y::r,h,x,a=>by
  simp only[Ht]at h;rcases List.mem_cons.mp a with rfl|a
  ·exact h.1
  ·exact F_ h.2 x a
mutual
theorem Jx{H H':Hp}:∀d:Dc,(∀a∈d.addrs,∀o,H a=some o->H' a=some o)->d.At H->d.At H'
 |leaf v,_,h=>h
 |row a xs,f,h=>by
  simp only[At]at h⊢;exact⟨h.1.up (f a (by simp[addrs])),EY xs (fun c b=>f c (by simp only[addrs];exact List.mem_cons_of_mem _ b)) h.2⟩
 |tab a ks xs,f,h=>by
  simp only[At]at h⊢;exact⟨h.1.up (f a (by simp[addrs])),h.2.1,h.2.2.1,EY xs (fun c b=>f c (by simp only[addrs];exact List.mem_cons_of_mem _ b)) h.2.2.2⟩
theorem EY{H H':Hp}:∀xs:List Dc,(∀a∈Ay xs,∀o,H a=some o->H' a=some o)->Ht H xs->Ht H' xs
 |[],_,h=>h
 |x::r,f,h=>by
  simp only[Ht]at h⊢;exact⟨Jx x (fun c b=>f c (by simp only[Ay];exact List.mem_append_left _ b)) h.1,EY r (fun c b=>f c (by simp only[Ay];exact List.mem_append_right _ b)) h.2⟩
end
theorem Ru{H':Hp}{d:Dc}(s:AF H H')(h:d.At H):d.At H':=Jx d (fun a _ o e=>s a o e) h
theorem Jy(h:ks.length=xs.length):(kvs ks xs).map (·.1)=ks.map Sum.inr:=by
 unfold kvs;rw[List.map_map];have:(fun p:Str×V=>(Sum.inr p.1:Key))=(Sum.inr:Str->Key)∘Prod.fst:=rfl;show List.map ((fun p:Key×V=>p.1)∘fun p:Str×V=>(Sum.inr p.1,p.2)) (ks.zip (xs.map val))=_;have e:((fun p:Key×V=>p.1)∘fun p:Str×V=>((Sum.inr p.1:Key),p.2))=(Sum.inr:Str->Key)∘Prod.fst:=rfl;rw[e,<-List.map_map,List.map_fst_zip (by rw[List.length_map];lia)]
mutual
theorem TZ{H:Hp}{b:Addr}:∀d:Dc,d.At H->b∈d.addrs->(∃vs,Rd H b (.lst vs)/\vs.length<d.size)∨∃ks:List Str,∃f,Rd H b (.dK f)/\f.map (·.1)=ks.map Sum.inr/\f.length<d.size
 |leaf v,_,h=>by simp[addrs]at h
 |row a xs,h,c=>by
  simp only[At]at h;simp only[addrs,List.mem_cons]at c;simp only[size];rcases c with rfl|c
  ·refine .inl ⟨_,h.1,?_⟩;rw[List.length_map];have:=Cr xs;lia
  ·rcases GY xs h.2 c with⟨vs,e,l⟩|⟨ks,f,e,z,l⟩
   ·exact .inl ⟨vs,e,by lia⟩
   ·exact .inr ⟨ks,f,e,z,by lia⟩
 |tab a ks xs,h,c=>by
  simp only[At]at h;simp only[addrs,List.mem_cons]at c;simp only[size];rcases c with rfl|c
  ·refine .inr ⟨ks,_,h.1,Jy h.2.1,?_⟩;have e:(kvs ks xs).length=ks.length:=by
    have:=congrArg List.length (Jy (ks:=ks) (xs:=xs) h.2.1);simpa using this
   rw[e,h.2.1];have:=Cr xs;lia
  ·rcases GY xs h.2.2.2 c with⟨vs,e,l⟩|⟨ks,f,e,z,l⟩
   ·exact .inl ⟨vs,e,by lia⟩
   ·exact .inr ⟨ks,f,e,z,by lia⟩
theorem GY{H:Hp}{b:Addr}:∀xs:List Dc,Ht H xs->b∈Ay xs->(∃vs,Rd H b (.lst vs)/\vs.length<AI xs)∨∃ks:List Str,∃a,Rd H b (.dK a)/\a.map (·.1)=ks.map Sum.inr/\a.length<AI xs
 |[],_,h=>by simp[Ay]at h
 |x::r,h,c=>by
  simp only[Ht]at h;simp only[Ay,List.mem_append]at c;simp only[AI];rcases c with c|c
  ·rcases TZ x h.1 c with⟨vs,e,l⟩|⟨ks,a,e,z,l⟩
   ·exact .inl ⟨vs,e,by lia⟩
   ·exact .inr ⟨ks,a,e,z,by lia⟩
  ·rcases GY r h.2 c with⟨vs,e,l⟩|⟨ks,a,e,z,l⟩
   ·exact .inl ⟨vs,e,by lia⟩
   ·exact .inr ⟨ks,a,e,z,by lia⟩
theorem Cr:∀xs:List Dc,xs.length<=AI xs
 |[]=>Nat.le_refl _
 |x::r=>by
  have:=Cr r;have:=size_pos x;simp only[AI,List.length_cons];lia
end
end Dc
variable{P:Program}{vs:List (Key×Value)}{w:World}{ys:List Str}
section
variable{X:Cx}
inductive Ta(K:yt)(x y:V)(H:Hp)(Q:VK):Prop
 |mk(a b:Addr)(xs:List V)(c:x=.ref a)(d:y=.ref b)(e:As K H a xs)(f:As K H b [])(g:Q (.bl xs.isEmpty) H)
def VO(K:yt):V->V->Hp->VK->Prop:=fun x y H Q=>Ta K x y H Q
theorem VP(c:X.A.units<cLine):Ek X (compareOp .Eq) (VO X.K):=by
 intro pins s w H x y v u Q I k l h;obtain⟨a,b,m,rfl,rfl,n,o,q⟩:=h;cases k;cases l;obtain⟨p,d,f,_⟩:=I.list n;obtain⟨g,r,i,_⟩:=I.list o;cases r;have l1:=d.length;cases m with
 |nil=>
  cases d;exact SeqAt.eq_listAt (e:=fun _=>true) f.isList i.isList rfl c (fun j t _=>absurd t (by simp)) ⟨.bl true,H,I,rfl,q⟩
 |cons z B=>
  refine SeqAt.eq_list_lengthsAt f.isList i.isList ?_ c ⟨.bl false,H,I,rfl,q⟩;rw[List.size_toArray,<-l1];simp
inductive Tb(K:yt)(x y:V)(H:Hp)(Q:VK):Prop
 |mk(a b:Addr)(xs:List V)(c:x=.ref a)(d:y=.ref b)(e:As K H a xs)(f:As K H b [])(g:Q (.bl (!xs.isEmpty)) H)
def VQ(K:yt):V->V->Hp->VK->Prop:=fun x y H Q=>Tb K x y H Q
theorem VR(c:X.A.units<cLine):Ek X (compareOp .NotEq) (VQ X.K):=by
 intro pins s w H x y v u Q I k l h;obtain⟨a,b,m,rfl,rfl,n,o,q⟩:=h;cases k;cases l;obtain⟨p,d,f,_⟩:=I.list n;obtain⟨g,r,i,_⟩:=I.list o;cases r;have l1:=d.length;cases m with
 |nil=>
  cases d;exact SeqAt.RcNeAt.lists (e:=fun _=>true) f.isList i.isList rfl c (fun j t _=>absurd t (by simp)) _ _ _ _ ⟨.bl false,H,I,rfl,q⟩
 |cons z B=>
  refine SeqAt.RcNeAt.lists_lengths f.isList i.isList ?_ c _ _ _ _ ⟨.bl true,H,I,rfl,q⟩;rw[List.size_toArray,<-l1];simp
theorem Qf{l:St}{tp:Addr}{m:Option Addr}{its:List Value}{n:Nat}{r:Array (Option Value)}{b:Bool}(I:Inv X pins l H s)(d:RelV x u)(ty:Qd H x T)(c:s.heap.get? tp=some ⟨.type "tuple",m,.seq its.toArray n,r⟩)(e:PySem.W.kitAny X.K (.type T) its=some b)(h:∀tk,Q (.bool b) {s with toks:=tk}):
  wpAny (model X.prog X.w) A (call (.builtin "isinstance") [u,.ref tp]) Q E s:=by
 cases ty with
 |Ah=>cases(show u=Value.none from d);exact PySem.W.kia_tup PySem.W.kitx_none I.GP True.intro c e (fun z=>nomatch z) h
 |bl y=>cases(show u=Value.bool y from d);exact PySem.W.kia_tup PySem.W.kitx_bool I.GP True.intro c e (fun z=>nomatch z) h
 |int i=>obtain⟨t,q⟩:=(show∃t,u=Value.int i t from d);cases q;exact PySem.W.kia_tup PySem.W.kitx_int I.GP True.intro c e (fun z=>nomatch z) h
 |str y=>obtain⟨t,q⟩:=(show∃t,u=Value.str y t from d);cases q;exact PySem.W.kia_tup PySem.W.kitx_str I.GP True.intro c e (fun z=>nomatch z) h
 |@lst a j f=>
  cases(show u=Value.ref a from d);obtain⟨_,_,n,_,g⟩:=(show A_ X.prog X.w H s.heap a (.lst j)from f.ok I.Ax);exact PySem.W.kia_tup PySem.W.kitx_list I.GP ⟨_,g,rfl⟩ c e (fun z=>nomatch z) h
 |@tup a j f=>
  cases(show u=Value.ref a from d);obtain⟨_,_,_,p⟩:=(show A_ X.prog X.w H s.heap a (.tup j)from I.Ax a _ f);obtain⟨o,g,k,_⟩:=p;exact PySem.W.kia_tup PySem.W.kitx_tuple I.GP ⟨o,g,k⟩ c e (fun z=>nomatch z) h
 |@dK a kvs f=>
  cases(show u=Value.ref a from d);obtain⟨_,_,v,_,p⟩:=(show A_ X.prog X.w H s.heap a (.dK kvs)from f.ok I.Ax);obtain⟨o,B,C,g,k,_⟩:=p;exact PySem.W.kia_tup PySem.W.kitx_dict I.GP ⟨o,g,k.1⟩ c e (fun z=>nomatch z) h
theorem Tc{ss:List Str}(b:vs.map (·.1)=ss.map Sum.inr){ws:List Value}(hl:ws.length=vs.length)(g:∀(j:Nat) (v:Value),ws[j]?=some v->∃k x,vs[j]?=some (k,x)/\(Al P w).is k v=true):StrsAre ws ss:=by
 induction ss generalizing vs ws with
 |nil=>
  have:vs=[]:=by cases vs with|nil=>rfl|cons a r=>simp at b
  subst this;have:ws=[]:=List.eq_nil_of_length_eq_zero hl;subst this;exact .nil
 |cons x r h=>
  cases vs with
  |nil=>simp at b
  |cons a vs=>
   simp only[List.map_cons,List.cons.injEq]at b;cases ws with
   |nil=>simp at hl
   |cons u ws=>
    obtain⟨k,y,e,c⟩:=g 0 u rfl;have e:a=(k,y):=by simpa using e
    subst e;have d:k=Sum.inr x:=b.1;subst d;have c:Jg (Sum.inr x) u=true:=c;rcases BP c with⟨i,t,f,_⟩|⟨z,t,f,l⟩
    ·cases f
    ·cases f;subst l;exact .cons _ t (h b.2 (by simpa using hl) fun j v m=>g (j+1) v (by simpa using m))
theorem Ln{us:List Value}(h:StrsAre us ys):Vals (ys.map V.str) us:=by
 induction h with
 |nil=>exact .nil
 |cons n t _ a=>exact .cons ⟨t,rfl⟩ a
inductive JG(xs:List V)(H:Hp)(Q:VK):Prop
 |mk(d:Addr)(b:List (Key×V))(ss:List Str)(c:xs=[.ref d])(e:Rd H d (.dK b))(f:b.map (·.1)=ss.map Sum.inr)(g:b.length<64)(h:∀(p:Addr) (a:List Str) (H':Hp),H p=none->AF H H'->H' p=some (.lst (a.map V.str))->a.Perm ss->sortedS a=true->Q (.ref p) H')
def Jz:List V->Hp->VK->Prop:=fun a H Q=>JG a H Q
theorem Cu(T:X.calm=true):Bh X (.builtin "sorted") Jz:=by
 intro pins s σ H xs us Q I r h;obtain⟨d,U,F,rfl,hd,G,p,q⟩:=h;obtain⟨u,rfl,Y⟩:=vals1 r;cases Y;obtain⟨z,Z,k,l,dd⟩:=EV I.Ax hd;have t:X.A.in1.handled=none:=I.ok.hd T;have n:k.length=U.length:=l.length.symm;have x:k.map (·.1)=F.map Sum.inr:=by rw[<-G];exact(KV.keys l).symm
 obtain⟨ep,y⟩:=dd.dictAt;have J:k.length<=sizeLine:=by rw[n];exact z
 refine Calls.call_function_entry kind_sorted plain_sorted entry_sorted (args_sorted1 _) ?_;unfold Builtin.«sorted»;refine wpAny_bind (m:=checkCount "sorted" 1 1 _) (wpAny_pure (wpAny_bind (PySem.W.kdu_collect (PySem.W.kdl_dict (knd:=Al X.prog X.w) (kvs:=k) (ep:=ep) Z) t y J fun c K a keep items=>?_)));have B:a.toList.length=k.length:=by rw[Array.length_toList];exact items.1
 have C:StrsAre a.toList F:=Tc (P:=X.prog) (w:=X.w) x B fun j v e=>items.2 j v (by rw[<-Array.getElem?_toList];exact e);refine wpAny_bind (wpAny_newList ?_ (by rw[B];exact J));have f:(c.push {cls:=.type "list",data:=.seq a.toList.toArray}).get? c.objs.size=some (seqObj "list" a.toList.toArray 0):=Heap.get?_push_size _ rfl;refine wpAny_bind (wpAny_holding (wpAny_call_entry slot_list_sort ⟨_,f,rfl⟩ entry_list_sort (list_sort_treeK strKind_oneLt f C.keysOf (fun L M rest e=>keyKind_strs (by rw[<-e];exact C)) (by rw[B,n];exact p) fun g a1 a2=>⟨_,rfl,?_⟩) (args_list_sort _)));obtain⟨i,b1,N,b3⟩:=sorted_out_str C a1 a2;obtain⟨ee,he⟩:=sortedHeap_at (out:=(arrOf g).map (·.2)) f;refine wpAny_pure ⟨_,rfl,?_⟩;have D:(c.push {cls:=.type "list",data:=.seq a.toList.toArray}).objs.size=c.objs.size+1:=size_push' ..;have O:=I.kept (t':=K) keep;have k2:∀b o,c.get? b=some o->(sortedHeap (c.push {cls:=.type "list",data:=.seq a.toList.toArray}) c.objs.size a.toList ((arrOf g).map (·.2))).get? b=some o:=fun b o e=>by
  have R:b<c.objs.size:=Heap.lt_size e;rw[sortedHeap_old (Nat.ne_of_lt R) (by rw[D];exact Nat.lt_succ_of_lt R)];exact Heap.get?_push_of_some _ e
 have E:i.length<=sizeLine:=by
  rw[N.length_eq];have:=congrArg List.length G;rw[List.length_map,List.length_map]at this;rw[<-this];exact z
 have new:A_ X.prog X.w (upd H c.objs.size (.lst (i.map V.str))) (sortedHeap (c.push {cls:=.type "list",data:=.seq a.toList.toArray}) c.objs.size a.toList ((arrOf g).map (·.2))) c.objs.size (.lst (i.map V.str)):=
  ⟨by rw[List.length_map];exact E,((arrOf g).map (·.2)).toList,ee,Ln b1,by rw[Array.toArray_toList];exact he⟩
 have S:H c.objs.size=none:=O.fresh;exact⟨.ref c.objs.size,_,O.laid (t':=K) k2 (Nat.le_refl _) new,rfl,q _ i _ S (AF.new S) AD N b3⟩
end
structure Txt(mg:Str->Option Value):Prop where
 isinstance:mg "isinstance"=none
 int:mg "int"=none
 bool:mg "bool"=none
 str:mg "str"=none
 list:mg "list"=none
 dict:mg "dict"=none
 tuple:mg "tuple"=none
 len:mg "len"=none
 range:mg "range"=none
 max:mg "max"=none
 min:mg "min"=none
 sorted:mg "sorted"=none
 all:mg "all"=none
 any:mg "any"=none
 reversed:mg "reversed"=none
 ValueError:mg "ValueError"=none
 sum:mg "sum"=none
theorem Af:bootBuiltins "isinstance"=some (.builtin "isinstance"):=by decide+kernel
theorem Rv:bootBuiltins "int"=some (.type "int"):=by decide+kernel
theorem fX:bootBuiltins "str"=some (.type "str"):=by decide+kernel
theorem DG:bootBuiltins "list"=some (.type "list"):=by decide+kernel
theorem CZ:bootBuiltins "dict"=some (.type "dict"):=by decide+kernel
theorem Mj:bootBuiltins "tuple"=some (.type "tuple"):=by decide+kernel
theorem EZ:bootBuiltins "sorted"=some (.builtin "sorted"):=by decide+kernel
theorem fY:bootBuiltins "any"=some (.builtin "any"):=by decide+kernel
theorem Qg:bootBuiltins "reversed"=some (.type "reversed"):=by decide+kernel
theorem BF{c:Bool}{A B:Prop}(a:c=false)(h:B):if c=true then A else B:=by
 rw[a];exact BE h
theorem Cv{c:Bool}{A B:Prop}(a:c=true)(h:A):if c=true then A else B:=by
 rw[a];exact Cc h
theorem Dp{b:Type}{xs:List b}{i:Int}(c:0<=i)(d:i<(xs.length:Int)):∃v,Lh xs i=some v/\v∈xs:=by
 obtain⟨n,rfl⟩:=Int.eq_ofNat_of_zero_le c;have a:n<xs.length:=by lia
 exact⟨xs[n],Av (yn a),List.getElem_mem a⟩
inductive rT(P:Program)(w:World)(K:yt)(mg:Str->Option Value)(base:Heap)(x:Str)(ps:List Str)(n:Nat)(sp:Sp):Prop
 |mk(f:Addr)(a:FuncData)(k:PySem.W.keepIn K (.ref f)=true)(b:Binds K a ps [])(m:mg x=some (.ref f))(G:Au P w K mg base CK n f a ps sp)
structure Df(P:Program)(w:World)(K:yt)(mg:Str->Option Value)(base:Heap)(x:Str)(ps:List Str)(n:Nat)(sp:Sp):Prop where
 ex:rT P w K mg base x ps n sp
theorem Df.mk'{P:Program}{w:World}{K:yt}{mg:Str->Option Value}{base:Heap}{x q:Str}{st:Stmt}{ps:List Str}{n:Nat}{sp:Sp}{f:Addr}{a:FuncData}(F:Co K x q st f a)(b:Binds K a ps [])(m:mg x=some (.ref f))(G:Au P w K mg base CK n f a ps sp):Df P w K mg base x ps n sp:=⟨⟨f,a,F.kp,b,m,G⟩⟩
theorem DL(r:Int){n:Int}(h:0<n):0<=r % n/\r % n<n:=⟨Int.emod_nonneg _ (by lia),Int.emod_lt_of_pos _ h⟩
def kc(x:Str):Bool:=decide (x.length<=12)&&(sgn x).all au
def fZ(v:V):Prop:=(∃i:Int,v=.int i/\i.natAbs<2 ^ 400)∨∃x:Str,v=.str x/\kc x=true
namespace Dc
mutual
def ok:Dc->Prop
 |leaf v=>fZ v
 |row _ xs=>DW xs
 |tab _ ks xs=>(∀k∈ks,Dn k=true)/\DW xs
def DW:List Dc->Prop
 |[]=>True
 |x::r=>ok x/\DW r
end
mutual
def named(N:List Str):Dc->Prop
 |leaf _=>True
 |row _ xs=>Qh N xs
 |tab _ ks xs=>(∀k∈ks,k∈N)/\Qh N xs
def Qh(N:List Str):List Dc->Prop
 |[]=>True
 |x::r=>named N x/\Qh N r
end
noncomputable def fe:Dc->String
 |leaf (.int _)=>"int"
 |leaf _=>"str"
 |row _ _=>"list"
 |tab _ _ _=>"dict"
theorem Za{d:Dc}(h:d.At H):Qd H d.val d.fe:=by
 cases d with
 |leaf v=>
  rcases(show Lf v from h)with⟨i,rfl⟩|⟨x,rfl,_⟩
  ·exact .int i
  ·exact .str x
 |row a b=>simp only[At]at h;exact .lst h.1
 |tab a c b=>simp only[At]at h;exact .dK h.1
noncomputable def sub:Dc->List V->Option Dc
 |d,[]=>some d
 |row _ xs,.int i::r=>if 0<=i then(xs[i.toNat]?).bind fun x=>sub x r else none
 |tab _ ks xs,.str k::r=>((ks.zip xs).lookup k).bind fun x=>sub x r
 |_,_=>none
def ff(v:V):Prop:=(∃k:Nat,v=.int (k:Int))∨∃x:Str,v=.str x/\Dn x=true
theorem LN(h:ks.length=xs.length){k:Str}(a:k∈ks):∃x,(ks.zip xs).lookup k=some x/\x∈xs:=by
 induction ks generalizing xs with
 |nil=>cases a
 |cons y r b=>
  cases xs with
  |nil=>simp at h
  |cons z c=>
   by_cases e:k=y
   ·subst e;exact⟨z,by simp,List.mem_cons_self⟩
   ·obtain⟨x,d,f⟩:=b (xs:=c) (by simpa using h) ((List.mem_cons.mp a).resolve_left e);refine⟨x,?_,List.mem_cons_of_mem _ f⟩;have:(k==y)=false:=by simpa using e
    simp[List.zip_cons_cons,List.lookup_cons,this,d]
end Dc
abbrev Zb:Str:="abcdefghijklmnopqrstuvwxyz"
theorem Mk:Zb.length=26:=by decide+kernel
theorem Ml:VL.length=26:=by decide+kernel
theorem Qi(i:Int)(b:0<=i)(d:i<26):∃c,Lh (sgn Zb) i=some c/\au c=true:=by
 obtain⟨n,rfl⟩:=Int.eq_ofNat_of_zero_le b;have a:n<VL.length:=by rw[Ml];lia
 exact⟨VL[n],Av (yn a),Qe (List.getElem_mem a)⟩
theorem HJ(r:Int):0<=r % 26/\r % 26<26:=⟨Int.emod_nonneg _ (by decide),Int.emod_lt_of_pos _ (by decide)⟩
inductive YB(K:yt)(vs:List V)(H:Hp)(Q:VK)(b:XK):Prop
 |mk(a:Addr)(c:List Int)(k:Nat)(d:vs=[.ref a,.int (k:Int)])(e:As K H a (c.map V.int))(f:∀r:Int,0<=r->Q (.int r) H)
def VS(K:yt):Sp:=fun b H Q a=>YB K b H Q a
inductive av(vs:List V)(H:Hp)(Q:VK)(a:XK):Prop
 |mk(c:Int)(k:Nat)(b:vs=[.int c,.int (k:Int)])(d:k<=1000)(e:∀r:Int,0<=r->r<2305843009213693951->Q (.int r) H)
def Ea:Sp:=fun b H Q a=>av b H Q a
noncomputable def VT:Nat->Int->Int
 |0,n=>n
 |k+1,n=>VT k n/1000000
def OV(c:Int)(k:Nat):Int:=(((c+3)*1181783497276652981 % 2305843009213693951+((k:Int)+1)*614889782588491411) % 2305843009213693951)*(((c+3)*1181783497276652981 % 2305843009213693951+((k:Int)+1)*614889782588491411) % 2305843009213693951) % 999999999999999989
def Td(c:Int)(k:Nat):Int:=if c % 4=0/\4*10 ^ 60<=c then VT k (c/4) % 1000000 else(OV c k+1)*(OV c k/1000003+7) % 2305843009213693951/7919
theorem VU(c:Int)(k:Nat):0<=Td c k/\Td c k<2305843009213693951:=by
 unfold Td;split
 ·have a:=Int.emod_nonneg (VT k (c/4)) (show(1000000:Int)≠0 by decide);have b:=Int.emod_lt_of_pos (VT k (c/4)) (show(0:Int)<1000000 by decide);lia
 ·have a:=Int.emod_nonneg ((OV c k+1)*(OV c k/1000003+7)) (show(2305843009213693951:Int)≠0 by decide);have b:=Int.emod_lt_of_pos ((OV c k+1)*(OV c k/1000003+7)) (show(0:Int)<2305843009213693951 by decide);lia
inductive YC(vs:List V)(H:Hp)(Q:VK)(a:XK):Prop
 |mk(c:Int)(k:Nat)(b:vs=[.int c,.int (k:Int)])(d:k<=1000)(e:Q (.int (Td c k)) H)
def VW:Sp:=fun b H Q a=>YC b H Q a
theorem VX{vs:List V}{Q:VK}{E:XK}(h:Ea vs H Q E):VW vs H Q E:=by
 obtain⟨c,k,e,a,q⟩:=h;exact⟨c,k,e,a,q _ (VU c k).1 (VU c k).2⟩
theorem OW(P:Nat->Str->Prop)(h:∀(j:Nat) y,ys[j]?=some y->P j y)(inj:∀(i j:Nat) y,i<j->j<ys.length->P i y->P j y->False):ys.Nodup:=by
 refine List.pairwise_iff_getElem.mpr fun i j d b a e=>?_;have f:=h i _ (yn d);have c:=h j _ (yn b);rw[<-e]at c;exact inj i j _ a b f c
theorem An{n:Nat}(h:n<=1000):n<=sizeLine:=Nat.le_of_lt (Aw h)
theorem Ac{y:V}:[x,y].length<=sizeLine:=An (show 2<=1000 by decide)
theorem BG:[x].length<=sizeLine:=An (show 1<=1000 by decide)
theorem Iq{mg:Str->Option Value}{base:Heap}{f:Addr}{b:FuncData}{ps:List Str}{sp:Sp}(a:∀vs H Q E,¬sp vs H Q E):Au P w K mg base CK 0 f b ps sp:=
 ⟨fun vs H Q E h=>absurd h (a vs H Q E),fun A outer s H args c vs Q E _ _ _ _ h=>absurd h (a vs H Q E)⟩
theorem VY{t u:TS}{D:Ends}{a:St}(R:Hp->Prop)(k:∀H',R H'->u D a H')(h:(∀H',R H'->u D a H')->t {D with nx:=u D} a H):QK t u D a H:=h k
namespace Dc
mutual
def slim:Dc->Prop
 |leaf _=>True
 |row _ xs=>J_ xs
 |tab _ _ xs=>xs.length<64/\J_ xs
def J_:List Dc->Prop
 |[]=>True
 |x::r=>slim x/\J_ r
end
theorem II:∀{xs:List Dc},J_ xs->∀x∈xs,slim x
 |[],_,x,a=>nomatch a
 |y::r,h,x,a=>by
  simp only[J_]at h;rcases List.mem_cons.mp a with rfl|a
  ·exact h.1
  ·exact II h.2 x a
end Dc
variable{o:Obj}
section
variable{X:Cx} {pins:List (Addr×Obj)} {σ:St} {H:Hp} {s:Shared} {a:Addr} {kvs:List (Key×V)}
theorem Inv.freeze(I:Inv X pins σ H s)(e:H a=some (.dK kvs)):∃o,s.heap.get? a=some o/\Inv X pins σ (upd H a (.Ba o (.dK kvs))) s:=by
 have ok:=(show A_ X.prog X.w H s.heap a (.dK kvs)from I.Ax a _ e);obtain⟨z,g,h,i,o,j,k,f,r⟩:=id ok;refine⟨o,f,?_⟩;have c:∀b u,H b=some u->u≠.dK kvs->b≠a:=fun b u q n w=>by
  subst w;rw[e]at q;exact n (yq q).symm
 have un:Un X.fs [] H (upd H a (.Ba o (.dK kvs))) s.heap s.heap:=
  ⟨fun b d q _ _ _=>q,fun b d q _ _ _=>⟨d.slots,q⟩,fun b d q n _=>by rw[AH (fun w=>by subst w;rw[e]at n;cases n)];exact n,fun b d q _=>⟨d,q⟩,
   fun b l q=>by rw[AH (c b _ q (by intro z;cases z))];exact q,fun b d u q=>by rw[AH (c b _ q (by intro z;cases z))];exact q,fun b m q=>⟨#[],by rw[AH (c b _ q (by intro z;cases z)),q];simp⟩⟩
 have Ax:EN X.prog X.w (upd H a (.Ba o (.dK kvs))) s.heap:=I.Ax.write (by rw[e];trivial) (.inl rfl) (fun b u _ q=>q) ⟨o,f⟩ ⟨f,ok⟩;exact I.un (h':=s.heap) (t':=s.toks) un Ax
theorem Inv.VZ(I:Inv X pins σ H s)(e:H a=some (.Ba o (.dK kvs)))(nf:∀o u,X.H₀ a≠some (.Ba o u)):Inv X pins σ (upd H a (.dK kvs)) s:=by
 have ok:=(show A_ X.prog X.w H s.heap a (.Ba o (.dK kvs))from I.Ax a _ e);have d:∀b u,H b=some u->u≠.Ba o (.dK kvs)->b≠a:=fun b u q n w=>by
  subst w;rw[e]at q;exact n (yq q).symm
 have f:∀b,H b=none->b≠a:=fun b n w=>by subst w;rw[e]at n;cases n
 have B:=I.base;refine⟨I.ok,I.os,I.bare,⟨B.keep,B.slot,fun b g q n i=>by rw[AH (f b (B.free b g q n i))];exact B.free b g q n i,B.there,fun b h q=>by rw[AH (d b _ (B.GU b h q) (by intro z;cases z))];exact B.GU b h q,
  fun b g u q=>by rw[AH (fun w=>nf g u (by rw[<-w];exact q))];exact B.EO b g u q,fun b m q=>?_⟩,I.loc,I.cell,by rw[AH (f _ I.free)];exact I.free,fun x c q=>by rw[AH (f _ (I.DU x c q))];exact I.DU x c q,
  fun p t=>let⟨y,j,A⟩:=I.pin p t;⟨y,by rw[AH (f _ j)];exact j,A⟩,fun b u q=>?_,I.len⟩
 ·obtain⟨more,k⟩:=B.GV b m q;exact⟨more,by rw[AH (d b _ k (by intro z;cases z))];exact k⟩
 ·by_cases l:b=a
  ·subst l;rw[AD]at q;cases q;exact ok.2
  ·rw[AH l]at q;exact(I.Ax b u q).LF (fun c v _ r=>r) (fun c r=>by rw[AH (d c _ r (by intro z;cases z))];exact r) fun c h r=>by rw[AH (d c _ r (by intro z;cases z))];exact r
theorem Inv.nf(I:Inv X pins σ H s)(e:H a=some (.dK kvs)):∀o u,X.H₀ a≠some (.Ba o u):=fun o u q=>by
 have:=I.base.EO a o u q;rw[e]at this;cases this
end
def Mm(a:Addr)(o:Obj)(kvs:List (Key×V))(k:Hp->Prop):Hp->Prop:=fun H=>H a=some (.Ba o (.dK kvs))/\k (upd H a (.dK kvs))
inductive aw(t:TE)(b:St)(H:Hp)(Q:VK):Prop
 |mk(a kvs:_)(c:H a=some (.dK kvs))(d:∀o,t b (upd H a (.Ba o (.dK kvs))) fun v=>Mm a o kvs (Q v))
def fg(t:TE):TE:=fun a H Q=>aw t a H Q
inductive a_(t:TS)(D:Ends)(b:St)(H:Hp):Prop
 |mk(a kvs:_)(c:H a=some (.dK kvs))(d:∀o,t ⟨fun b=>Mm a o kvs (D.nx b),fun v=>Mm a o kvs (D.rt v),fun b=>Mm a o kvs (D.bk b),fun b=>Mm a o kvs (D.ct b)⟩ b (upd H a (.Ba o (.dK kvs))))
def fh(t:TS):TS:=fun D a H=>a_ t D a H
section
variable{X:Cx}
theorem bA{e:Expr}{t:TE}(h:PE X e t):PE X e (fg t):=by
 rintro pins s c H Q I ⟨a,kvs,b,d⟩;obtain⟨o,l,f⟩:=I.freeze b;exact BK (h pins s c _ _ f (d o)) fun u m ⟨v,n,g,i,j,k⟩=>⟨v,_,g.VZ j (I.nf b),i,k⟩
theorem bB{st:Stmt}{t:TS}(h:PS X st t):PS X st (fh t):=by
 rintro pins s k H D I ⟨a,kvs,g,l⟩;obtain⟨o,p,m⟩:=I.freeze g;refine BK (h pins s k _ _ m (l o)) fun f q i=>?_;cases f with
 |next=>obtain⟨b,j,c,d,e⟩:=i;exact⟨b,_,c.VZ d (I.nf g),e⟩
 |brk=>obtain⟨b,j,c,d,e⟩:=i;exact⟨b,_,c.VZ d (I.nf g),e⟩
 |cont=>obtain⟨b,j,c,d,e⟩:=i;exact⟨b,_,c.VZ d (I.nf g),e⟩
 |ret u=>obtain⟨v,b,j,c,n,d,e⟩:=i;exact⟨v,b,_,c.VZ d (I.nf g),n,e⟩
theorem Dq{e:Expr}{t u:TE}(h:PE X e t)(h':PE X e u):PE X e (fun a H Q=>t a H Q∨u a H Q):=by
 rintro pins s a H Q I (q|q)
 ·exact h pins s a H Q I q
 ·exact h' pins s a H Q I q
theorem Va{e:Stmt}{t u:TS}(h:PS X e t)(h':PS X e u):PS X e (fun D a H=>t D a H∨u D a H):=by
 rintro pins s a H D I (q|q)
 ·exact h pins s a H D I q
 ·exact h' pins s a H D I q
end
def dJ(a:Addr)(o:Obj)(kvs:List (Key×V)):It:=
 ⟨fun i H=>H a=some (.Ba o (.dK kvs))/\i<kvs.length,fun i H x b=>b=H/\∃k v,kvs[i]?=some (k,v)/\x=kV k,fun i H=>H a=some (.Ba o (.dK kvs))/\i=kvs.length⟩
def fj(tl:TE):TI:=fun c H R=>tl c H fun x b=>∃a o kvs,x=.ref a/\b a=some (.Ba o (.dK kvs))/\R (dJ a o kvs) b
theorem YD{k:Key}(h:(Al P w).is k u=true):RelV (kV k) u:=by
 rcases BP (k:=k) (v:=u) h with⟨i,t,rfl,rfl⟩|⟨x,t,rfl,rfl⟩
 ·exact⟨t,rfl⟩
 ·exact⟨t,rfl⟩
theorem Te{tg:Expr}{it:Addr}{kvs:List (Key×V)}{ep:Nat}(dM:a≠it)(rel:KV kvs vs)(hD:∀h:Heap,h.get? a=some o->h.DictAt (Al P w) a vs ep):
  Turn P w K tg (dJ a o kvs) [it] it (fun i h=>h.IsKeyIter it a i vs.length ep)where
 mem:=by simp
 obj:=fun i h st b hb=>by
  have e:b=it:=by simpa using hb
  subst e;obtain⟨ob,h1,_,h3⟩:=st;exact⟨ob,h1,fun v z=>by rw[h3]at z;cases z⟩
 keep:=fun i h h' st k=>st.at fun ob e=>k it (by simp) ob e
 item:=fun X hp hw _ hc i pins s σ H E I hf st go=>by
  subst hp hw;have f:=hf it (by simp);obtain⟨ga,gi⟩:=go;have ke:=hD s.heap (show A_ X.prog X.w H s.heap a (.Ba o (.dK kvs))from I.Ax a _ ga).1;refine(Walks.dictKeys (knd:=Al X.prog X.w) (I.ok.hd hc) it a dM vs ep).item i s _ E (by rw[<-rel.length];exact gi) ⟨st,ke⟩ fun v h' tk hP Nm kept=>?_;obtain⟨k,x,rV,hk⟩:=hP;obtain⟨ob,h1,h2,h3⟩:=Nm.1;have Zc:∃y,kvs[i]?=some (k,y):=by
   have e:=congrArg (fun l=>l[i]?) (KV.keys rel);simp only[List.getElem?_map,rV,yn gi]at e;have e:kvs[i].1=k:=by simpa using e
   exact⟨kvs[i].2,by rw[yn gi,<-e]⟩
  obtain⟨y,hy⟩:=Zc;refine⟨v,rfl,LZ (o:=ob) h1 h2 h3 (by decide) ⟨kV k,H,I.turned (fun b rW hb e=>kept b rW (by simp[hb]) e) f.1 f.2.1 f.2.2.2.1 f.2.2.2.2.1 f.2.2.2.2.2,YD hk,⟨rfl,k,y,hy,rfl⟩,Nm.1,fun b hb=>?_⟩⟩;have e:b=it:=by simpa using hb
  subst e;exact f.1
 done:=fun X hp hw _ hc i pins s σ H E I hf st stop=>by
  subst hp hw;have f:=hf it (by simp);obtain⟨ga,gi⟩:=stop;have gi:i=vs.length:=by rw[gi];exact rel.length
  subst gi;have ke:=hD s.heap (show A_ X.prog X.w H s.heap a (.Ba o (.dK kvs))from I.Ax a _ ga).1;refine(Walks.dictKeys (knd:=Al X.prog X.w) (I.ok.hd hc) it a dM vs ep).done s _ E ⟨st,ke⟩ fun h' tk kept=>?_;exact⟨rfl,I.turned (fun b ob hb e=>kept b ob (by simp[hb]) e) f.1 f.2.1 f.2.2.2.1 f.2.2.2.2.1 f.2.2.2.2.2⟩
 self:=fun A i s Q E st hQ=>wpAny_pyIter_keyiter st hQ
section
variable{X:Cx} {tg:Expr}
theorem F'{l:Expr}{tl:TE}(hl:PE X l tl):PI X tg l (fj tl):=by
 intro pins s n H R I h;refine BK (hl pins s n H _ I h) fun v c p=>p.elim fun x k g r t=>?_;obtain⟨a,o,kvs,rfl,u,q⟩:=t;cases r;have ok:=(show A_ X.prog X.w k c.heap a (.Ba o (.dK kvs))from g.Ax a _ u);obtain⟨m,z,y,E,i,A⟩:=ok;obtain⟨F,d⟩:=A.dictAt;obtain⟨G,B,f,C⟩:=id d;rw[m]at f;cases f;have j:a<c.heap.objs.size:=Heap.lt_size m;refine wpAny_pyIter_dict y d ⟨c.heap.objs.size,[c.heap.objs.size],_,dJ a o kvs,k,rfl,g.kept (t':=c.toks) fun b J e=>Heap.get?_push_of_some _ e,
  Te (Nat.ne_of_lt j) i (fun h e=>⟨o,B,e,C⟩),⟨_,Heap.get?_push_size _ rfl,rfl,rfl⟩,fun b D=>?_,q⟩
 have e:b=c.heap.objs.size:=by simpa using D
 subst e;exact g.OA (Nat.le_refl _) g.fresh
end
theorem J'{kvs:List (Key×V)}{g:TG}{l:TS}{D:Ends}{b:St}(Pv:Nat->St->Hp->Prop)(r:Pv 0 b H)(hl:∀i b H,i<=kvs.length->Pv i b H->H a=some (.Ba o (.dK kvs)))(s:∀i k v b H,kvs[i]?=some (k,v)->Pv i b H->g (kV k) b H fun c H2=>l {D with nx:=Pv (i+1),ct:=Pv (i+1),bk:=D.nx} c H2)(t:∀b H,Pv kvs.length b H->D.nx b H):
  ∃W:Nat->Nat->St->Hp->Prop,(∃m,W 0 m b H)/\∀i m b H,W i m b H-> ((dJ a o kvs).stop i H/\D.nx b H)∨((dJ a o kvs).go i H/\∃N:St->Hp->Prop,(∀d f,N d f->∃n,n<m/\W (i+1) n d f)/\∀x f,(dJ a o kvs).N_ i H x f->g x b f fun c H2=>l {D with nx:=N,ct:=N,bk:=D.nx} c H2):=by
 refine⟨fun i m b H=>m=kvs.length-i/\i<=kvs.length/\Pv i b H,⟨kvs.length,by simp,Nat.zero_le _,r⟩,?_⟩;rintro i m b H ⟨rfl,u,p⟩;have q:=hl i b H u p;by_cases h:i<kvs.length
 ·refine .inr ⟨⟨q,h⟩,Pv (i+1),fun d f w=>⟨kvs.length-(i+1),by lia,rfl,h,w⟩,fun x f y=>?_⟩;obtain⟨e,k,v,j,rfl⟩:=y;subst e;exact s i k v b _ j p
 ·have e:i=kvs.length:=by lia
  subst e;exact .inl ⟨⟨q,rfl⟩,t b H p⟩
def FH(H H':Hp):Prop:=∀b u,Rd H b u->Rd H' b u
theorem AF.r{H H':Hp}(s:AF H H'):FH H H':=fun b u r=>r.up fun o=>s b o
theorem FH.trans{a H2:Hp}(s:FH H a)(t:FH a H2):FH H H2:=fun b u r=>t b u (s b u r)
theorem FH.Ba{H:Hp}{a:Addr}{o:Obj}{kvs:List (Key×V)}(e:H a=some (.dK kvs)):FH H (upd H a (.Ba o (.dK kvs))):=fun b u r=>by
 by_cases c:b=a
 ·subst c;rcases r with r|⟨d,r⟩
  ·rw[e]at r;cases r;exact .inr ⟨o,AD⟩
  ·rw[e]at r;cases r
 ·exact r.up fun d q=>by rw[AH c];exact q
end L2
namespace PySem
open PyProof.Rows PySem.F PySem.Spec
theorem KA:typeLookup (.type "list") "keys"=pure none:=by rw[typeLookup_type,builtinLookup_eq_fast];kernel_rfl
theorem FX{prog:Program}{w:World}{A:Around}{E:Value->Shared->Prop}{s:Shared}{a:Addr}{o:Obj}{xs:Array Value}{k:Nat}{Q:Option Value->Shared->Prop}(j:s.heap.get? a=some o)(l:o.cls=.type "list")(b:o.data=.seq xs k)(m:o.dict=none)(hA:A.handled=none)(h:∀h' tk e,Heap.NewExcOf s.heap h' e "AttributeError"->Q none {s with heap:=h',toks:=tk}):
  wpAny (model prog w) A (getAttr? (.ref a) "keys") Q E s:=by
 obtain⟨c,Ar,p,q⟩:=o;simp only at l b m;subst l b m;obtain⟨r,g,d,tk,os⟩:=s;have n:∀f,(⟨r,g,d,f,os⟩:Shared).TypeIs (.ref a) "list":=fun _=>⟨_,j,rfl⟩;have t:=sub_AttributeError;have u:=F.slot_list_getattribute.lookup;have v:=F.slot_list_getattribute.bind (.ref a);have x:=am_list_getattr_none;unfold getAttr? getAttrBy? getAttrBy
 repeat (any_goals (first|assumption|exact n _|((with_reducible show wpAny _ _ (call (Value.builtin "list.__getattribute__") _ _) _ _ _);refine call_meets F.slot_list_getattribute (n _) am_entry_list_getattribute (F.args_list_getattribute_2 _ _) (meets_getattribute_miss_list a xs k q "keys" _ KA (by decide+kernel) (by decide+kernel)) ⟨j,hA,fun h' f e i=>?_⟩)|wp_step))
 obtain⟨y,z,B⟩:=i.there;show wpAny _ _ (getattributeRaised _ _ _ _ _ _ _) _ _ _;unfold getattributeRaised
 repeat (any_goals (first|assumption|wp_step))
 exact h _ _ _ i.of
theorem Bk:entryFor table "dict.update.loop"=some Builtin.«dict.update.loop»:=entryFor_of_tree (by kernel_rfl)
theorem Ai:plainId "dict.update.loop"=true:=by decide+kernel
section
variable{prog:Program} {w:World} {K:Type} [DecidableEq K] {knd:KeyKind prog w K} {A:Around} {R:Result->Shared->Prop}
theorem Tf{I l d:Addr}{items:Array Value}{more:List (K×Value)}(hh:A.handled=none)(F:l≠I)(h:d≠I)(G:d≠l)(hlen:items.size=more.length)(hsz:more.length<=100000):
  ∀(k i:Nat)(s:Shared),more.length-i=k->i<=more.length->s.heap.IsListIter I l i->s.heap.IsList l items->s.heap.DictOf knd d (merged [] (more.take i))-> (∀(j:Nat) x c,more[j]?=some (x,c)->∃t a,items[j]?=some (.ref t)/\t≠d/\t≠I/\IsTup s.heap t #[a,c]/\knd.is x a=true)-> (∀h' tk,h'.DictOf knd d (merged [] more)->(∀b o,b≠d->b≠I->s.heap.get? b=some o->h'.get? b=some o)->R (.ok (.ret .none)) {s with heap:=h',toks:=tk})->
   codeAny (model prog w) A (.builtin "dict.update.loop" ⟨[.ref d,.ref I,rawInt (i:Int),.none],[]⟩) R s:=by
 have W:=Walks.list (prog:=prog) (w:=w) (A:=A.in1) hh I l F items;intro k
 induction k with
 |zero=>
  intro i s hk hi m H D J L;have M:i=more.length:=by lia
  subst M;refine codeAny_builtin Bk ?_;rw[Around.under_plainId Ai _];show wpAny _ A.in1 (pyNext (.ref I)>>=_) _ _ s;refine wpAny_bind (W.done s _ _ (by rw[hlen];exact⟨m,H⟩) fun h' tk kept=>?_);rw[List.take_length]at D;obtain⟨o,N,O,P,r⟩:=D;show wpAny _ A.in1 (Builtin.Dict.addKeywords d []>>=_) _ _ _;exact wpAny_bind (wpAny_pure (wpAny_pure (L h' tk ⟨o,N,O,kept _ _ (by simp[h]) P,r⟩ fun b o _ hb e=>kept b o (by simp[hb]) e)))
 |succ k ih=>
  intro i s hk hi m H D J L;have n:i<more.length:=by lia
  obtain⟨⟨x,c⟩,hm⟩:∃p,more[i]?=some p:=⟨_,yn n⟩;obtain⟨t,a,ht,td,tI,tup,f⟩:=J i x c hm;refine codeAny_builtin Bk ?_;rw[Around.under_plainId Ai _];show wpAny _ A.in1 (pyNext (.ref I)>>=_) _ _ s;refine wpAny_bind (W.item i s _ _ (by rw[hlen];exact n) ⟨m,H⟩ fun v h' tk hv y kept=>?_);rw[ht]at hv;cases hv;obtain⟨ot,Q,q,nt,z⟩:=tup;have g:h'.get? t=some ot:=kept _ _ (by simp[tI]) Q;have hT:({s with heap:=h',toks:=tk}:Shared).TypeIs (.ref t) "tuple":=⟨_,g,q⟩;obtain⟨ct,dt,dat,slt⟩:=ot;simp only at q z;subst q z;obtain⟨o,N,O,P,r⟩:=id D;have S:h'.DictOf knd d (merged [] (more.take i)):=⟨o,N,O,kept _ _ (by simp[h]) P,r⟩;have T:(merged [] (more.take i)).length<=sizeLine:=by
   have:=merged_length_le ([]:List (K×Value)) (more.take i);rw[List.length_take,List.length_nil]at this;have e:sizeLine=16777216:=sizeLine_eq;lia
  show wpAny _ A.in1 (holding [Value.ref t] _>>=_) _ _ _;refine wpAny_bind (wpAny_holding (wpAny_bind (wpAny_tryCatch ?_)));unfold Builtin.Dict.pairItems;refine wpAny_bind (wpAny_typeOf hT ?_);rw[if_pos (by decide)];unfold seqItems?;refine wpAny_bind ?_;refine wpAny_bind (wpAny_load g ?_);refine wpAny_pure (wpAny_pure ?_);show wpAny _ A.in1 (holding [a,c] (dictSet d a c)) _ _ _;refine wpAny_holding ?_;unfold dictSet
  try with_reducible refine wpAny_holding ?_
  refine wpAny_bind (knd.pyHash f ?_);refine wpAny_dictSetHashed_pairs (hsz:=T) f S fun h2 B u=>?_;have e1:stored (merged [] (more.take i)) x c=merged [] (more.take (i+1)):=(merged_take_succ [] more i (x,c) hm).symm;rw[e1]at B;have kp:∀b o,b≠d->b≠I->s.heap.get? b=some o->h2.get? b=some o:=fun b o E U e=>by
   rw[u.2 b E];exact kept b o (by simp[U]) e
  have ic:((i:Int)+1)=((i+1:Nat):Int):=by simp
  refine wpAny_pure ⟨plainId_quiet Ai _,?_⟩;rw[ic];refine ih (i+1) _ (by lia) n (y.1.at fun o e=>by rw[u.2 I (Ne.symm h)];exact e) (y.2.at fun o e=>by rw[u.2 l (Ne.symm G)];exact e) B (fun j k2 v2 hj=>?_) (fun U V X Y=>L U V X fun b o E h4 e=>Y b o E h4 (kp b o E h4 e));obtain⟨t2,C,a1,a2,a3,⟨Z,b1,b2⟩,a5⟩:=J j k2 v2 hj;exact⟨t2,C,a1,a2,a3,⟨Z,kp _ _ a2 a3 b1,b2⟩,a5⟩
end
end PySem
namespace L2
open PySem PySem.Spec PyProof.Rows
section
variable{X:Cx}
inductive YE(K:yt)(xs:List V)(H:Hp)(Q:VK):Prop
 |mk(l:Addr)(ts:List Addr)(kvs:List (Key×V))(a:xs=[.ref l])(b:As K H l (ts.map V.ref))(c:ts.length=kvs.length)(d:(∀(j:Nat) k v,kvs[j]?=some (k,v)->∃t,ts[j]?=some t/\H t=some (.tup [kV k,v])))(e:kvs.length<=1000)(f:∀p,H p=none->Q (.ref p) (upd H p (.dK (CY [] kvs))))
def bC(K:yt):List V->Hp->VK->Prop:=fun a H Q=>YE K a H Q
theorem CB(hc:X.calm=true):Bh X (.type "dict") (bC X.K):=by
 intro pins s σ H xs us Q I r h;obtain⟨l,f,kvs,rfl,hl,hlen,hp,hz,q⟩:=h;obtain⟨u,rfl,ru⟩:=vals1 r;cases ru;obtain⟨n,rv,pl,_⟩:=I.list hl;obtain⟨W,nl,L,x,Y,C⟩:=id pl;have M:X.A.in1.handled=none:=I.ok.hd hc;refine callType_codes (Q₁:=fun N B=>N=.ref s.heap.objs.size/\B={s with heap:=s.heap.push {cls:=.type "dict",data:=.dict #[]}}) F.kt_called_dict (F.kt_typeCall_dict_1 _) F.entry_dict_init (kt_code_dict_new _ ⟨rfl,rfl⟩) ?_;rintro N B ⟨rfl,rfl⟩;have g:(s.heap.push {cls:=.type "dict",data:=.dict #[]}).DictOf (Al X.prog X.w) s.heap.objs.size []:=Heap.DictOf.new s.heap;refine⟨g.typeIs,F.args_dict_init_2 _ _,?_⟩;unfold Builtin.«dict.__init__»;refine wpAny_bind ?_;unfold Builtin.Dict.selfAndRest;refine wpAny_bind (wpAny_notOrdered_dict g.typeIs ?_);show wpAny _ _ (pure (s.heap.objs.size,[Value.ref l])) _ _ _;refine wpAny_pure ?_;show wpAny _ _ (Builtin.Dict.updateFrom "dict.__init__" s.heap.objs.size (.ref l) [] .none) _ _ _;unfold Builtin.Dict.updateFrom;have c:(s.heap.push {cls:=.type "dict",data:=.dict #[]}).get? l=some W:=Heap.get?_push_of_some _ L;have Z:({s with heap:=s.heap.push {cls:=.type "dict",data:=.dict #[]}}:Shared).TypeIs (.ref l) "list":=⟨_,c,x⟩;refine wpAny_bind (wpAny_typeOf Z ?_);rw[if_pos (by decide)];refine wpAny_bind (FX c x C Y M fun D oQ e1 ne1=>?_);rw[if_pos (show(Option.isNone (none:Option Value))=true from rfl)];have i:∀b o,(s.heap.push {cls:=.type "dict",data:=.dict #[]}).get? b=some o->D.get? b=some o:=ne1.keeps;have O:∀b o,s.heap.get? b=some o->D.get? b=some o:=fun b o e=>i b o (Heap.get?_push_of_some _ e);have dN:D.IsList l n.toArray:=⟨W,i _ _ c,x,nl,C⟩;refine wpAny_bind (wpAny_rule ?_);refine wpAny_bind (wpAny_pyIter_list dN ?_);refine wpAny_pure ⟨plainId_quiet Ai _,?_⟩;obtain⟨od,es,ep,P,rd⟩:=id g;have y:s.heap.objs.size<D.objs.size:=Heap.lt_size (i _ _ P);have R:l<s.heap.objs.size:=Heap.lt_size L;have rX:∀kvs:List (Key×V),(∀p∈kvs,∃(t:Addr),H t=some (.tup [kV p.1,p.2]))->True:=fun _ _=>trivial;have E:∀(t:Addr) k v,H t=some (.tup [kV k,v])->∃a d,IsTup s.heap t #[a,d]/\(Al X.prog X.w).is k a=true/\RelV v d:=fun t k v e=>by
  obtain⟨z,r2,tp,_⟩:=I.tuple (Bg.of e);cases r2 with
  |cons ra rr=>
   cases rr with
   |cons rb rr=>
    cases rr;exact⟨_,_,tp,G_ ra,rb⟩
 obtain⟨more,G⟩:∃more:List (Key×Value),KV kvs more/\∀(j:Nat) m d,more[j]?=some (m,d)->∃t a,f[j]?=some t/\IsTup s.heap t #[a,d]/\(Al X.prog X.w).is m a=true:=by
  have gen:∀(kvs:List (Key×V))(f:List Addr),(∀(j:Nat) k v,kvs[j]?=some (k,v)->∃t,f[j]?=some t/\H t=some (.tup [kV k,v]))->
    ∃more:List (Key×Value),KV kvs more/\∀(j:Nat) m d,more[j]?=some (m,d)->∃t a,f[j]?=some t/\IsTup s.heap t #[a,d]/\(Al X.prog X.w).is m a=true:=by
   intro kvs
   induction kvs with
   |nil=>exact fun f _=>⟨[],.nil,fun j m d e=>by simp at e⟩
   |cons p r ih=>
    intro f h;obtain⟨k,v⟩:=p;obtain⟨t,e1,e2⟩:=h 0 k v rfl;obtain⟨a,d,a1,a2,a3⟩:=E t k v e2;obtain⟨more,b1,b2⟩:=ih f.tail (fun j k v e=>by
     obtain⟨t,c1,c2⟩:=h (j+1) k v (by simpa using e);exact⟨t,by rw[List.getElem?_tail];exact c1,c2⟩)
    refine⟨(k,d)::more,.cons ⟨rfl,a3⟩ b1,fun j m S e=>?_⟩;cases j with
    |zero=>
     have e:(k,d)=(m,S):=by simpa using e
     cases e;exact⟨t,a,e1,a1,a2⟩
    |succ j=>
     obtain⟨t,a,c1,c2,c3⟩:=b2 j m S (by simpa using e);exact⟨t,a,by rw[List.getElem?_tail]at c1;exact c1,c2,c3⟩
  exact gen kvs f hp
 obtain⟨J,hm⟩:=G;have T:n.length=f.length:=by rw[<-rv.length,List.length_map]
 have U:∀(j:Nat) t,f[j]?=some t->n.toArray[j]?=some (.ref t):=fun j t e=>by
  obtain⟨u,D,h2⟩:=rv.get (show(f.map V.ref)[j]?=some (.ref t)by rw[List.getElem?_map,e];rfl);cases h2;simpa using D
 show codeAny _ _ (.builtin "dict.update.loop" ⟨[.ref s.heap.objs.size,.ref D.objs.size,rawInt ((0:Nat):Int),.none],[]⟩) _ _;refine Tf (knd:=Al X.prog X.w) (l:=l) (items:=n.toArray) (more:=more) M (Nat.ne_of_lt (Nat.lt_trans R y)) (Nat.ne_of_lt y) (Nat.ne_of_gt R) (by rw[List.size_toArray,T,hlen];exact J.length) (by rw[<-J.length];lia) more.length 0 _ (by simp) (Nat.zero_le _)
  ⟨_,Heap.get?_push_size _ rfl,rfl,rfl⟩ ⟨W,Heap.get?_push_of_some _ (i _ _ c),x,nl,C⟩ ⟨od,es,ep,Heap.get?_push_of_some _ (i _ _ P),rd⟩ (fun j m d e=>?_) (fun h2 kg hd2 fk=>⟨rfl,?_⟩)
 ·obtain⟨t,a,c1,⟨ot,c2,kh⟩,c3⟩:=hm j m d e;have:t<s.heap.objs.size:=Heap.lt_size c2;exact⟨t,a,U j t c1,Nat.ne_of_lt this,Nat.ne_of_lt (Nat.lt_trans this y),⟨ot,Heap.get?_push_of_some _ (O _ _ c2),kh⟩,c3⟩
 ·have YF:(CY [] kvs).length<=sizeLine:=by
   have:=DJ kvs [];exact An (by simp at this;lia)
  refine⟨.ref s.heap.objs.size,_,I.laid (t':=kg) (fun b o e=>?_) (Nat.le_refl _) (IG YF (beq_eq_false_iff_ne.mpr (Ne.symm (Nat.ne_of_lt I.big))) (KV.merge J .nil) hd2),rfl,q _ I.fresh⟩;have:=Heap.lt_size e;exact fk b o (Nat.ne_of_lt this) (Nat.ne_of_lt (Nat.lt_trans this y)) (Heap.get?_push_of_some _ (O _ _ e))
end
section
variable{X:Cx}
theorem Vb{a:Expr}{f:TA}{p pos:Pos}(l:Gl X "range")(m:X.mg "range"=none)(n:PA X [a] f)(u:starEach [a] X.env=[(false,eval a X.env)]:=by rfl):
  PE X (.Call (.Name "range" p) [a] [] pos) (fun d H Q=>f d H fun g c=>∃j:Int,g=[.int j]/\∀r,c r=none->Q (.ref r) (upd c r (.aE 0 j))):=by
 intro pins s d H Q I h;refine Call_ (El I l m boot_range (PyProof.Rows.callWith_type1 (BK (n pos pins s d H _ I h) fun z i v=>v.elim fun g c k w x=>?_) u rfl));obtain⟨j,e,q⟩:=x;subst e;cases w with
 |cons r y=>
  cases y;obtain⟨t,rfl⟩:=r;exact call_range_1 ⟨.ref i.heap.objs.size,upd c i.heap.objs.size (.aE 0 j),k.laid (fun b o e=>Heap.get?_push_of_some _ e) (Nat.le_refl _) ⟨_,_,_,Heap.get?_push_size _ rfl⟩,rfl,q _ k.fresh⟩
inductive IJ(xs:List V)(H:Hp)(Q:VK):Prop
 |mk(r:Addr)(n:Nat)(a:xs=[.ref r])(b:H r=some (.aE 0 (n:Int)))(c:n<=1000)(d:∀l,H l=none->Q (.ref l) (upd H l (.lst ((List.range n).map fun(i:Nat)=>V.int (i:Int)))))
def JH:List V->Hp->VK->Prop:=fun a H Q=>IJ a H Q
theorem LO(o:X.calm=true):Bh X (.type "list") JH:=by
 intro pins s K H L M Q I r h;obtain⟨g,n,rfl,p,x,q⟩:=h;obtain⟨u,rfl,y⟩:=vals1 r;cases y;obtain⟨t,u,v,e⟩:=(show A_ X.prog X.w H s.heap g (.aE 0 (n:Int))from I.Ax g _ p);have f:X.A.handled=none:=I.ok.hd o;refine call_list_range (n:=n) f e (small_one (by lia) (by lia) (by lia) (by lia)) (by rw[rangeSize_one];split<;>lia) (by lia) fun B C b D E F j=>?_;have G:((List.range n).map fun(i:Nat)=>V.int (i:Int)).length<=sizeLine:=by rw[List.length_map,List.length_range];exact An x
 refine⟨.ref s.heap.objs.size,_,I.laid (t':=C) E (Nat.le_refl _) (show A_ X.prog X.w _ B _ (.lst _)from⟨G,b.toList,D,?_,by rw[Array.toArray_toList];exact F⟩),rfl,q _ I.fresh⟩;have gen:∀(n:Nat)(l:List Value),l.length=n->(∀(i:Nat) v,l[i]?=some v->∃t,v=Value.int (0+(i:Int)*1) t)->Vals ((List.range n).map fun(i:Nat)=>V.int (i:Int)) l:=by
  intro n
  induction n with
  |zero=>intro l c _;rw[List.eq_nil_of_length_eq_zero c];exact .nil
  |succ n J=>
   intro l c k;have a:l≠[]:=fun z=>by rw[z]at c;cases c
   have m:l=l.dropLast++[l.getLast a]:=(List.dropLast_concat_getLast a).symm;rw[List.range_succ,List.map_append,m];refine(J l.dropLast (by rw[List.length_dropLast,c];rfl) fun i v d=>?_).append (.cons ?_ .nil)
   ·refine k i v ?_;rw[m,List.getElem?_append_left ((yo d).1)];exact d
   ·have:l[n]?=some (l.getLast a):=by
     rw[List.getLast_eq_getElem];have:l.length-1=n:=by lia
     rw[yn (by lia)];congr 1;simp[this]
    obtain⟨t,e⟩:=k n _ this;exact⟨t,by rw[e];congr 1;lia⟩
 exact gen n b.toList (by rw[Array.length_toList];exact j.1) fun i v d=>j.2 i v (by rw[<-Array.getElem?_toList];exact d)
inductive HK(xs:List V)(H:Hp)(Q:VK):Prop
 |mk(a kvs:_)(b:xs=[.ref a])(c:Rd H a (.dK kvs))(d:∀p,H p=none->Q (.ref p) (upd H p (.dK kvs)))
def IK:List V->Hp->VK->Prop:=fun a H Q=>HK a H Q
theorem KC:Bh X (.type "dict") IK:=by
 intro pins s f H g i Q I r h;obtain⟨a,kvs,rfl,b,q⟩:=h;obtain⟨u,rfl,c⟩:=vals1 r;cases c;exact VE I b fun p j d e=>⟨.ref p,_,e,rfl,q p d⟩
end
theorem Qj:∀a b:List Nat,ltCps a b=false->ltCps b a=false->a=b
 |[],[],_,_=>rfl
 |[],y::t,h,_=>by simp[ltCps]at h
 |x::r,[],_,h=>by simp[ltCps]at h
 |x::r,y::t,c,d=>by
  simp only[ltCps,Bool.or_eq_false_iff,decide_eq_false_iff_not,Bool.and_eq_false_iff]at c d;have e:x=y:=by lia
  subst e;simp at c d;rw[Qj r t c d]
theorem Zd:∀a b c:List Nat,ltCps a b=true->ltCps b c=true->ltCps a c=true
 |[],[],c,h,_=>by simp[ltCps]at h
 |[],y::t,[],_,h=>by simp[ltCps]at h
 |[],y::t,z::u,_,_=>by simp[ltCps]
 |x::r,[],c,h,_=>by simp[ltCps]at h
 |x::r,y::t,[],_,h=>by simp[ltCps]at h
 |x::r,y::t,z::u,d,e=>by
  simp only[ltCps,Bool.or_eq_true,decide_eq_true_eq,Bool.and_eq_true,beq_iff_eq]at d e⊢;rcases d with d|⟨d,f⟩<;>rcases e with e|⟨e,g⟩
  ·left;lia
  ·left;lia
  ·left;lia
  ·right;exact⟨by lia,Zd r t u f g⟩
theorem fm(a b c:List Nat)(g:ltCps b a=false)(d:ltCps c b=false):ltCps c a=false:=by
 cases e:ltCps c a with
 |false=>rfl
 |true=>
  cases f:ltCps a b with
  |true=>rw[Zd c a b e f]at d;cases d
  |false=>rw[Qj a b f g]at e;rw[e]at d;cases d
theorem Lo:∀(p:Str)(l:List Str),risingS p l=true->(∀x∈l,ltCps x.cps.toList p.cps.toList=false)/\l.Pairwise fun a b=>ltCps b.cps.toList a.cps.toList=false
 |_,[],_=>⟨fun x c=>(nomatch c),.nil⟩
 |p,y::r,h=>by
  simp only[risingS,Bool.and_eq_true,Bool.not_eq_true']at h;obtain⟨d,e⟩:=Lo y r h.2;refine⟨fun x c=>?_,.cons d e⟩;rcases List.mem_cons.mp c with rfl|c
  ·exact h.1
  ·exact fm _ _ _ h.1 (d x c)
theorem KD{l:List Str}(h:sortedS l=true):l.Pairwise fun a b=>ltCps b.cps.toList a.cps.toList=false:=by
 cases l with
 |nil=>exact .nil
 |cons x r=>obtain⟨c,d⟩:=Lo x r h;exact .cons c d
variable{y:Str}
theorem YG{x:Str}(h:x.cps.toList=y.cps.toList):x=y:=by
 cases x;cases y;simp only at h;congr 1;exact Array.toList_inj.mp h
theorem KG:∀{a b:List Str},(a.Pairwise fun a b=>ltCps b.cps.toList a.cps.toList=false)->(b.Pairwise fun a b=>ltCps b.cps.toList a.cps.toList=false)->a.Perm b->a=b
 |[],b,_,_,p=>(List.nil_perm.mp p).symm
 |x::r,[],_,_,p=>by have:=p.length_eq;simp at this
 |x::r,y::t,f,g,p=>by
  obtain⟨a1,a2⟩:=List.pairwise_cons.mp f;obtain⟨h,i⟩:=List.pairwise_cons.mp g;have e:x=y:=by
   have c:x∈y::t:=p.mem_iff.mp List.mem_cons_self;have d:y∈x::r:=p.mem_iff.mpr List.mem_cons_self;rcases List.mem_cons.mp c with c|c
   ·exact c
   ·rcases List.mem_cons.mp d with d|d
    ·exact d.symm
    ·exact YG (Qj _ _ (h x c) (a1 y d))
  subst e;rw[KG a2 i (List.Perm.cons_inv p)]
theorem EA{a b:List Str}(c:sortedS a=true)(d:sortedS b=true)(p:a.Perm b):a=b:=KG (KD c) (KD d) p
namespace Dc
mutual
noncomputable def deep:Dc->Nat
 |leaf _=>1
 |row _ xs=>1+AJ xs
 |tab _ _ xs=>1+AJ xs
noncomputable def AJ:List Dc->Nat
 |[]=>0
 |x::r=>max (deep x) (AJ r)
end
mutual
noncomputable def parts:Dc->List Dc
 |leaf v=>[leaf v]
 |row a xs=>row a xs::Qk xs
 |tab a ks xs=>tab a ks xs::Qk xs
noncomputable def Qk:List Dc->List Dc
 |[]=>[]
 |x::r=>parts x++Qk r
end
mutual
def EH:Dc->Dc->Prop
 |leaf v,leaf w=>v=w
 |row _ xs,row _ ys=>Cw xs ys
 |tab _ ks xs,tab _ ls ys=>ks=ls/\Cw xs ys
 |_,_=>False
def Cw:List Dc->List Dc->Prop
 |[],[]=>True
 |x::r,y::t=>EH x y/\Cw r t
 |_,_=>False
end
theorem Lp:∀{xs ys:List Dc},Cw xs ys->∀(i:Nat) x,xs[i]?=some x->∃y,ys[i]?=some y/\EH x y
 |[],_,_,i,x,e=>by simp at e
 |x::r,[],h,_,_,_=>by simp[Cw]at h
 |x::r,y::t,h,0,z,e=>by simp only[Cw]at h;simp at e;subst e;exact⟨y,rfl,h.1⟩
 |x::r,y::t,h,i+1,z,e=>by simp only[Cw]at h;simp at e;obtain⟨w,a,b⟩:=Lp h.2 i z e;exact⟨w,by simpa using a,b⟩
noncomputable def kids:Dc->List Dc
 |leaf _=>[]
 |row _ xs=>xs
 |tab _ _ xs=>xs
theorem Ql{xs ys:List Dc}(p:xs.Perm ys):AI xs=AI ys:=by
 induction p with
 |nil=>rfl
 |cons x _ a=>simp only[AI,a]
 |swap x y l=>simp only[AI];lia
 |trans _ _ b c=>exact b.trans c
def YH:Dc->List V->Prop
 |leaf _,l=>l=[]
 |row _ xs,l=>l=(List.range xs.length).map fun(i:Nat)=>V.int (i:Int)
 |tab _ ks _,l=>∃ss:List Str,l=ss.map V.str/\ss.Perm ks/\sortedS ss=true
end Dc
structure OX(H H':Hp)(d:Dc):Prop where
 same:AF H H'
 at_:d.At H'
 nd:d.addrs.Nodup
 own:∀a∈d.addrs,∀o u,H' a≠some (.Ba o u)
 new:∀a∈d.addrs,H a=none
variable{H:Hp}{D:Ends}
theorem Rw{c:TT}{h:TS}{a:St}(W:Nat->St->Hp->Prop)(i:Nat)(k:W i a H)(l:∀m a H,W m a H->c a H fun b e=>if b=true then h {D with nx:=fun d g=>∃f,f<m/\W f d g,ct:=fun d g=>∃f,f<m/\W f d g,bk:=D.nx} a e else D.nx a e)(mono:∀a H Q j,(∀b e,Q b e->j b e)->c a H Q->c a H j):Ul c h D a H:=by
 refine⟨W,⟨i,k⟩,fun m a H p=>?_⟩;refine mono a H _ _ (fun b e q=>?_) (l m a H p);cases b with
 |true=>exact⟨_,fun d g z=>z,q⟩
 |false=>exact q
inductive Vc(vs:List V)(H:Hp)(Q:VK)(a:XK):Prop
 |mk(d:Dc)(b:vs=[d.val])(c:d.At H)(e:d.slim)(f:d.size<=900)(g:∀(p:Addr) (l:List V) (H':Hp),AF H H'->H p=none->H' p=some (.lst l)->d.YH l->Q (.ref p) H')
def Mn:Sp:=fun b H Q a=>Vc b H Q a
def back(a:Addr)(H H':Hp):Hp:=fun b=>if b=a then H a else H' b
variable{H':Hp}{b a:Addr}
theorem Cy(h:b≠a):back a H H' b=H' b:=if_neg h
theorem Eu:back a H H' a=H a:=if_pos rfl
theorem OY{u:HO}(e:H a=some u):back a H H'=upd H' a u:=by
 funext b;unfold back upd;split
 ·exact e
 ·rfl
theorem Eb(e:H a=H' a):back a H H'=H':=by
 funext b;unfold back;split
 ·rename_i h;rw[h,e]
 ·rfl
structure Qm(a:Addr)(o:Obj)(kvs:List (Key×V))(H Hf:Hp):Prop where
 at_:Hf a=some (.Ba o (.dK kvs))
 rd:FH H Hf
 ne:∀b,b≠a->Hf b=H b
 rY:Rd H a (.dK kvs)
variable{c:Hp}
theorem Qm.free{o:Obj}{kvs:List (Key×V)}(F:Qm a o kvs H c)(h:c b=none):H b=none/\b≠a:=by
 have d:b≠a:=fun z=>by rw[z,F.at_]at h;cases h
 rw[F.ne b d]at h;exact⟨h,d⟩
theorem Qm.back{o:Obj}{kvs:List (Key×V)}{d f:Hp}(F:Qm a o kvs H d)(s:AF d f):AF H (back a H f):=fun b u e=>by
 by_cases c:b=a
 ·subst c;rw[Eu];exact e
 ·rw[Cy c];exact s b u (by rw[F.ne b c];exact e)
inductive YI(t:TE)(c:St)(H:Hp)(Q:VK):Prop
 |mk(a kvs:_)(d:Rd H a (.dK kvs))(e:∀o b,Qm a o kvs H b->t c b fun v H'=>H' a=some (.Ba o (.dK kvs))/\Q v (back a H H'))
def bD(t:TE):TE:=fun a H Q=>YI t a H Q
inductive YJ(t:TS)(D:Ends)(b:St)(H:Hp):Prop
 |mk(a kvs:_)(d:Rd H a (.dK kvs))(e:∀o c,Qm a o kvs H c->t ⟨fun b H'=>H' a=some (.Ba o (.dK kvs))/\D.nx b (back a H H'),fun v H'=>H' a=some (.Ba o (.dK kvs))/\D.rt v (back a H H'),fun b H'=>H' a=some (.Ba o (.dK kvs))/\D.bk b (back a H H'),fun b H'=>H' a=some (.Ba o (.dK kvs))/\D.ct b (back a H H')⟩ b c)
def bE(t:TS):TS:=fun D a H=>YJ t D a H
theorem Qm.of{o:Obj}{kvs:List (Key×V)}(e:H a=some (.dK kvs)):Qm a o kvs H (upd H a (.Ba o (.dK kvs))):=⟨AD,FH.Ba e,fun b c=>AH c,.inl e⟩
theorem Qm.same{o:Obj}{kvs:List (Key×V)}(e:H a=some (.Ba o (.dK kvs))):Qm a o kvs H H:=⟨e,fun _ _ r=>r,fun _ _=>rfl,.inr ⟨o,e⟩⟩
section
variable{X:Cx}
theorem Mo{e:Expr}{t:TE}(h:PE X e t):PE X e (bD t):=by
 rintro pins s c H Q I ⟨a,kvs,r,d⟩;rcases r with r|⟨o,r⟩
 ·refine bA h pins s c H Q I ⟨a,kvs,r,fun o=>?_⟩;have:=d o _ (Qm.of r);have e:(fun v b=>b a=some (.Ba o (.dK kvs))/\Q v (back a H b))=fun v=>Mm a o kvs (Q v):=by
   funext v b;unfold Mm;rw[OY r]
  rw[e]at this;exact this
 ·refine BK (h pins s c H _ I (d o H (Qm.same r))) fun u l ⟨v,g,i,j,k,f⟩=>⟨v,g,i,j,?_⟩;rw[Eb (r.trans k.symm)]at f;exact f
theorem Mp{st:Stmt}{t:TS}(h:PS X st t):PS X st (bE t):=by
 rintro pins s m H D I ⟨a,kvs,r,n⟩;rcases r with r|⟨o,r⟩
 ·refine bB h pins s m H D I ⟨a,kvs,r,fun o=>?_⟩;have:=n o _ (Qm.of r);have e:∀k:Hp->Prop,(fun j=>j a=some (.Ba o (.dK kvs))/\k (back a H j))=Mm a o kvs k:=fun k=>by
   funext j;unfold Mm;rw[OY r]
  simp only[<-e];exact this
 ·refine BK (h pins s m H _ I (n o H (Qm.same r))) fun f q i=>?_;cases f with
  |next=>obtain⟨b,l,d,g,c⟩:=i;rw[Eb (r.trans g.symm)]at c;exact⟨b,_,d,c⟩
  |brk=>obtain⟨b,l,d,g,c⟩:=i;rw[Eb (r.trans g.symm)]at c;exact⟨b,_,d,c⟩
  |cont=>obtain⟨b,l,d,g,c⟩:=i;rw[Eb (r.trans g.symm)]at c;exact⟨b,_,d,c⟩
  |ret u=>obtain⟨v,b,l,d,p,g,c⟩:=i;rw[Eb (r.trans g.symm)]at c;exact⟨v,b,_,d,p,c⟩
end
theorem JT{J:It}{o:TE}{fs:List Nat}{q:St}{Q:VK}(n:Nat)(item:Nat->V)(P:Addr->Nat->Hp->Prop)(s:∀D,H D=none->P D 0 (upd H D (.lst [])))(h:∀D i H2,i<n->P D i H2->J.go i H2)(t:∀D i H2 v H',i<n->P D i H2->J.N_ i H2 v H'->v=item i/\H'=H2)(j:∀D H2,P D n H2->J.stop n H2)(u:∀D i H2,H D=none->i<n->P D i H2->o (some (item i)::Bq q fs) H2 fun y d=>∃ys,d D=some (.lst ys)/\ys.length<sizeLine/\P D (i+1) (upd d D (.lst (ys++[y]))))(w:∀D H2,H D=none->P D n H2->Q (.ref D) H2):Er J Mg o fs q H Q:=by
 intro D k;refine⟨fun i m H2=>m=n-i/\i<=n/\P D i H2,⟨n,rfl,Nat.zero_le _,s D k⟩,?_⟩;rintro i m H2 ⟨rfl,x,p⟩;by_cases f:i<n
 ·refine .inr ⟨h D i H2 f p,fun v r y=>?_⟩;obtain⟨rfl,rfl⟩:=t D i H2 v r f p y;unfold Mg;dsimp only;rw[if_pos rfl];have g:=u D i r k f p;have e:(fun(y:V)(d:Hp)=>∃ys,d D=some (.lst ys)/\ys.length<sizeLine/\∃l,l<n-i/\l=n-(i+1)/\i+1<=n/\P D (i+1) (upd d D (.lst (ys++[y]))))=fun y d=>∃ys,d D=some (.lst ys)/\ys.length<sizeLine/\P D (i+1) (upd d D (.lst (ys++[y]))):=by
   funext y d;refine propext ⟨fun⟨ys,a,b,l,_,_,_,c⟩=>⟨ys,a,b,c⟩,fun⟨ys,a,b,c⟩=>⟨ys,a,b,n-(i+1),by lia,rfl,f,c⟩⟩
  rw[<-e]at g;exact g
 ·have e:i=n:=by lia
  subst e;exact .inl ⟨j D H2 p,w D H2 k p⟩
structure Mq(H H':Hp)(es:List Dc):Prop where
 same:AF H H'
 at_:Dc.Ht H' es
 nd:(Dc.Ay es).Nodup
 own:∀a∈Dc.Ay es,∀o u,H' a≠some (.Ba o u)
 new:∀a∈Dc.Ay es,H a=none
theorem Mq.nil{H H':Hp}(s:AF H H'):Mq H H' []:=⟨s,trivial,.nil,fun a h=>(nomatch h),fun a h=>(nomatch h)⟩
theorem Ew:∀(more kvs:List (Key×V)),((kvs++more).map (·.1)).Nodup->CY kvs more=kvs++more
 |[],kvs,_=>by simp[CY]
 |p::r,kvs,h=>by
  have a:BQ kvs p.1=none:=by
   cases e:BQ kvs p.1 with
   |none=>rfl
   |some v=>
    have:=Mf e;rw[List.map_append,List.map_cons]at h;obtain⟨_,_,b⟩:=List.nodup_append.mp h;exact absurd rfl (b p.1 this p.1 List.mem_cons_self)
  show CY (putK kvs p.1 p.2) r=_;rw[OI p.2 a,Ew r (kvs++[(p.1,p.2)]) (by simpa using h)];simp
namespace Dc
theorem Vd{nm:Str}{x:Dc}:∀(ks:List Str)(xs:List Dc)(i:Nat),ks.Nodup->ks[i]?=some nm->xs[i]?=some x->(ks.zip xs).lookup nm=some x
 |[],_,_,_,h,_=>by simp at h
 |y::r,[],_,_,_,h=>by simp at h
 |y::r,z::t,0,_,b,c=>by simp at b c;subst b c;simp
 |y::r,z::t,i+1,nd,b,c=>by
  obtain⟨d,e⟩:=List.nodup_cons.mp nd;have a:r[i]?=some nm:=by simpa using b
  have ne:nm≠y:=fun z=>d (z▸yr a);have:(nm==y)=false:=by simpa using ne
  simp only[List.zip_cons_cons,List.lookup_cons,this];exact Vd r t i e a (by simpa using c)
end Dc
def FY(H b:Hp)(c:V):Dc->Prop
 | .leaf v=>c=v/\Dc.Lf v
 | .row _ xs=>∃a,c=.ref a/\b a=some (.lst (xs.map Dc.val))/\H a=none
 | .tab _ ks xs=>∃a,c=.ref a/\b a=some (.dK (Dc.kvs ks xs))/\H a=none
def rootOf(p:V×Dc):Option Addr:=match p.1 with
 | .ref a=>some a
 |_=>none
abbrev roots(ps:List (V×Dc)):List Addr:=ps.filterMap rootOf
variable{ps:List (V×Dc)}
theorem BS{c:Addr}:c∈roots ps↔∃p∈ps,p.1=.ref c:=by
 rw[List.mem_filterMap];constructor
 ·rintro⟨p,b,e⟩;refine⟨p,b,?_⟩;unfold rootOf at e;split at e
  ·rename_i a h;cases e;exact h
  ·cases e
 ·rintro⟨p,b,e⟩;exact⟨p,b,by unfold rootOf;rw[e]⟩
theorem BH(ps a:List (V×Dc)):roots (ps++a)=roots ps++roots a:=List.filterMap_append ..
def BN:List (V×Dc)->List Dc->Prop
 |[],[]=>True
 |p::ps,e::a=>e.val=p.1/\Dc.EH p.2 e/\BN ps a
 |_,_=>False
theorem BN.split:∀{ps a:List (V×Dc)}{b:List Dc},BN (ps++a) b->∃c ec,b=c++ec/\BN ps c/\BN a ec
 |[],a,b,h=>⟨[],b,rfl,trivial,h⟩
 |p::ps,a,[],h=>by simp[BN]at h
 |p::ps,a,e::b,h=>by
  simp only[List.cons_append,BN]at h;obtain⟨c,ec,rfl,d,f⟩:=BN.split h.2.2;exact⟨e::c,ec,rfl,by simp only[BN];exact⟨h.1,h.2.1,d⟩,f⟩
theorem BN.app:∀{ps a:List (V×Dc)}{b ec:List Dc},BN ps b->BN a ec->BN (ps++a) (b++ec)
 |[],a,[],ec,_,h=>h
 |[],_,_::_,_,h,_=>by simp[BN]at h
 |_::_,_,[],_,h,_=>by simp[BN]at h
 |p::ps,a,e::b,ec,h,h'=>by
  simp only[BN,List.cons_append]at h⊢;exact⟨h.1,h.2.1,BN.app h.2.2 h'⟩
theorem BN.vals:∀{ps:List (V×Dc)}{a:List Dc},BN ps a->a.map Dc.val=ps.map (·.1)
 |[],[],_=>rfl
 |[],_::_,h=>by simp[BN]at h
 |_::_,[],h=>by simp[BN]at h
 |p::ps,e::a,h=>by
  simp only[BN]at h;simp only[List.map_cons,h.1,BN.vals h.2.2]
theorem BN.Ve:∀{ps:List (V×Dc)}{a:List Dc},BN ps a->Dc.Cw (ps.map (·.2)) a
 |[],[],_=>by simp[Dc.Cw]
 |[],_::_,h=>by simp[BN]at h
 |_::_,[],h=>by simp[BN]at h
 |p::ps,e::a,h=>by
  simp only[BN]at h;simp only[List.map_cons,Dc.Cw];exact⟨h.2.1,BN.Ve h.2.2⟩
structure Ec(H Hi:Hp)(L:Addr)(tv:V)(d:Dc)(ps:List (V×Dc)):Prop where
 same:AF H Hi
 nL:H L=none
 eL:Hi L=some (.lst (ps.map (·.1)))
 out:∀p∈ps,FY H Hi p.1 p.2
 src:∀p∈ps,p.2.At H/\p.2.slim
 nd:(roots ps).Nodup
 Tg:L∉roots ps
 bF:∀(es:List Dc)(H':Hp),BN ps es->Mq H H' es->(∀c∈Dc.Ay es,Hi c=none∨c∈roots ps)->(∀b o,b≠L->b∉roots ps->Hi b=some o->H' b=some o)->∃e:Dc,e.val=tv/\Dc.EH d e/\OX H H' e
theorem FY.root{f:Hp}{p:V×Dc}{c:Addr}(o:FY H f p.1 p.2)(e:p.1=.ref c):f c≠none/\H c=none/\∀j u,f c≠some (.Ba j u):=by
 obtain⟨v,d⟩:=p;simp only at e;subst e;cases d with
 |leaf v=>
  obtain⟨rfl,h⟩:=(show V.ref c=v/\Dc.Lf v from o);rcases h with⟨i,h⟩|⟨x,h,_⟩<;>cases h
 |row b k=>
  obtain⟨a,e,g,l⟩:=(show∃a,V.ref c=.ref a/\f a=some (.lst (k.map Dc.val))/\H a=none from o);cases e;exact⟨by rw[g];simp,l,fun j u z=>by rw[g]at z;cases z⟩
 |tab b m k=>
  obtain⟨a,e,g,l⟩:=(show∃a,V.ref c=.ref a/\f a=some (.dK (Dc.kvs m k))/\H a=none from o);cases e;exact⟨by rw[g];simp,l,fun j u z=>by rw[g]at z;cases z⟩
variable{H2:Hp}
theorem FY.up{h:Hp}{c:V}{d:Dc}(o:FY H h c d)(k:∀a,c=.ref a->∀u,h a=some u->H2 a=some u):FY H H2 c d:=by
 cases d with
 |leaf v=>exact o
 |row b i=>obtain⟨a,e,f,g⟩:=o;exact⟨a,e,k a e _ f,g⟩
 |tab b j i=>obtain⟨a,e,f,g⟩:=o;exact⟨a,e,k a e _ f,g⟩
variable{L:Addr}
theorem Ec.step{s:Hp}{R:V}{d node:Dc}(C:Ec H s L R d (ps++[(.ref a,node)]))(j:List (V×Dc))(keep:∀b o,b≠a->b≠L->s b=some o->H2 b=some o)(eL:H2 L=some (.lst ((ps++j).map (·.1))))(out:∀p∈j,FY H H2 p.1 p.2)(src:∀p∈j,p.2.At H/\p.2.slim)(Z:(roots j).Nodup)(t:∀c∈roots j,s c=none)(m:H2 a≠none)(own:∀F u,H2 a≠some (.Ba F u))(build:∀(ec:List Dc) (H':Hp),BN j ec->Dc.Ht H' ec->H' a=H2 a->∃e:Dc,e.val=.ref a/\Dc.EH node e/\e.At H'/\e.addrs.Perm (a::Dc.Ay ec)):Ec H H2 L R d (ps++j):=by
 have D:roots (ps++[(V.ref a,node)])=roots ps++[a]:=by rw[BH];rfl
 have nd:=C.nd;rw[D]at nd;obtain⟨G,_,I⟩:=List.nodup_append.mp nd;have Tg:=C.Tg;rw[D]at Tg;have aL:a≠L:=fun z=>Tg (by rw[<-z];simp);have v:a∉roots ps:=fun z=>I a z a (by simp) rfl;have J:=(C.out (.ref a,node) (by simp)).root rfl;have S:∀c∈roots ps,c≠a/\c≠L/\s c≠none:=fun c f=>by
  obtain⟨p,g,e⟩:=BS.mp f;refine⟨fun z=>v (by rw[<-z];exact f),fun z=>Tg (by rw[<-z];simp[f]),?_⟩;exact((C.out p (by simp[g])).root e).1
 refine⟨fun b o e=>?_,C.nL,eL,fun p g=>?_,fun p g=>?_,?_,?_,fun es H' dn A z T=>?_⟩
 ·exact keep b o (Aj e J.2.1) (Aj e C.nL) (C.same b o e)
 ·rcases List.mem_append.mp g with g|g
  ·refine(C.out p (by simp[g])).up fun c e u h=>?_;have:=S c (BS.mpr ⟨p,g,e⟩);exact keep c u this.1 this.2.1 h
  ·exact out p g
 ·rcases List.mem_append.mp g with g|g
  ·exact C.src p (by simp[g])
  ·exact src p g
 ·rw[BH];refine List.nodup_append.mpr ⟨G,Z,fun x E y n e=>?_⟩;subst e;exact(S x E).2.2 (t x n)
 ·rw[BH];intro h;rcases List.mem_append.mp h with h|h
  ·exact Tg (by simp[h])
  ·have:=t L h;rw[C.eL]at this;cases this
 ·obtain⟨k,ec,rfl,d1,d2⟩:=dn.split;have U:a∉roots (ps++j):=by
   rw[BH];intro h;rcases List.mem_append.mp h with h|h
   ·exact v h
   ·exact J.1 (t a h)
  have B:H' a=H2 a:=by
   cases e:H2 a with
   |none=>exact absurd e m
   |some o=>exact T a o aL U e
  obtain⟨CD,at2⟩:=(Dc.Et _ _).mp A.at_;obtain⟨e,ev,el,ea,W⟩:=build ec H' d2 at2 B;have i:a∉Dc.Ay (k++ec):=fun h=>by
   rcases z a h with h|h
   ·exact m h
   ·exact U h
  have l:Dc.Ay (k++[e])=Dc.Ay k++e.addrs:=by rw[Dc.Cd];simp[Dc.Ay]
  have r:∀c,c∈Dc.Ay (k++[e])->c=a∨c∈Dc.Ay (k++ec):=fun c f=>by
   rw[l]at f;rw[Dc.Cd];rcases List.mem_append.mp f with f|f
   ·exact .inr (List.mem_append_left _ f)
   ·rcases List.mem_cons.mp (W.mem_iff.mp f)with f|f
    ·exact .inl f
    ·exact .inr (List.mem_append_right _ f)
  have K:Mq H H' (k++[e]):=by
   refine⟨A.same,(Dc.Et _ _).mpr ⟨CD,by simp only[Dc.Ht];exact⟨ea,trivial⟩⟩,?_,fun c f=>?_,fun c f=>?_⟩
   ·have X:=A.nd;rw[Dc.Cd]at X i;have:(Dc.Ay k++(a::Dc.Ay ec)).Nodup:=by
     obtain⟨x1,x2,x3⟩:=List.nodup_append.mp X;refine List.nodup_append.mpr ⟨x1,List.nodup_cons.mpr ⟨fun h=>i (List.mem_append_right _ h),x2⟩,fun x E y n M=>?_⟩;subst M;rcases List.mem_cons.mp n with n|n
     ·exact i (List.mem_append_left _ (by rw[<-n];exact E))
     ·exact x3 x E x n rfl
    rw[l];exact((List.Perm.append_left _ W).nodup_iff).mpr this
   ·rcases r c f with rfl|f
    ·intro F u h;rw[B]at h;exact own F u h
    ·exact A.own c f
   ·rcases r c f with rfl|f
    ·exact J.2.1
    ·exact A.new c f
  refine C.bF (k++[e]) H' (d1.app (by simp only[BN];exact⟨ev,el,trivial⟩)) K (fun c f=>?_) (fun b o Y N h=>?_)
  ·rw[D];rcases r c f with rfl|f
   ·exact .inr (by simp)
   ·rcases z c f with h|h
    ·left
     cases q:s c with
     |none=>rfl
     |some o=>
      have O:c≠a:=fun w=>m (by rw[<-w];exact h);have P:c≠L:=fun w=>by rw[w,eL]at h;cases h
      rw[keep c o O P q]at h;cases h
    ·rw[BH]at h;rcases List.mem_append.mp h with h|h
     ·exact .inr (by simp[h])
     ·exact .inl (t c h)
  ·rw[D]at N;have Q:b≠a:=fun w=>N (by simp[w]);refine T b o Y ?_ (keep b o Q Y h);rw[BH];intro w;rcases List.mem_append.mp w with w|w
   ·exact N (by simp[w])
   ·rw[t b w]at h;cases h
theorem Ec.start{i:Hp}{d:Dc}{b:V}(s:AF H i)(l:H L=none)(m:i L=some (.lst [b]))(o:FY H i b d)(h:d.At H)(n:d.slim)(ne:b≠.ref L):Ec H i L b d [(b,d)]:=by
 refine⟨s,l,m,fun p c=>by rw[List.mem_singleton.mp c];exact o,fun p c=>by rw[List.mem_singleton.mp c];exact⟨h,n⟩,?_,?_,fun q u f g z v=>?_⟩
 ·cases b<;>first|exact List.nodup_nil|exact List.nodup_cons.mpr ⟨(fun h=>nomatch h),List.nodup_nil⟩
 ·intro t;obtain⟨p,c,e⟩:=BS.mp t;rw[List.mem_singleton.mp c]at e;exact ne e
 ·cases q with
  |nil=>simp[BN]at f
  |cons e r=>
   cases r with
   |cons _ _=>simp[BN]at f
   |nil=>
    simp only[BN]at f;have j:Dc.Ay [e]=e.addrs:=by simp[Dc.Ay]
    have fa:=g.at_;simp only[Dc.Ht]at fa;have fn:=g.nd;rw[j]at fn;exact⟨e,f.1,f.2.1,g.same,fa.1,fn,fun a k=>g.own a (by rw[j];exact k),fun a k=>g.new a (by rw[j];exact k)⟩
theorem Ec.done{a:Hp}{d:Dc}{f:V}(C:Ec H a L f d []):∃e:Dc,e.val=f/\Dc.EH d e/\OX H a e:=
 C.bF [] a trivial (.nil C.same) (fun c g=>(nomatch g)) fun b o _ _ h=>h
theorem Ec.leaf{H j H2:Hp}{L:Addr}{d:Dc}{n v:V}{ps:List (V×Dc)}(C:Ec H j L n d (ps++[(v,.leaf v)]))(keep:∀b o,b≠L->j b=some o->H2 b=some o)(r:H2 L=some (.lst (ps.map (·.1)))):Ec H H2 L n d ps:=by
 have s:Dc.Lf v:=(show v=v/\Dc.Lf v from C.out (v,.leaf v) (by simp)).2;have k:roots (ps++[(v,Dc.leaf v)])=roots ps:=by
  rw[BH];rcases s with⟨i,rfl⟩|⟨x,rfl,_⟩<;>simp[roots,rootOf]
 have nd:=C.nd;have Tg:=C.Tg;rw[k]at nd Tg;refine⟨fun b o e=>keep b o (Aj e C.nL) (C.same b o e),C.nL,r,fun p f=>?_,fun p f=>C.src p (by simp[f]),nd,Tg,fun l B D a z E=>?_⟩
 ·refine(C.out p (by simp[f])).up fun c e u h=>keep c u (fun w=>Tg ?_) h;rw[<-w];exact BS.mpr ⟨p,f,e⟩
 ·have g:Dc.Ay (l++[.leaf v])=Dc.Ay l:=by rw[Dc.Cd];simp[Dc.Ay,Dc.addrs]
  refine C.bF (l++[.leaf v]) B (D.app (by simp[BN,Dc.val,Dc.EH])) ⟨a.same,(Dc.Et _ _).mpr ⟨a.at_,by simp only[Dc.Ht,Dc.At];exact⟨s,trivial⟩⟩,by rw[g];exact a.nd,by rw[g];exact a.own,by rw[g];exact a.new⟩ (fun c t=>?_) (fun b o y A h=>?_)
  ·rw[g]at t;rw[k];rcases z c t with h|h
   ·left
    cases q:j c with
    |none=>rfl
    |some o=>
     have m:c≠L:=fun w=>by rw[w,r]at h;cases h
     rw[keep c o m q]at h;cases h
   ·exact .inr h
  ·rw[k]at A;exact E b o y A (keep b o y h)
def IL(H:Hp)(Q:VK):Dc->Prop
 | .leaf v=>Q v H
 | .row _ xs=>∀p,H p=none->Q (.ref p) (upd H p (.lst (xs.map Dc.val)))
 | .tab _ ks xs=>∀p,H p=none->Q (.ref p) (upd H p (.dK (Dc.kvs ks xs)))
inductive Vf(vs:List V)(H:Hp)(Q:VK)(a:XK):Prop
 |mk(d:Dc)(b:vs=[d.val])(c:d.At H)(e:IL H Q d)
def Rx:Sp:=fun b H Q a=>Vf b H Q a
inductive Th(vs:List V)(H:Hp)(Q:VK)(a:XK):Prop
 |mk(d:Dc)(b:vs=[d.val])(c:d.At H)(e:d.slim)(f:d.size<=900)(g:∀(d':Dc) (H':Hp),OX H H' d'->Dc.EH d d'->Q d'.val H')
def FZ:Sp:=fun b H Q a=>Th b H Q a
theorem IL.of{j:Hp}{Q:VK}{d:Dc}(s:AF j H)(h:d.At H)(k:∀f g,AF H g->FY j g f d->(∀a,f=.ref a->H a=none)->Q f g):IL H Q d:=by
 cases d with
 |leaf v=>
  refine k v H (AF.refl H) ⟨rfl,h⟩ fun a e=>?_;rcases(show Dc.Lf v from h)with⟨i,rfl⟩|⟨x,rfl,_⟩<;>cases e
 |row b l=>exact fun p c=>k _ _ (AF.new c) ⟨p,rfl,AD,s.free c⟩ fun a e=>by cases e;exact c
 |tab b m l=>exact fun p c=>k _ _ (AF.new c) ⟨p,rfl,AD,s.free c⟩ fun a e=>by cases e;exact c
def EI(ks:List Str)(vs:List V):List (Key×V):=(ks.zip vs).map fun p=>(Sum.inr p.1,p.2)
theorem OZ(ks:List Str)(xs:List Dc):Dc.kvs ks xs=EI ks (xs.map Dc.val):=rfl
variable{ks:List Str}{vs:List V}
theorem Vg(h:ks.length=vs.length):(EI ks vs).length=ks.length:=by
 unfold EI;rw[List.length_map,List.length_zip];lia
theorem KH:∀{ks:List Str}{vs:List V}{j:Nat}{k:Str},ks.length=vs.length->ks.Nodup->ks[j]?=some k->BQ (EI ks vs) (Sum.inr k)=vs[j]?
 |[],_,_,_,_,_,h=>by simp at h
 |y::r,[],_,_,h,_,_=>by simp at h
 |y::r,v::vs,0,k,_,_,h=>by
  simp at h;subst h;exact Bb rfl
 |y::r,v::vs,j+1,k,hl,nd,h=>by
  obtain⟨b,c⟩:=List.nodup_cons.mp nd;have a:r[j]?=some k:=by simpa using h
  have ne:¬(Sum.inr y:Key)=Sum.inr k:=fun z=>b (by rw[Sum.inr.inj z];exact yr a);show BQ ((Sum.inr y,v)::EI r vs) (Sum.inr k)=_;rw[Bc ne,KH (by simpa using hl) c a];simp
theorem Vh{j:Nat}{k:Str}(hl:ks.length=vs.length)(nd:ks.Nodup)(h:ks[j]?=some k)(c:V):putK (EI ks vs) (Sum.inr k) c=EI ks (vs.set j c):=by
 have e:j<vs.length:=by rw[<-hl];exact(yo h).1
 have f:BQ (EI ks vs) (Sum.inr k)=some vs[j]:=by rw[KH hl nd h,yn e]
 unfold putK;rw[if_pos (by rw[Ct,f];rfl)];have gen:∀(ks:List Str)(vs:List V)(j:Nat),ks.length=vs.length->ks.Nodup->ks[j]?=some k->(EI ks vs).map (fun a=>if a.1=Sum.inr k then(a.1,c)else a)=EI ks (vs.set j c):=by
  intro ks
  induction ks with
  |nil=>intro vs j _ _ h;simp at h
  |cons y r g=>
   intro vs j hl nd h;cases vs with
   |nil=>simp at hl
   |cons v vs=>
    obtain⟨b,i⟩:=List.nodup_cons.mp nd;cases j with
    |zero=>
     simp at h;subst h;have l:(EI r vs).map (fun a=>if a.1=Sum.inr y then(a.1,c)else a)=EI r vs:=by
      have:∀p∈EI r vs,(fun a:Key×V=>if a.1=Sum.inr y then(a.1,c)else a) p=id p:=fun p m=>by
       obtain⟨q,n,rfl⟩:=List.mem_map.mp m;have o:q.1∈r:=(List.of_mem_zip n).1;exact if_neg fun z=>b (by rw[<-Sum.inr.inj z];exact o)
      rw[List.map_congr_left this,List.map_id]
     show(if(Sum.inr y:Key)=Sum.inr y then(Sum.inr y,c)else(Sum.inr y,v))::(EI r vs).map _=(Sum.inr y,c)::EI r vs;rw[if_pos rfl,l]
    |succ j=>
     have d:r[j]?=some k:=by simpa using h
     have ne:¬(Sum.inr y:Key)=Sum.inr k:=fun z=>b (by rw[Sum.inr.inj z];exact yr d);show(if(Sum.inr y:Key)=Sum.inr k then(Sum.inr y,c)else(Sum.inr y,v))::(EI r vs).map _=(Sum.inr y,v)::EI r (vs.set j c);rw[if_neg ne,g vs j (by simpa using hl) i d]
 exact gen ks vs j hl nd h
variable{ss:List Str}
theorem reorder{ec:List Dc}(p:ss.Perm ks)(nd:ss.Nodup)(l:ec.length=ss.length):∃a:List Dc,a.Perm ec/\a.length=ks.length/\∀(j t:Nat) k,ks[j]?=some k->ss[t]?=some k->a[j]?=ec[t]?:=by
 have c:∀k∈ks,∃x,(ss.zip ec).lookup k=some x:=fun k q=>let⟨x,h,_⟩:=Dc.LN l.symm (p.mem_iff.mpr q);⟨x,h⟩;have gen:∀ks:List Str,(∀k∈ks,∃x,(ss.zip ec).lookup k=some x)->∃a:List Dc,a.map some=ks.map fun k=>(ss.zip ec).lookup k:=by
  intro ks
  induction ks with
  |nil=>exact fun _=>⟨[],rfl⟩
  |cons k r s=>
   intro h;obtain⟨x,u⟩:=h k List.mem_cons_self;obtain⟨a,d⟩:=s fun v e=>h v (List.mem_cons_of_mem _ e);exact⟨x::a,by simp[d,u]⟩
 obtain⟨a,f⟩:=gen ks c;have b:ec.map some=ss.map fun k=>(ss.zip ec).lookup k:=by
  refine List.ext_getElem? fun i=>?_;rw[List.getElem?_map,List.getElem?_map];cases g:ss[i]? with
  |none=>
   have:ec[i]?=none:=List.getElem?_eq_none_iff.mpr (by rw[l];exact List.getElem?_eq_none_iff.mp g);rw[this];rfl
  |some k=>
   have m:i<ec.length:=by rw[l];exact(yo g).1
   rw[yn m];show some (some ec[i])=some ((ss.zip ec).lookup k);rw[Dc.Vd ss ec i nd g (yn m)]
 refine⟨a,?_,?_,fun j t k w d=>?_⟩
 ·have y:(a.map some).Perm (ec.map some):=by rw[f,b];exact(p.map _).symm
  have A:=y.filterMap id;simpa using A
 ·have:=congrArg List.length f;simpa using this
 ·have n:=congrArg (fun z=>z[j]?) f;simp only[List.getElem?_map,w]at n;have o:=congrArg (fun z=>z[t]?) b;simp only[List.getElem?_map,d]at o;have B:a[j]?.map some=ec[t]?.map some:=n.trans o.symm;cases C:a[j]?<;>cases D:ec[t]?<;>simp_all
theorem Oa{xs ys:List Dc}(p:xs.Perm ys):(Dc.Ay xs).Perm (Dc.Ay ys):=by
 induction p with
 |nil=>exact .refl _
 |cons x _ a=>simp only[Dc.Ay];exact a.append_left _
 |swap x y l=>
  simp only[Dc.Ay,<-List.append_assoc];exact(List.perm_append_comm).append_right _
 |trans _ _ b c=>exact b.trans c
theorem Vi{xs ys:List Dc}(p:xs.Perm ys)(h:Dc.Ht H ys):Dc.Ht H xs:=by
 have gen:∀l:List Dc,(∀x∈l,x.At H)->Dc.Ht H l:=by
  intro l
  induction l with
  |nil=>intro _;trivial
  |cons x r a=>intro h;simp only[Dc.Ht];exact⟨h x List.mem_cons_self,a fun y b=>h y (List.mem_cons_of_mem _ b)⟩
 exact gen xs fun x c=>Dc.F_ h x (p.mem_iff.mp c)
theorem Ob:∀{xs ys:List Dc},xs.length=ys.length->(∀(i:Nat) x y,xs[i]?=some x->ys[i]?=some y->Dc.EH x y)->Dc.Cw xs ys
 |[],[],_,_=>by simp[Dc.Cw]
 |[],_::_,h,_=>by simp at h
 |_::_,[],h,_=>by simp at h
 |x::r,y::t,h,k=>by
  simp only[Dc.Cw];exact⟨k 0 x y rfl rfl,Ob (by simpa using h) fun i a b c d=>k (i+1) a b (by simpa using c) (by simpa using d)⟩
theorem Ti{b:Hp}{d:Dc}{a:V}(c:d.At H)(o:FY H b a d)(e:a=.ref L):b L≠none:=(FY.root (p:=(a,d)) o e).1
variable{i:Nat}
theorem HM{cs:List V}{xs:List Dc}{c:V}{x:Dc}(l:cs.length=i)(a:xs[i]?=some x):(cs++[c]).zip xs=cs.zip xs++[(c,x)]:=by
 induction cs generalizing xs i with
 |nil=>
  cases xs with
  |nil=>simp at a
  |cons y t=>
   simp at l;subst l;simp at a;subst a;simp
 |cons z r b=>
  cases xs with
  |nil=>simp at a
  |cons y t=>
   cases i with
   |zero=>simp at l
   |succ i=>
    simp only[List.cons_append,List.zip_cons_cons];rw[b (by simpa using l) (by simpa using a)]
namespace Dc
theorem fo:∀{xs ys:List Dc},Cw xs ys->∀{k:Str}{x y:Dc},(ks.zip xs).lookup k=some x->(ks.zip ys).lookup k=some y->∃i:Nat,xs[i]?=some x/\ys[i]?=some y:=by
 induction ks with
 |nil=>intro xs ys _ k x y h;simp at h
 |cons z r d=>
  intro xs ys c k x y a b;cases xs with
  |nil=>simp at a
  |cons j xs=>
   cases ys with
   |nil=>simp at b
   |cons l ys=>
    simp only[Cw]at c;simp only[List.zip_cons_cons,List.lookup_cons]at a b;by_cases e:k=z
    ·subst e;simp at a b;exact⟨0,by simp[a],by simp[b]⟩
    ·have:(k==z)=false:=by simpa using e
     rw[this]at a b;obtain⟨i,f,g⟩:=d c.2 a b;exact⟨i+1,by simpa using f,by simpa using g⟩
def ix(ks:List Str)(k:Str):Nat:=ks.findIdx (·==k)
end Dc
namespace Dc
end Dc
namespace Dc
end Dc
section
variable{X:Cx} {CX:Ub} {k:Nat} {f:Addr} {fd:FuncData} {ps:List Str} {ds:List Value} {QD:List V} {sp:Sp} {E:XK} {x:Str} {p pos:Pos} {e:Expr} {es:List Expr} {t:TA} {tf:TE}
theorem Oc(i:PE X (.Name x p) tf)(F:Au X.prog X.w X.K X.mg X.base CX k f fd ps sp)(j:Bi k X.A)(l:PySem.W.keepIn X.K (.ref f)=true)(m:Binds X.K fd ps ds)(n:Vals QD ds)(o:Passes CX X E)(y:PA X (e::es) t)(z:starEach (e::es) X.env=(false,eval e X.env)::starEach es X.env:=by rfl)(b:(backTo pos (starEach es X.env)).any (·.1)=false:=by rfl):
  PE X (.Call (.Name x p) (e::es) [] pos) (fun a H Q=>tf a H fun v c=>v=.ref f/\Lb sp QD E t a c Q):=by
 intro pins s a H Q I h;refine wpAny_Call_Name_kw (BK (i pins s a H _ I h) fun u B ⟨v,C,d,D,G,q⟩=>?_);subst G;cases(show u=Value.ref f from D);refine PySem.W.callWith_K (h₀:=X.base) d.ok.mod.dE l (BK (y pos pins B a C _ d q) fun L M J=>J.elim fun N c g r q=>⟨g.GP,?_⟩) z b;exact QS F j m n o g r q
end
variable{its:List Value}
section
variable{X:Cx} {pins:List (Addr×Obj)} {σ:St} {H:Hp} {s:Shared}
theorem Qn{j:Nat}{u:Value}(g:its[j]?=some u)(h:j<its.toArray.size):its.toArray[j]=u:=by
 have:=(yo g).2;simpa using this
theorem YK{xs:List V}(r:Vals xs its){j:Nat}(h:j<its.toArray.size):∃x,xs[j]?=some x/\RelV x its.toArray[j]:=by
 have e:its.toArray.size=xs.length:=by rw[List.size_toArray];exact r.length.symm
 have a:j<xs.length:=by rw[<-e];exact h
 obtain⟨u,g,b⟩:=r.get (yn a);exact⟨_,yn a,by rw[Qn g h];exact b⟩
end
noncomputable def ki:Key->PyData
 | .inl i=>.int i
 | .inr x=>.str x
mutual
inductive Mr(H:Hp):V->PyData->Prop
 |Ah:Mr H .Ah .none
 |bl (b:Bool):Mr H (.bl b) (.bool b)
 |int (i:Int):Mr H (.int i) (.int i)
 |str (x:Str):Mr H (.str x) (.str x)
 |lst {a:Addr} {xs:List V} {c:List PyData} (h:Rd H a (.lst xs)) (r:GA H xs c):Mr H (.ref a) (.list c)
 |tup {a:Addr} {xs:List V} {c:List PyData} (h:H a=some (.tup xs)) (r:GA H xs c):Mr H (.ref a) (.tuple c)
 |Ar {a:Addr} {kvs:List (Key×V)} {c:List PyData} (h:Rd H a (.dK kvs)) (r:GA H (kvs.map (·.2)) c):Mr H (.ref a) (.dict ((kvs.map fun p=>ki p.1).zip c))
 |FL {v:V} {d:PyData} (r:∀H',AF H H'->∀(P:Program)(w:World)(h:Heap),EN P w H' h->∀u,RelV v u->∃as,Reads h u d as/\∀b∈as,∃o,H' b=some o):Mr H v d
inductive GA(H:Hp):List V->List PyData->Prop
 |nil:GA H [] []
 |cons {x:V} {d:PyData} {xs:List V} {a:List PyData} (h:Mr H x d) (t:GA H xs a):GA H (x::xs) (d::a)
end
theorem Ry{a:Type}{kvs:List (a×V)}{vs:List (a×Value)}(r:KV kvs vs):Vals (kvs.map (·.2)) (vs.map (·.2)):=by
 unfold KV at r
 induction r with
 |nil=>exact .nil
 |cons h _ b=>exact .cons h.2 b
theorem B'{x:V}{r:List V}:Lh (x::r) 0=some x:=Av (j:=0) rfl
theorem CD{x y:V}{r:List V}:Lh (x::y::r) 1=some y:=Av (j:=1) rfl
theorem at2{x y z:V}{r:List V}:Lh (x::y::z::r) 2=some z:=Av (j:=2) rfl
theorem Bx{c:Bool}{A B:Prop}(a:c=true->A)(b:c=false->B):if c=true then A else B:=by
 cases c with
 |true=>exact Cc (a rfl)
 |false=>exact BE (b rfl)
theorem Fb{t u:TS}{b:St}(R:St->Hp->Prop)(k:∀a H',R a H'->u D a H')(h:(∀a H',R a H'->u D a H')->t {D with nx:=u D} b H):QK t u D b H:=h k
def steps(xs:List V):Prop:=∀z∈xs,Dc.ff z
theorem Fc(w:Str):∀ws:List Str,ZW (.str w) (ws.map V.str)=decide (w∈ws)
 |[]=>by simp[ZW]
 |x::ws=>by
  have a:=Fc w ws;simp only[ZW,List.map_cons,List.any_cons]at a⊢;rw[a];by_cases e:w=x
  ·subst e;simp[Uw]
  ·have b:¬x=w:=fun z=>e z.symm;simp[Uw,e,b]
noncomputable def KI:List Value->List Str->Bool
 |[],[]=>true
 | .str x _::us,y::ys=>x==y&&KI us ys
 |_,_=>false
def YL(K:yt)(a:Addr)(ws:List Str):Bool:=match K.lookup a with
 |some o=>o.cls==.type "tuple"&&(match o.data with
  | .seq b _=>decide (b.size<=1000)&&KI b.toList ws
  |_=>false)
 |none=>false
theorem Lq:∀{us:List Value}{ws:List Str},KI us ws=true->Vals (ws.map V.str) us
 |[],[],_=>.nil
 |[],_::_,h=>by simp[KI]at h
 |u::us,[],h=>by cases u<;>simp[KI]at h
 |u::us,y::ys,h=>by
  cases u with
  |str x t=>
   simp only[KI,Bool.and_eq_true,beq_iff_eq]at h;obtain⟨rfl,h⟩:=h;exact .cons ⟨t,rfl⟩ (Lq h)
  |_=>simp[KI]at h
variable{K:yt}
theorem Bg.rZ{ws:List Str}(h:YL K a ws=true)(H:Hp):Bg K H a (ws.map V.str):=by
 unfold YL at h;split at h
 ·rename_i o lk
  simp only[Bool.and_eq_true,beq_iff_eq]at h;obtain⟨c,h⟩:=h;split at h
  ·rename_i b n d
   simp only[Bool.and_eq_true,decide_eq_true_eq]at h;exact .inr ⟨o,b,n,lk,c,d,An h.1,Lq h.2⟩
  ·cases h
 ·cases h
variable{Q:Value->Shared->Prop}{n:Nat}{xs ys:Array Value}{z l1 l2:Addr}
section
variable{prog:Program} {w:World} {A:Around} {E:Value->Shared->Prop} {s:Shared}
abbrev Tj(h:Heap)(z TI TO T:Addr)(f:Bool):Prop:=
 h.get? z=some {cls:=.type "zip",dict:=none,data:=.fields #[rawInt T,.bool f,.bool false,.ref TI,.ref TO],slots:= #[]}
theorem Od{TI TO T:Addr}{f:Bool}{g:Obj}{Q:Bool->Shared->Prop}(d:Tj s.heap z TI TO T f)(h:s.heap.get? T=some g)(e:∀h',Tj h' z TI TO T true->Heap.SameBut z s.heap h'->Q false {s with heap:=h'}):wpAny (model prog w) A (Builtin.SmallTypes.ownedTupleIsFree (.ref z)) Q E s:=by
 unfold Builtin.SmallTypes.ownedTupleIsFree;refine wpAny_bind (wpAny_field d rfl (x:=rawInt T) rfl ?_);show wpAny _ _ (loadIfAlive ((T:Int).toNat)>>=_) _ _ _;rw[Int.toNat_natCast];refine wpAny_bind (PySem.W.kdx_alive h ?_);show wpAny _ _ (field (.ref z) 1>>=_) _ _ _;refine wpAny_bind (wpAny_field d rfl (x:=.bool f) rfl ?_);cases f with
 |true=>
  show wpAny _ _ (pure false) _ _ _;exact wpAny_pure (e s.heap d (Heap.SameBut.refl _ _))
 |false=>
  show wpAny _ _ (setField (.ref z) 1 (.bool true)>>=_) _ _ _;exact wpAny_bind (wpAny_setField_rec d (by simp) fun c a b=>wpAny_pure (e c a b))
theorem LQ{TI TO h i T:Addr}{f:Bool}{F:Obj}{p:Nat}{x y:Value}(D:ZipApart z TI TO h i l1 l2)(q:Tj s.heap z TI TO T f)(G:s.heap.get? T=some F)(r:IsPair s.heap TI (.ref h) (.ref i))(H:s.heap.IsListIter h l1 n)(I:s.heap.IsListIter i l2 p)(t:s.heap.IsList l1 xs)(u:s.heap.IsList l2 ys)(J:xs[n]?=some x)(K:ys[p]?=some y)(L:∀h',Tj h' z TI TO T true->h'.IsListIter h l1 (n+1)->h'.IsListIter i l2 (p+1)->IsPair h' s.heap.objs.size x y->h'.objs.size=s.heap.objs.size+1-> (∀c o,c≠z->c≠h->c≠i->s.heap.get? c=some o->h'.get? c=some o)->Q (.ref s.heap.objs.size) {s with heap:=h'}):
  wpAny (model prog w) A (Builtin.«zip.__next__» ⟨[.ref z],[]⟩) (fun fin M=>∃v,fin=.done (.ret v)/\Q v M) E s:=by
 show wpAny _ _ (field (.ref z) 2>>=_) _ _ _;refine wpAny_bind (wpAny_field q rfl (x:=.bool false) rfl ?_);show wpAny _ _ (field (.ref z) 3>>=_) _ _ _;refine wpAny_bind (wpAny_field q rfl (x:=.ref TI) rfl ?_);refine wpAny_bind (wpAny_seqItems r rfl ?_);show wpAny _ _ (Builtin.SmallTypes.ownedTupleIsFree (.ref z)>>=_) _ _ _;refine wpAny_bind (Od q G fun B j a=>?_);simp only[Bool.false_eq_true,if_false];refine wpAny_bind ?_;rw[<-Array.forIn_toList];show wpAny _ _ (forIn [Value.ref h,Value.ref i] _ _) _ _ _;rw[List.forIn_cons];refine wpAny_bind (wpAny_bind (wpAny_holding ?_));show wpAny _ _ (Builtin.SmallTypes.nextOf (.ref h)>>=_) _ _ _;refine wpAny_bind (wpAny_nextOf_list_item (H.extBut a.extBut D.i1z) (t.extBut a.extBut D.l1z) J fun C k b=>wpAny_pure ?_);refine wpAny_pure ?_;dsimp only;rw[List.forIn_cons];refine wpAny_bind (wpAny_bind (wpAny_holding ?_));show wpAny _ _ (Builtin.SmallTypes.nextOf (.ref i)>>=_) _ _ _;refine wpAny_bind (wpAny_nextOf_list_item ((I.extBut a.extBut D.i2z).extBut b.extBut D.i12.symm) ((u.extBut a.extBut D.l2z).extBut b.extBut D.l2i1) K fun g l d=>wpAny_pure ?_);refine wpAny_pure ?_;dsimp only;rw[List.forIn_nil];refine wpAny_pure ?_;show wpAny _ _ (newTuple [x,y]>>=_) _ _ _;refine wpAny_bind (wpAny_newTuple ?_);have m:g.objs.size=s.heap.objs.size:=by rw[d.1,b.1,a.1]
 refine wpAny_pure ⟨_,rfl,?_⟩;show Q (.ref g.objs.size) _;rw[m];have up:∀c o,c≠z->c≠h->c≠i->s.heap.get? c=some o->(g.push {cls:=.type "tuple",data:=.seq #[x,y]}).get? c=some o:=fun c o c1 c2 c3 e=>
  Heap.get?_push_of_some _ (d.extBut _ _ c3 (b.extBut _ _ c2 (a.extBut _ _ c1 e)))
 refine L _ (Heap.get?_push_of_some _ (d.extBut _ _ D.i2z.symm (b.extBut _ _ D.i1z.symm j))) ((k.extBut d.extBut D.i12).at fun o e=>Heap.get?_push_of_some _ e) (l.at fun o e=>Heap.get?_push_of_some _ e) ?_ (by rw[Heap.size_push,m]) up;have this:(g.push {cls:=.type "tuple",data:=.seq #[x,y]}).get? g.objs.size=some {cls:=.type "tuple",data:=.seq #[x,y]}:=Heap.get?_push_size _ rfl;rw[m]at this;exact this
theorem Ms{TI TO d i T:Addr}{f:Bool}{q:Obj}{Q:Fin->Shared->Prop}(r:A.handled=none)(D:ZipApart z TI TO d i l1 l2)(j:Tj s.heap z TI TO T f)(t:s.heap.get? T=some q)(k:IsPair s.heap TI (.ref d) (.ref i))(u:s.heap.IsListIter d l1 n)(l:s.heap.IsList l1 xs)(g:xs[n]?=none)(v:∀h' e,(∀c o,c≠z->c≠d->s.heap.get? c=some o->h'.get? c=some o)->(∃o,h'.get? e=some o/\o.cls=.type "StopIteration")->E (.ref e) {s with heap:=h'}):
  wpAny (model prog w) A (Builtin.«zip.__next__» ⟨[.ref z],[]⟩) Q E s:=by
 show wpAny _ _ (field (.ref z) 2>>=_) _ _ _;refine wpAny_bind (wpAny_field j rfl (x:=.bool false) rfl ?_);show wpAny _ _ (field (.ref z) 3>>=_) _ _ _;refine wpAny_bind (wpAny_field j rfl (x:=.ref TI) rfl ?_);refine wpAny_bind (wpAny_seqItems k rfl ?_);show wpAny _ _ (Builtin.SmallTypes.ownedTupleIsFree (.ref z)>>=_) _ _ _;refine wpAny_bind (Od j t fun p m a=>?_);simp only[Bool.false_eq_true,if_false];refine wpAny_bind ?_;rw[<-Array.forIn_toList];show wpAny _ _ (forIn [Value.ref d,Value.ref i] _ _) _ _ _;rw[List.forIn_cons];refine wpAny_bind (wpAny_bind (wpAny_holding ?_));show wpAny _ _ (Builtin.SmallTypes.nextOf (.ref d)>>=_) _ _ _;refine wpAny_bind (wpAny_nextOf_list_end r (u.extBut a.extBut D.i1z) (l.extBut a.extBut D.l1z) g fun h e b y=>v h e (fun c o c1 c2 x=>b _ _ c2 (a.extBut _ _ c1 x)) y)
structure bH(h:Heap)(z TI TO i1 i2 l1 l2 S:Addr)(i:Nat)(xs ys:Array Value):Prop where
 st:(i=0/\IsZip h z TI TO .none/\∃a b,IsPair h TO a b)∨∃T f oT,Tj h z TI TO T f/\h.get? T=some oT/\T≠z/\T≠i1/\T≠i2/\T≠S
 ti:IsPair h TI (.ref i1) (.ref i2)
 h1:h.IsListIter i1 l1 i
 h2:h.IsListIter i2 l2 i
 L1:h.IsList l1 xs
 L2:h.IsList l2 ys
theorem bH.keep{h h':Heap}{TI TO d g S:Addr}(x:bH h z TI TO d g l1 l2 S i xs ys)(c:∀b o,b≠S->h.get? b=some o->h'.get? b=some o)(n:z≠S/\TI≠S/\TO≠S/\d≠S/\g≠S/\l1≠S/\l2≠S):bH h' z TI TO d g l1 l2 S i xs ys:=by
 obtain⟨st,k,l,m,p,L2⟩:=x;refine⟨?_,c _ _ n.2.1 k,l.at fun o e=>c _ o n.2.2.2.1 e,m.at fun o e=>c _ o n.2.2.2.2.1 e,p.at fun o e=>c _ o n.2.2.2.2.2.1 e,L2.at fun o e=>c _ o n.2.2.2.2.2.2 e⟩;rcases st with⟨e,j,a,b,q⟩|⟨T,f,r,j,t,t1,t2,t3,t4⟩
 ·exact .inl ⟨e,c _ _ n.1 j,a,b,c _ _ n.2.2.1 q⟩
 ·exact .inr ⟨T,f,r,c _ _ n.1 j,c _ _ t4 t,t1,t2,t3,t4⟩
theorem Vj{TI TO g h S:Addr}{x y:Value}{Q:Option Value->Shared->Prop}(D:ZipApart z TI TO g h l1 l2)(st:bH s.heap z TI TO g h l1 l2 S i xs ys)(v:S<s.heap.objs.size)(q:xs[i]?=some x)(r:ys[i]?=some y)(t:∀h',bH h' z TI TO g h l1 l2 S (i+1) xs ys->IsPair h' s.heap.objs.size x y->h'.objs.size=s.heap.objs.size+1->(∀c o,c≠z->c≠TO->c≠g->c≠h->s.heap.get? c=some o->h'.get? c=some o)->Q (some (.ref s.heap.objs.size)) {s with heap:=h'}):
  wpAny (model prog w) A (pyNext (.ref z)) Q E s:=by
 obtain⟨st,l,n,p,m,L2⟩:=st;have lt:∀{c o},s.heap.get? c=some o->s.heap.objs.size≠c:=fun e=>Nat.ne_of_gt (Heap.lt_size e);have B:s.heap.objs.size≠g:=by obtain⟨_,e,_⟩:=n;exact lt e
 have C:s.heap.objs.size≠h:=by obtain⟨_,e,_⟩:=p;exact lt e
 rcases st with⟨rfl,j,a,b,G⟩|⟨T,f,H,j,u,t1,t2,t3,t4⟩
 ·refine wpAny_pyNext_zip_item D j l G n p m L2 q r fun h' a1 a2 a3 a4 a5 a6 d=>?_;exact t h' ⟨.inr ⟨s.heap.objs.size,false,_,a1,a5,lt j,B,C,Nat.ne_of_gt v⟩,d _ _ D.TIz D.TITO D.TIi1 D.TIi2 l,a3,a4,m.at fun o e=>d _ o D.l1z D.l1TO D.l1i1 D.l1i2 e,L2.at fun o e=>d _ o D.l2z D.l2TO D.l2i1 D.l2i2 e⟩ a5 a6 d
 ·have k:s.TypeIs (.ref z) "zip":=⟨_,j,rfl⟩;unfold pyNext;exact wpAny_bind (wpAny_attempt (wpAny_callSpecial?_slot (name:=Str.ofString "__next__") k F.slot_zip_next (wpAny_call_entry F.slot_zip_next k F.entry_zip_next (LQ D j u l n p m L2 q r fun h' a1 a3 a4 a5 a6 d=>wpAny_pure (t h' ⟨.inr ⟨T,true,H,a1,d _ _ t1 t2 t3 u,t1,t2,t3,t4⟩,d _ _ D.TIz D.TIi1 D.TIi2 l,a3,a4,m.at fun o e=>d _ o D.l1z D.l1i1 D.l1i2 e,L2.at fun o e=>d _ o D.l2z D.l2i1 D.l2i2 e⟩ a5 a6 fun c o c1 _ c3 c4 e=>d c o c1 c3 c4 e)) (F.args_zip_next_1 _))))
theorem Vk{TI TO h j S:Addr}{Q:Option Value->Shared->Prop}(k:A.handled=none)(D:ZipApart z TI TO h j l1 l2)(st:bH s.heap z TI TO h j l1 l2 S i xs ys)(l:xs[i]?=none)(m:∀h',(∀c o,c≠z->c≠TO->c≠h->c≠j->s.heap.get? c=some o->h'.get? c=some o)->Q none {s with heap:=h'}):wpAny (model prog w) A (pyNext (.ref z)) Q E s:=by
 obtain⟨st,n,p,r,q,L2⟩:=st;rcases st with⟨rfl,g,a,b,t⟩|⟨T,f,C,g,u,t1,t2,t3,t4⟩
 ·exact wpAny_pyNext_zip_end k D g n t p r q L2 (.inl l) m
 ·have d:s.TypeIs (.ref z) "zip":=⟨_,g,rfl⟩;unfold pyNext;refine wpAny_bind (wpAny_attempt (wpAny_callSpecial?_slot (name:=Str.ofString "__next__") d F.slot_zip_next (wpAny_call_entry F.slot_zip_next d F.entry_zip_next (Ms k D g u n p q l fun h' e v x=>?_) (F.args_zip_next_1 _))));obtain⟨o,y,B⟩:=x;refine wpAny_bind (wpAny_isInstance (T:="StopIteration") (b:=true) ⟨o,y,B⟩ isSubtype_stop ?_);exact wpAny_pure (m _ fun c o c1 _ c3 _ e=>v c o c1 c3 e)
end
section
variable{prog:Program} {w:World} {A:Around} {s:Shared} {R:Result->Shared->Prop} {xs ys:Array Value}
end
section
variable{prog:Program} {w:World} {A:Around} {E:Value->Shared->Prop} {s:Shared} {xs ys:Array Value}
end
section
variable{X:Cx} {pins:List (Addr×Obj)} {σ:St} {H:Hp} {s:Shared}
end
theorem DM(b:Int)(u:Tok)(l:Addr)(c:Value)(e:Array DictEntry)(n:Nat)(f:Option Addr)(i:Array (Option Value)):
  Meets (Builtin.«int.__eq__» ⟨[.int b u,.ref l],[]⟩) (fun _ R s=>s.heap.get? l=some {cls:=c,dict:=f,data:=.dict e n,slots:=i}/\R (.ok (.ret .notImplemented)) s):=
 .of_wp fun prog w A R s h=>by obtain⟨j,g,d,k,os⟩:=s;obtain⟨a,h⟩:=h;wp_walk using wpAny_loadPart' a,wpAny_load a;exact⟨_,rfl,h⟩
theorem DN(b:Str)(u:Tok)(l:Addr)(c:Value)(e:Array DictEntry)(n:Nat)(f:Option Addr)(i:Array (Option Value)):
  Meets (Builtin.«str.__eq__» ⟨[.str b u,.ref l],[]⟩) (fun _ R s=>s.heap.get? l=some {cls:=c,dict:=f,data:=.dict e n,slots:=i}/\R (.ok (.ret .notImplemented)) s):=
 .of_wp fun prog w A R s h=>by obtain⟨j,g,d,k,os⟩:=s;obtain⟨a,h⟩:=h;wp_walk using wpAny_loadPart' a,wpAny_load a;exact⟨_,rfl,h⟩
variable{f j:Array (Option Value)}{e:Array DictEntry}{items:Array Value}{d g:Option Addr}{l:Addr}{T:String}
section
variable{prog:Program} {w:World} {A:Around} {E:Value->Shared->Prop} {s:Shared}
theorem BZ{d:Addr}{v:Value}(c:s.TypeIs (.ref d) "dict")(e:s.TypeIs v T)(a:isSubtype (.type T) (.type "dict")=pure false)(h:Q .notImplemented s):
  wpAny (model prog w) A (call (.builtin "dict.__eq__") [.ref d,v]) Q E s:=by
 refine wpAny_call_entry PySem.F.slot_dict_eq c PySem.F.entry_dict_eq ?_ (PySem.F.args_dict_eq_2 _ _);show wpAny _ _ (Builtin.Dict.dictSlotArgs "__eq__" ⟨[.ref d,v],[]⟩>>=_) _ _ s;refine wpAny_bind ?_;unfold Builtin.Dict.dictSlotArgs;refine wpAny_bind (wpAny_notOrdered_dict c ?_);show wpAny _ _ (pure (Value.ref d,v)) _ _ s;refine wpAny_pure ?_;refine wpAny_bind (wpAny_isInstance (T:=T) (b:=false) e a ?_);simp only[Bool.not_false,if_true];exact wpAny_bind (wpAny_rule (wpAny_pure ⟨_,rfl,h⟩))
theorem DC(l b:Addr)(items:Array Value)(e:Array DictEntry)(n f:Nat)(i a:Option Addr)(j c:Array (Option Value)):
  Meets (Builtin.«list.__eq__» ⟨[.ref l,.ref b],[]⟩) (fun _ R s=>s.heap.get? l=some {cls:=.type "list",dict:=i,data:=.seq items n,slots:=j}/\s.heap.get? b=some {cls:=.type "dict",dict:=a,data:=.dict e f,slots:=c}/\R (.ok (.ret .notImplemented)) s):=
 .of_wp fun prog w A R s h=>by obtain⟨o,g,d,p,os⟩:=s;obtain⟨k,m,h⟩:=h;have q:=F.sub_dict_list;wp_walk using wpAny_loadPart' k,wpAny_loadPart' m;exact⟨_,rfl,h⟩
structure Ir(h:Heap)(b:Addr)(dd:Option Addr)(es:Array DictEntry)(n:Nat)(sl:Array (Option Value)):Prop where
 ho:h.get? b=some {cls:=.type "dict",dict:=dd,data:=.dict es n,slots:=sl}
theorem Oe(i:Int)(u:Tok)(c:Ir s.heap b d e n f)(g:A.units<cLine):SeqAt.RcAt A s (.int i u) (.ref b) false:=fun prog w E Q h=>
 SeqAt.rc_eq_decline_or (k:=false) (typeIs_int s i u) ⟨_,c.ho,rfl⟩ (by decide) F.sub_dict_int F.slot_int_eq F.slot_dict_eq_refl (fun _ a=>call_meets F.slot_int_eq (typeIs_int s i u) F.entry_int_eq (F.args_int_eq_2 _ _) (DM i u b (.type "dict") e n d f) ⟨c.ho,a⟩) (fun _ a=>BZ ⟨_,c.ho,rfl⟩ (typeIs_int s i u) F.sub_int_dict a) (fun _ a=>wpAny_of_eq (rfl:isSame (.int i u) (.ref b)=pure false) a) (.inr g) h
theorem Of(i:Int)(u:Tok)(c:Ir s.heap b d e n f)(g:A.units<cLine):SeqAt.RcAt A s (.ref b) (.int i u) false:=fun prog w E Q h=>
 SeqAt.rc_eq_decline_or (k:=false) ⟨_,c.ho,rfl⟩ (typeIs_int s i u) (by decide) F.sub_int_dict F.slot_dict_eq F.slot_int_eq_refl (fun _ a=>BZ ⟨_,c.ho,rfl⟩ (typeIs_int s i u) F.sub_int_dict a) (fun _ a=>call_meets F.slot_int_eq_refl (typeIs_int s i u) F.entry_int_eq (F.args_int_eq_2 _ _) (DM i u b (.type "dict") e n d f) ⟨c.ho,a⟩) (fun _ a=>wpAny_of_eq (rfl:isSame (.ref b) (.int i u)=pure false) a) (.inr g) h
theorem Og(x:Str)(u:Tok)(c:Ir s.heap b d e n f)(g:A.units<cLine):SeqAt.RcAt A s (.str x u) (.ref b) false:=fun prog w E Q h=>
 SeqAt.rc_eq_decline_or (k:=false) (typeIs_str s x u) ⟨_,c.ho,rfl⟩ (by decide) F.sub_dict_str F.slot_str_eq F.slot_dict_eq_refl (fun _ a=>call_meets F.slot_str_eq (typeIs_str s x u) F.entry_str_eq (F.args_str_eq_2 _ _) (DN x u b (.type "dict") e n d f) ⟨c.ho,a⟩) (fun _ a=>BZ ⟨_,c.ho,rfl⟩ (typeIs_str s x u) F.sub_str_dict a) (fun _ a=>wpAny_of_eq (rfl:isSame (.str x u) (.ref b)=pure false) a) (.inr g) h
theorem Oh(x:Str)(u:Tok)(c:Ir s.heap b d e n f)(g:A.units<cLine):SeqAt.RcAt A s (.ref b) (.str x u) false:=fun prog w E Q h=>
 SeqAt.rc_eq_decline_or (k:=false) ⟨_,c.ho,rfl⟩ (typeIs_str s x u) (by decide) F.sub_str_dict F.slot_dict_eq F.slot_str_eq_refl (fun _ a=>BZ ⟨_,c.ho,rfl⟩ (typeIs_str s x u) F.sub_str_dict a) (fun _ a=>call_meets F.slot_str_eq_refl (typeIs_str s x u) F.entry_str_eq (F.args_str_eq_2 _ _) (DN x u b (.type "dict") e n d f) ⟨c.ho,a⟩) (fun _ a=>wpAny_of_eq (rfl:isSame (.ref b) (.str x u)=pure false) a) (.inr g) h
theorem Ze{a:Option Addr}{c:Array DictEntry}{d:Array (Option Value)}{h:Heap}(hl:h.IsList l items)(f:Ir h b a c n d):l≠b:=fun e=>by
 subst e;obtain⟨o,ho,g,_⟩:=hl;rw[f.ho]at ho;cases ho;exact absurd g (by simp)
theorem Mt{i:Array DictEntry}(hl:s.heap.IsList l items)(a:Ir s.heap b g i n j)(p:A.units<cLine):SeqAt.RcAt A s (.ref l) (.ref b) false:=fun prog w E Q h=>by
 have d:=Ze hl a;obtain⟨⟨q,e,data,f⟩,ho,m,r,o⟩:=id hl;simp only at m o;subst m o;exact(SeqAt.rc_eq_decline_or (k:=false) ⟨_,ho,rfl⟩ ⟨_,a.ho,rfl⟩ (by decide) F.sub_dict_list F.slot_list_eq F.slot_dict_eq_refl (fun _ c=>call_meets F.slot_list_eq ⟨_,ho,rfl⟩ F.entry_list_eq (F.args_list_eq_2 _ _) (DC l b items i r n e g f j) ⟨ho,a.ho,c⟩) (fun _ c=>BZ ⟨_,a.ho,rfl⟩ ⟨_,ho,rfl⟩ F.sub_list_dict c) (fun _ c=>SeqAt.wpAny_isSame_ref_other' d ho a.ho (by simp) c) (.inr p) h)
theorem Mu{i:Array DictEntry}(hl:s.heap.IsList l items)(a:Ir s.heap b g i n j)(p:A.units<cLine):SeqAt.RcAt A s (.ref b) (.ref l) false:=fun prog w E Q h=>by
 have d:=Ze hl a;obtain⟨⟨q,e,data,f⟩,ho,m,r,o⟩:=id hl;simp only at m o;subst m o;exact(SeqAt.rc_eq_decline_or (k:=false) ⟨_,a.ho,rfl⟩ ⟨_,ho,rfl⟩ (by decide) F.sub_list_dict F.slot_dict_eq F.slot_list_eq_refl (fun _ c=>BZ ⟨_,a.ho,rfl⟩ ⟨_,ho,rfl⟩ F.sub_list_dict c) (fun _ c=>call_meets F.slot_list_eq_refl ⟨_,ho,rfl⟩ F.entry_list_eq (F.args_list_eq_2 _ _) (DC l b items i r n e g f j) ⟨ho,a.ho,c⟩) (fun _ c=>SeqAt.wpAny_isSame_ref_other' d.symm a.ho ho (by simp) c) (.inr p) h)
end
open PySem.AutoSeq1 (wpAny_loadPart')
open PySem.MeetsSeq3
section
variable{prog:Program} {w:World} {A:Around} {s:Shared}
def oR(prog:Program)(w:World)(A:Around)(s:Shared)(u v:Value):Prop:=∀(E:Value->Shared->Prop)(Q:Bool->Shared->Prop),Q true s->wpAny (model prog w) A (eqBool u v) Q E s
def rg(prog:Program)(w:World)(A:Around)(s:Shared)(u v:Value):Prop:=∀(E:Value->Shared->Prop)(Q:Value->Shared->Prop),Q (.bool true) s->wpAny (model prog w) A (richCompare .Eq u v) Q E s
theorem call_one{E:Value->Shared->Prop}{name:Str}{id:String}{B:Builtin}{self:Value}{rest:List Value}(slot:Slot T name id)(c:s.TypeIs self T)(entry:entryFor table id=some B)(args:argsOk id ⟨self::rest,[]⟩)(g:wpAny (model prog w) A.in1 (B ⟨self::rest,[]⟩) (fun fin a=>match fin with| .done f=>wants Q E (.ok f) a| .again b=>b.quiet=true/\codeAny (model prog w) A b (wants Q E) a) (fun e a=>wants Q E (.error e) a) s):
  wpAny (model prog w) A (call (.builtin id) (self::rest)) Q E s:=wpAny_call (codeAny_call_builtin slot.plain entry (slot.check _ _ _ _ _ _ _ _ c args g))
theorem Tn{a:Array Value}(hl:s.heap.IsTuple l items)(G:s.heap.IsTuple b a)(hsz:items.size=a.size)(H:A.units<cLine)(I:∀j (v:j<items.size) (z:j<a.size),oR prog w A.in1 s items[j] a[j]):rg prog w A s (.ref l) (.ref b):=fun E Q h=>by
 obtain⟨⟨J,R,data,S⟩,r,B,n,C⟩:=id hl;obtain⟨⟨D,K,data2,L⟩,f,k,T,m⟩:=id G;simp only at B C k m;subst B C k m;refine wpAny_richCompare_same_room (op:=.Eq) ⟨_,r,rfl⟩ ⟨_,f,rfl⟩ F.slot_tuple_eq (wpAny_call_entry F.slot_tuple_eq ⟨_,r,rfl⟩ F.entry_tuple_eq ?_ (F.args_tuple_eq_2 _ _)) H;obtain⟨M,g,d,N,os⟩:=s;have U:=AutoSeq1.sub_tuple_tuple;wp_walk using wpAny_loadPart' r,wpAny_loadPart' f,wpAny_forIn_list _ (fun rest b t=>b.1=none/\t=⟨M,g,d,N,os⟩/\∃i,rest=(items.toList.zip a.toList).drop i) _
 case turn=>
  rintro⟨y,x⟩ rest b t ⟨c,rfl,i,o⟩;have p:i<(items.toList.zip a.toList).length:=by
   rcases Nat.lt_or_ge i (items.toList.zip a.toList).length with u|u
   ·exact u
   ·rw[List.drop_of_length_le u]at o;cases o
  have v:i<items.size:=by simp at p;lia
  have z:i<a.size:=by lia
  rw[List.drop_eq_getElem_cons p]at o;injection o with q e;have O:y=items[i]:=by have:=congrArg Prod.fst q;simpa using this
  have P:x=a[i]:=by have:=congrArg Prod.snd q;simpa using this
  subst O P;refine wpAny_bind (I i v z _ _ ?_);wp_walk;exact⟨rfl,rfl,i+1,e⟩
 case fin=>
  rintro⟨V,W⟩ t ⟨c,rfl,i,o⟩;simp only at c;subst c;wp_walk;exact⟨_,rfl,(fun x=>nomatch x),by simpa[Builtin.Tuple.tupleCompareSizes,hsz]using h⟩
 case h=>
  exact⟨rfl,rfl,0,rfl⟩
end
class BR(K:outParam yt):Prop where
 x:True
structure GB(H H':Hp):Prop where
 rd:FH H H'
 tp:∀a vs,H a=some (.tup vs)->H' a=some (.tup vs)
theorem GB.of(s:AF H H'):GB H H':=⟨s.r,fun a b e=>s _ _ e⟩
theorem GB.Ba{a:Addr}{o:Obj}{kvs:List (Key×V)}{H c:Hp}(F:Qm a o kvs H c):GB H c:=⟨F.rd,fun b f e=>by
 have d:b≠a:=fun z=>by
  subst z;rcases F.rY with r|⟨o,r⟩<;>rw[r]at e<;>cases e
 rw[F.ne b d];exact e⟩
theorem GB.trans{H d H2:Hp}(a:GB H d)(b:GB d H2):GB H H2:=⟨a.rd.trans b.rd,fun c f e=>b.tp c f (a.tp c f e)⟩
theorem Bg.Lr{xs:List V}(h:Bg K H a xs)(s:GB H H'):Bg K H' a xs:=h.imp (fun r=>s.rd _ _ r) id
theorem Bg.up{xs:List V}(h:Bg K H a xs)(s:AF H H'):Bg K H' a xs:=h.Lr (.of s)
inductive Zf(K:yt)(H:Hp):V->String->Prop where
 |n {v:V} {T:String} (h:Qd H v T):Zf K H v T
 |t {a:Addr} {xs:List V} (h:Bg K H a xs):Zf K H (.ref a) "tuple"
variable{v:V}
theorem Zf.Za(h:Zf K H v T):∃(H':Hp)(a:V),Qd H' a T:=by
 cases h with
 |n h=>exact⟨H,v,h⟩
 |t h=>exact⟨upd H 0 (.tup []),.ref 0,.tup AD⟩
section
variable{X:Cx}
inductive Ed(K:yt)(xs:List V)(H:Hp)(Q:VK):Prop
 |mk(x c T:_)(a:xs=[x,.ty c])(b:YA c=true)(d:Zf K H x T)(e:Q (.bl (VJ T c)) H)
theorem Bl:Bh X (.builtin "isinstance") (Ed X.K):=by
 intro pins s v H i w Q I r h;obtain⟨x,c,T,rfl,j,ty,q⟩:=h;obtain⟨u,y,rfl,g,b⟩:=vals2 r;cases b;obtain⟨A,B,d⟩:=ty.Za;have e:=Rt (K:=X.K) d j;cases ty with
 |n ty=>exact OR I g ty e fun f=>⟨.bl _,H,I.tok f,rfl,q⟩
 |@t a i k=>
  cases(show u=Value.ref a from g);obtain⟨_,_,p,_⟩:=I.tuple k;obtain⟨o,l,m,_⟩:=p;exact PySem.W.kia_one PySem.W.kitx_tuple I.GP ⟨o,l,m⟩ e (fun z=>nomatch z) fun f=>⟨.bl _,H,I.tok f,rfl,q⟩
def Vl(T:String):Bool:=T=="list"||T=="tuple"
theorem bK(h:Qd H v T):PySem.W.kitAny K (.type T) [.type "list",.type "tuple"]=some (Vl T):=by
 cases h<;>kernel_rfl
inductive Vm(K:yt)(xs:List V)(H:Hp)(Q:VK):Prop
 |mk(x:V)(p:Addr)(T:String)(a:xs=[x,.ref p])(b:H p=some (.tup [.ty "list",.ty "tuple"]))(c:Zf K H x T)(d:Q (.bl (Vl T)) H)
theorem Qo:Bh X (.builtin "isinstance") (Vm X.K):=by
 intro pins s G H l J Q I r h;obtain⟨x,p,T,rfl,m,ty,q⟩:=h;obtain⟨u,L,rfl,g,b⟩:=vals2 r;cases b;obtain⟨v,w,y,_⟩:=I.tuple (Bg.of m);obtain⟨⟨A,M,data,N⟩,i,j,n,k⟩:=id y;simp only at j k;subst j k;obtain⟨O,P,c⟩:=ty.Za;have e:=bK (K:=X.K) c;cases w with
 |cons B d=>
  cases d with
  |cons C d=>
   cases d;cases B;cases C;cases ty with
   |n ty=>exact Qf I g ty i e fun f=>⟨.bl _,H,I.tok f,rfl,q⟩
   |@t a l D=>
    cases(show u=Value.ref a from g);obtain⟨_,_,p,_⟩:=I.tuple D;obtain⟨o,E,F,_⟩:=p;exact PySem.W.kia_tup PySem.W.kitx_tuple I.GP ⟨o,E,F⟩ i e (fun z=>nomatch z) fun f=>⟨.bl _,H,I.tok f,rfl,q⟩
end
inductive Pt where
 |int (i:Int)
 |str (x:Str)
 |bl (b:Bool)
 |Ah
 |lst (xs:List Pt)
 |tup (xs:List Pt)
 |Ar (ks:List Str) (xs:List Pt)
namespace Pt
mutual
noncomputable def size:Pt->Nat
 |int _|str _|bl _|Ah=>1
 |lst xs|tup xs=>1+AI xs
 |Ar _ xs=>1+AI xs
noncomputable def AI:List Pt->Nat
 |[]=>0
 |x::r=>size x+AI r
end
mutual
noncomputable def deep:Pt->Nat
 |int _|str _|bl _|Ah=>1
 |lst xs|tup xs=>1+AJ xs
 |Ar _ xs=>1+AJ xs
noncomputable def AJ:List Pt->Nat
 |[]=>0
 |x::r=>max (deep x) (AJ r)
end
mutual
def doc:Pt->Prop
 |int _=>True
 |str x=>x.length<=100
 |bl _=>False
 |Ah=>False
 |tup _=>False
 |lst xs=>Cj xs
 |Ar ks xs=>ks.length=xs.length/\ks.Nodup/\(∀k∈ks,Dn k=true)/\ks.length<64/\Cj xs
def Cj:List Pt->Prop
 |[]=>True
 |x::r=>doc x/\Cj r
end
def look(ks:List Str)(xs:List Pt)(k:Str):Option Pt:=(ks.zip xs).lookup k
mutual
noncomputable def Bm:Pt->Pt->Bool
 |int i,int j=>i==j
 |str x,str y=>x==y
 |bl a,bl b=>a==b
 |Ah,Ah=>true
 |lst xs,lst ys=>Ca xs ys
 |tup xs,tup ys=>Ca xs ys
 |Ar ks xs,Ar ls ys=>ks.length==ls.length&&LR ks xs ls ys
 |_,_=>false
noncomputable def Ca:List Pt->List Pt->Bool
 |[],[]=>true
 |x::xs,y::ys=>Bm x y&&Ca xs ys
 |_,_=>false
noncomputable def LR:List Str->List Pt->List Str->List Pt->Bool
 |k::ks,x::xs,ls,ys=>(match look ls ys k with|some y=>Bm x y|none=>false)&&LR ks xs ls ys
 |_,_,_,_=>true
end
theorem size_pos(t:Pt):1<=t.size:=by cases t<;>simp only[size]<;>lia
theorem Oi(t:Pt):1<=t.deep:=by cases t<;>simp only[deep]<;>lia
theorem Cq:∀{xs:List Pt}{x:Pt},x∈xs->x.size<=AI xs
 |y::r,x,h=>by
  simp only[AI];rcases List.mem_cons.mp h with rfl|h
  ·lia
  ·have:=Cq h;lia
theorem Ap:∀{xs:List Pt}{x:Pt},x∈xs->x.deep<=AJ xs
 |y::r,x,h=>by
  simp only[AJ];rcases List.mem_cons.mp h with rfl|h
  ·lia
  ·have:=Ap h;lia
theorem Cr:∀xs:List Pt,xs.length<=AI xs
 |[]=>Nat.le_refl _
 |x::r=>by have:=Cr r;have:=size_pos x;simp only[List.length_cons,AI];lia
theorem CN:∀{xs:List Pt},Cj xs->∀x∈xs,doc x
 |y::r,h,x,a=>by
  simp only[Cj]at h;rcases List.mem_cons.mp a with rfl|a
  ·exact h.1
  ·exact CN h.2 x a
theorem JU:∀{xs:List Pt},(∀x∈xs,doc x)->Cj xs
 |[],_=>trivial
 |x::r,h=>⟨h x List.mem_cons_self,JU fun y a=>h y (List.mem_cons_of_mem _ a)⟩
theorem Ab(xs ys:List Pt):AI (xs++ys)=AI xs+AI ys:=by
 induction xs with
 |nil=>simp[AI]
 |cons x r a=>simp only[List.cons_append,AI,a];lia
theorem Vn{xs:List Pt}{k:Str}{x:Pt}(h:look ks xs k=some x):k∈ks/\x∈xs:=by
 unfold look at h
 induction ks generalizing xs with
 |nil=>simp at h
 |cons y r a=>
  cases xs with
  |nil=>simp at h
  |cons z b=>
   simp only[List.zip_cons_cons,List.lookup_cons]at h;by_cases e:k=y
   ·subst e;simp at h;subst h;exact⟨List.mem_cons_self,List.mem_cons_self⟩
   ·have:(k==y)=false:=by simpa using e
    rw[this]at h;have:=a h;exact⟨List.mem_cons_of_mem _ this.1,List.mem_cons_of_mem _ this.2⟩
theorem To{xs:List Pt}(l:ks.length=xs.length){k:Str}(a:k∈ks):∃x,look ks xs k=some x:=by
 unfold look
 induction ks generalizing xs with
 |nil=>cases a
 |cons y r b=>
  cases xs with
  |nil=>simp at l
  |cons z c=>
   simp only[List.zip_cons_cons,List.lookup_cons];by_cases e:k=y
   ·subst e;exact⟨z,by simp⟩
   ·have:(k==y)=false:=by simpa using e
    rw[this];exact b (by simpa using l) ((List.mem_cons.mp a).resolve_left e)
end Pt
mutual
inductive Val{K:yt}[BR K](H:Hp):V->Pt->Prop
 |int (i:Int):Val H (.int i) (.int i)
 |str (x:Str):Val H (.str x) (.str x)
 |bl (b:Bool):Val H (.bl b) (.bl b)
 |Ah:Val H .Ah .Ah
 |lst {a:Addr} {vs:List V} {ts:List Pt} (h:Rd H a (.lst vs)) (r:AS H vs ts):Val H (.ref a) (.lst ts)
 |tup {a:Addr} {vs:List V} {ts:List Pt} (h:Bg K H a vs) (r:AS H vs ts):Val H (.ref a) (.tup ts)
 |Ar {a:Addr} {kvs:List (Key×V)} {ks:List Str} {ts:List Pt} (h:Rd H a (.dK kvs)) (c:kvs.map (·.1)=ks.map Sum.inr) (r:AS H (kvs.map (·.2)) ts):Val H (.ref a) (.Ar ks ts)
inductive AS{K:yt}[BR K](H:Hp):List V->List Pt->Prop
 |nil:AS H [] []
 |cons {v:V} {t:Pt} {vs:List V} {ts:List Pt} (h:Val H v t) (r:AS H vs ts):AS H (v::vs) (t::ts)
end
variable{ts:List Pt}{t:Pt}
section
variable{K:yt} [BR K]
mutual
theorem Val.Zg{H H':Hp}(s:GB H H'):∀(t:Pt){v:V},Val H v t->Val H' v t
 | .int _=>fun h=>by cases h;exact .int _
 | .str _=>fun h=>by cases h;exact .str _
 | .bl _=>fun h=>by cases h;exact .bl _
 | .Ah=>fun h=>by cases h;exact .Ah
 | .lst ts=>fun h=>by cases h with|lst h r=>exact .lst (s.rd _ _ h) (AS.Zg s ts r)
 | .tup ts=>fun h=>by cases h with|tup h r=>exact .tup (h.Lr s) (AS.Zg s ts r)
 | .Ar _ ts=>fun h=>by cases h with|Ar h a r=>exact .Ar (s.rd _ _ h) a (AS.Zg s ts r)
theorem AS.Zg{H H':Hp}(s:GB H H'):∀(ts:List Pt){vs:List V},AS H vs ts->AS H' vs ts
 |[]=>fun h=>by cases h;exact .nil
 |t::ts=>fun h=>by cases h with|cons h r=>exact .cons (Val.Zg s t h) (AS.Zg s ts r)
end
theorem Val.Lr(s:GB H H')(h:Val H v t):Val H' v t:=Val.Zg s t h
theorem AS.Lr(s:GB H H')(h:AS H vs ts):AS H' vs ts:=AS.Zg s ts h
theorem Val.up(h:Val H v t)(s:AF H H'):Val H' v t:=h.Lr (.of s)
theorem AS.up{v:List V}{t:List Pt}(h:AS H v t)(s:AF H H'):AS H' v t:=h.Lr (.of s)
theorem AS.length{H:Hp}:∀{vs:List V}{ts:List Pt},AS H vs ts->vs.length=ts.length
 |_,_,.nil=>rfl
 |_,_,.cons _ r=>by rw[List.length_cons,List.length_cons,r.length]
theorem AS.get{H:Hp}:∀{vs:List V}{ts:List Pt},AS H vs ts->∀{i:Nat}{v:V},vs[i]?=some v->∃t,ts[i]?=some t/\Val H v t
 |_,_,.nil,i,v,h=>by simp at h
 |_,_,.cons h r,0,v,e=>by
  simp at e;subst e;exact⟨_,by simp,h⟩
 |_,_,.cons h r,i+1,v,e=>by
  obtain⟨t,a,b⟩:=r.get (i:=i) (v:=v) (by simpa using e);exact⟨t,by simpa using a,b⟩
theorem AS.get'{H:Hp}:∀{vs:List V}{ts:List Pt},AS H vs ts->∀{i:Nat}{t:Pt},ts[i]?=some t->∃v,vs[i]?=some v/\Val H v t
 |_,_,.nil,i,v,h=>by simp at h
 |_,_,.cons h r,0,v,e=>by
  simp at e;subst e;exact⟨_,by simp,h⟩
 |_,_,.cons h r,i+1,v,e=>by
  obtain⟨t,a,b⟩:=r.get' (i:=i) (t:=v) (by simpa using e);exact⟨t,by simpa using a,b⟩
theorem AS.append{H:Hp}:∀{vs:List V}{ts:List Pt},AS H vs ts->∀{ws:List V}{us:List Pt},AS H ws us->AS H (vs++ws) (ts++us)
 |_,_,.nil,_,_,s=>s
 |_,_,.cons h r,_,_,s=>.cons h (r.append s)
theorem AS.of{H:Hp}:∀{vs:List V}{ts:List Pt},vs.length=ts.length->(∀(i:Nat) v t,vs[i]?=some v->ts[i]?=some t->Val H v t)->AS H vs ts
 |[],[],_,_=>.nil
 |[],_::_,l,_=>by simp at l
 |_::_,[],l,_=>by simp at l
 |v::vs,t::ts,l,h=>.cons (h 0 v t (by simp) (by simp)) (AS.of (by simpa using l) fun i w u a b=>h (i+1) w u (by simpa using a) (by simpa using b))
theorem Val.Dd{H:Hp}:∀{kvs:List (Key×V)}{ks:List Str}{ts:List Pt},kvs.map (·.1)=ks.map Sum.inr->AS H (kvs.map (·.2)) ts->∀k:Str,(∃v t,BQ kvs (Sum.inr k)=some v/\Pt.look ks ts k=some t/\Val H v t)∨(BQ kvs (Sum.inr k)=none/\Pt.look ks ts k=none)
 |[],[],_,_,r,k=>by cases r;exact .inr ⟨rfl,rfl⟩
 |[],_::_,_,h,_,_=>by simp at h
 |_::_,[],_,h,_,_=>by simp at h
 |(y,v)::kvs,x::ks,ts,h,r,k=>by
  simp only[List.map_cons,List.cons.injEq]at h;obtain⟨e,h⟩:=h;subst e;cases r with
  |@cons _ t _ ts a r=>
   by_cases e:k=x
   ·subst e;exact .inl ⟨v,t,Bb rfl,by simp[Pt.look],a⟩
   ·have b:(k==x)=false:=by simpa using e
    have c:BQ ((Sum.inr x,v)::kvs) (Sum.inr k)=BQ kvs (Sum.inr k):=Bc (by intro z;exact e (Sum.inr.inj z).symm);have d:Pt.look (x::ks) (t::ts) k=Pt.look ks ts k:=by simp[Pt.look,List.zip_cons_cons,List.lookup_cons,b]
    rw[c,d];exact Val.Dd h r k
end
variable{w:Str}
section
variable{K:yt} [BR K]
theorem Val.kj{x:Str}(h:Val H v (.str x)):v=.str x:=by cases h;rfl
theorem Val.oS{x:Bool}(h:Val H v (.bl x)):v=.bl x:=by cases h;rfl
theorem Val.tupI(h:Val H v (.tup ts)):∃a vs,v=.ref a/\Bg K H a vs/\AS H vs ts:=by cases h with|tup h r=>exact⟨_,_,rfl,h,r⟩
theorem Val.KJ(h:Val H v (.lst ts)):∃a vs,v=.ref a/\Rd H a (.lst vs)/\AS H vs ts:=by cases h with|lst h r=>exact⟨_,_,rfl,h,r⟩
theorem Val.Oj(h:Val H v (.Ar ks ts)):∃(a:Addr)(kvs:List (Key×V)),v=.ref a/\Rd H a (.dK kvs)/\kvs.map (·.1)=ks.map Sum.inr/\AS H (kvs.map (·.2)) ts:=by cases h with|Ar h b r=>exact⟨_,_,rfl,h,b,r⟩
theorem AS.Fd(h:AS H vs (t::ts)):∃v a,vs=v::a/\Val H v t/\AS H a ts:=by cases h with|cons h r=>exact⟨_,_,rfl,h,r⟩
theorem AS.Vo(h:AS H vs []):vs=[]:=by cases h;rfl
theorem Val.t1(h:Val H v (.tup (.str w::ts))):∃t vs,v=.ref t/\Bg K H t (.str w::vs)/\AS H vs ts:=by
 obtain⟨t,vs,rfl,h,r⟩:=Val.tupI h;obtain⟨_,_,rfl,g,q⟩:=r.Fd;rw[g.kj]at h;exact⟨_,_,rfl,h,q⟩
theorem Val.t2{p:Pt}(h:Val H v (.tup [.str w,p])):∃t u,v=.ref t/\Bg K H t [.str w,u]/\Val H u p:=by
 obtain⟨t,_,e,h,r⟩:=h.t1;obtain⟨u,_,rfl,g,q⟩:=r.Fd;rw[q.Vo]at h;exact⟨t,u,e,h,g⟩
theorem Val.t3{p q:Pt}(h:Val H v (.tup [.str w,p,q])):∃t u z,v=.ref t/\Bg K H t [.str w,u,z]/\Val H u p/\Val H z q:=by
 obtain⟨t,_,e,h,r⟩:=h.t1;obtain⟨u,_,rfl,g,r⟩:=r.Fd;obtain⟨z,_,rfl,a,r⟩:=r.Fd;rw[r.Vo]at h;exact⟨t,u,z,e,h,g,a⟩
theorem Val.t4{p q o:Pt}(h:Val H v (.tup [.str w,p,q,o])):∃t u z y,v=.ref t/\Bg K H t [.str w,u,z,y]/\Val H u p/\Val H z q/\Val H y o:=by
 obtain⟨t,_,e,h,r⟩:=h.t1;obtain⟨u,_,rfl,g,r⟩:=r.Fd;obtain⟨z,_,rfl,a,r⟩:=r.Fd;obtain⟨y,_,rfl,b,r⟩:=r.Fd;rw[r.Vo]at h;exact⟨t,u,z,y,e,h,g,a,b⟩
end
section
variable{X:Cx} [BR X.K] {pins:List (Addr×Obj)} {σ:St} {H:Hp} {s:Shared}
theorem AS.at(r:AS H vs ts)(c:Vals vs its){j:Nat}(h:j<its.toArray.size):∃v t,vs[j]?=some v/\ts[j]?=some t/\Val H v t/\RelV v its.toArray[j]:=by
 obtain⟨v,b,a⟩:=YK c h;obtain⟨t,d,e⟩:=r.get b;exact⟨v,t,b,d,e,a⟩
end
section
end
section
variable{X:Cx}
end
inductive Zh:Pt->Prop
 |int (i:Int):Zh (.int i)
 |str (x:Str):Zh (.str x)
 |nil:Zh (.lst [])
 |emp:Zh (.Ar [] [])
inductive Sm:Pt->Prop
 |one {t:Pt} (h:Zh t):Sm t
 |row {xs:List Pt} (h:∀x∈xs,Zh x):Sm (.lst xs)
 |tab {ks:List Str} {xs:List Pt} (h:∀x∈xs,Zh x):Sm (.Ar ks xs)
section
variable{A:Around} {s:Shared}
end
section
variable{X:Cx} [BR X.K] {pins:List (Addr×Obj)} {σ:St} {H:Hp} {s:Shared}
theorem DO:∀{xs ys:List Pt},xs.length≠ys.length->Pt.Ca xs ys=false
 |[],[],h=>by simp at h
 |[],_::_,_=>by simp[Pt.Ca]
 |_::_,[],_=>by simp[Pt.Ca]
 |x::xs,y::ys,h=>by
  have:=DO (xs:=xs) (ys:=ys) (by simpa using h);simp[Pt.Ca,this]
def pairE(xs ys:List Pt)(j:Nat):Bool:=match xs[j]?,ys[j]? with
 |some x,some y=>Pt.Bm x y
 |_,_=>false
theorem KL:∀{xs ys:List Pt},xs.length=ys.length->(List.range xs.length).all (pairE xs ys)=Pt.Ca xs ys
 |[],[],_=>by simp[Pt.Ca]
 |[],_::_,h=>by simp at h
 |_::_,[],h=>by simp at h
 |x::xs,y::ys,h=>by
  have a:=KL (xs:=xs) (ys:=ys) (by simpa using h);rw[List.length_cons,List.range_succ_eq_map,List.all_cons,List.all_map];have b:pairE (x::xs) (y::ys) 0=Pt.Bm x y:=by simp[pairE]
  have c:(pairE (x::xs) (y::ys)∘Nat.succ)=pairE xs ys:=by
   funext j;simp[pairE]
  rw[b,c,a];simp[Pt.Ca]
theorem IM(I:Inv X pins σ H s){kvs:List (Key×V)}(h:Rd H a (.dK kvs)):(a==sysModules)=false/\∃c b n d,Ir s.heap a c b n d/\b.size=kvs.length:=by
 obtain⟨z,j,o,e,⟨⟨f,c,data,d⟩,b,n,k,l,i,p,m,q⟩⟩:=EV I.Ax h;have g:f=.type "dict":=l.1;simp only at i;subst g i;refine⟨j,c,b,n,d,⟨k⟩,?_⟩;have:=m.length;rw[e.length,<-this];simp
end
section
end
section
variable{X:Cx}
end
def lk{a:Type}(ks:List Str)(xs:List a)(k:Str):Option a:=(ks.zip xs).lookup k
theorem BW{a:Type}{k:Str}{r:List Str}{z:a}{zs:List a}:lk (y::r) (z::zs) k=if k=y then some z else lk r zs k:=by
 unfold lk;rw[List.zip_cons_cons,List.lookup_cons];by_cases e:k=y
 ·subst e;simp
 ·have:(k==y)=false:=by simpa using e
  rw[this,if_neg e]
theorem Ex{a:Type}{xs:List a}{k:Str}{x:a}(h:lk ks xs k=some x):k∈ks/\x∈xs:=by
 induction ks generalizing xs with
 |nil=>simp[lk]at h
 |cons y r b=>
  cases xs with
  |nil=>simp[lk]at h
  |cons z c=>
   rw[BW]at h;by_cases e:k=y
   ·rw[if_pos e]at h;cases h;exact⟨by rw[e];exact List.mem_cons_self,List.mem_cons_self⟩
   ·rw[if_neg e]at h;have:=b h;exact⟨List.mem_cons_of_mem _ this.1,List.mem_cons_of_mem _ this.2⟩
theorem GC{b:Type}{xs:List b}(l:ks.length=xs.length){k:Str}(a:k∈ks):∃x,lk ks xs k=some x:=by
 induction ks generalizing xs with
 |nil=>cases a
 |cons y r c=>
  cases xs with
  |nil=>simp at l
  |cons z d=>
   rw[BW];by_cases e:k=y
   ·rw[if_pos e];exact⟨z,rfl⟩
   ·rw[if_neg e];exact c (by simpa using l) ((List.mem_cons.mp a).resolve_left e)
noncomputable def pk{a:Type}(f:a->Pt->Bool):Option a->Option Pt->Bool
 |some x,some y=>f x y
 |_,_=>false
noncomputable def JI{a:Type}(f:a->Pt->Bool):List Str->List a->List Str->List Pt->Bool
 |k::ks,x::xs,ls,ys=>(match lk ls ys k with|some y=>f x y|none=>false)&&JI f ks xs ls ys
 |_,_,_,_=>true
theorem Mv{b:Type}(f:b->Pt->Bool){ls:List Str}{ys:List Pt}:∀{ks:List Str}{xs:List b},ks.length=xs.length->ks.Nodup->JI f ks xs ls ys=ks.all fun k=>pk f (lk ks xs k) (lk ls ys k)
 |[],[],_,_=>by simp[JI]
 |[],_::_,h,_=>by simp at h
 |_::_,[],h,_=>by simp at h
 |k::ks,x::xs,l,nd=>by
  obtain⟨c,d⟩:=List.nodup_cons.mp nd;rw[List.all_cons,BW,if_pos rfl];simp only[JI];rw[Mv f (ks:=ks) (xs:=xs) (by simpa using l) d];congr 1
  ·cases lk ls ys k<;>rfl
  ·rw[Bool.eq_iff_iff,List.all_eq_true,List.all_eq_true];have e:∀y∈ks,lk (k::ks) (x::xs) y=lk ks xs y:=fun y a=>by
    rw[BW,if_neg (fun z=>c (by rw[<-z];exact a))]
   exact⟨fun h y a=>by rw[e y a];exact h y a,fun h y a=>by have:=h y a;rwa [e y a]at this⟩
theorem Ls{ls:List Str}{ys:List Pt}:∀{ks:List Str}{xs:List Pt},Pt.LR ks xs ls ys=JI Pt.Bm ks xs ls ys
 |[],xs=>by simp[Pt.LR,JI]
 |_::_,[]=>by simp[Pt.LR,JI]
 |k::ks,x::xs=>by simp only[Pt.LR,JI];rw[Ls];rfl
def Zi:Pt->List V->Prop
 | .lst xs,l=>l=(List.range xs.length).map fun(i:Nat)=>V.int (i:Int)
 | .Ar ks _,l=>∃ss:List Str,l=ss.map V.str/\ss.Perm ks/\sortedS ss=true
 |_,l=>l=[]
def Dr:Pt->Prop
 | .int _=>True
 | .str _=>True
 | .lst xs=>xs.length<=900
 | .Ar ks xs=>ks.length=xs.length/\ks.length<64
 |_=>False
def EJ:Pt->List Pt->Prop
 | .lst xs,ts=>ts=xs
 | .Ar ks xs,ts=>∃ss:List Str,ss.Perm ks/\sortedS ss=true/\ss.map (lk ks xs)=ts.map some
 |_,ts=>ts=[]
theorem EJ.one{as bs:List Pt}(h:EJ t as)(h':EJ t bs):as=bs:=by
 cases t with
 |lst c=>exact(show as=c from h).trans (show bs=c from h').symm
 |Ar l c=>
  obtain⟨m,e,f,g⟩:=h;obtain⟨n,i,j,d⟩:=h';have:=EA f j (e.trans i.symm);subst this;rw[g]at d;have inj:∀{a b:List Pt},a.map some=b.map some->a=b:=by
   intro a
   induction a with
   |nil=>intro b h;cases b with|nil=>rfl|cons _ _=>simp at h
   |cons x r k=>
    intro b h;cases b with
    |nil=>simp at h
    |cons y q=>
     simp only[List.map_cons,List.cons.injEq]at h;rw[yq h.1,k h.2]
  exact inj d
 |_=>exact(show as=[]from h).trans (show bs=[]from h').symm
section
variable{K:yt} [BR K]
def km(H:Hp)(v s e:V):Prop:=(∃a b j,v=.ref a/\Rd H a (.lst b)/\s=.int ((j:Nat):Int)/\b[j]?=some e)∨∃a kvs k,v=.ref a/\Rd H a (.dK kvs)/\s=.str k/\BQ kvs (Sum.inr k)=some e
theorem Ol{H:Hp}{kvs:List (Key×V)}{ks:List Str}{ts:List Pt}(f:kvs.map (·.1)=ks.map Sum.inr)(r:AS H (kvs.map (·.2)) ts)(l:ks.length=ts.length):∀{ss:List Str},(∀k∈ss,k∈ks)->
  ∃(a:List V)(us:List Pt),AS H a us/\ss.map (lk ks ts)=us.map some/\a.length=ss.length/\∀(i:Nat) e,a[i]?=some e->∃k,ss[i]?=some k/\BQ kvs (Sum.inr k)=some e
 |[],_=>⟨[],[],.nil,rfl,rfl,fun i e h=>by simp at h⟩
 |k::ss,h=>by
  obtain⟨a,us,g,j,m,h4⟩:=Ol f r l (ss:=ss) fun x b=>h x (List.mem_cons_of_mem _ b);rcases Val.Dd f r k with⟨v,t,n,c,o⟩|⟨_,c⟩
  ·refine⟨v::a,t::us,.cons o g,by rw[List.map_cons,List.map_cons,j];congr 1,by rw[List.length_cons,List.length_cons,m],fun i e d=>?_⟩;cases i with
   |zero=>simp at d;subst d;exact⟨k,by simp,n⟩
   |succ i=>
    obtain⟨p,a1,a2⟩:=h4 i e (by simpa using d);exact⟨p,by simpa using a1,a2⟩
  ·obtain⟨x,b⟩:=Pt.To l (h k List.mem_cons_self);rw[b]at c;cases c
theorem Val.kids{l:List V}(n:Val H v t)(hold:Dr t)(st:Zi t l):∃(c:List V)(us:List Pt),AS H c us/\EJ t us/\c.length=l.length/\∀(i:Nat) e,c[i]?=some e->∃s,l[i]?=some s/\km H v s e:=by
 cases n with
 |int i=>rw[show l=[]from st];exact⟨[],[],.nil,rfl,rfl,fun i e h=>by simp at h⟩
 |str i=>rw[show l=[]from st];exact⟨[],[],.nil,rfl,rfl,fun i e h=>by simp at h⟩
 |bl b=>exact hold.elim
 |Ah=>exact hold.elim
 |tup _ _=>exact hold.elim
 |@lst a f g h r=>
  have e:=r.length;rw[show l=_ from st];refine⟨f,g,r,rfl,by simp[e],fun i x j=>⟨.int (i:Int),?_,.inl ⟨a,f,i,rfl,h,rfl,j⟩⟩⟩;have B:=(yo j).1;rw[List.getElem?_map,List.getElem?_range (by lia)];rfl
 |@Ar a kvs C g h d r=>
  obtain⟨ss,rfl,m,o⟩:=st;obtain⟨c,us,p,q,u,w⟩:=Ol d r hold.1 (ss:=ss) fun k d=>m.mem_iff.mp d;refine⟨c,us,p,⟨ss,m,o,q⟩,by rw[List.length_map];exact u,fun i e y=>?_⟩;obtain⟨k,z,A⟩:=w i e y;exact⟨.str k,by rw[List.getElem?_map,z];rfl,.inr ⟨a,kvs,k,rfl,h,rfl,A⟩⟩
theorem Lu(d:t.doc)(z:t.size<=900):Dr t:=by
 cases t with
 |int i=>trivial
 |str x=>trivial
 |bl b=>simp[Pt.doc]at d
 |Ah=>simp[Pt.doc]at d
 |tup a=>simp[Pt.doc]at d
 |lst a=>simp only[Pt.size]at z;have:=Pt.Cr a;exact show a.length<=900 by lia
 |Ar c a=>simp only[Pt.doc]at d;exact⟨d.1,d.2.2.2.1⟩
noncomputable def Pt.fe:Pt->String
 | .int _=>"int"
 | .str _=>"str"
 | .bl _=>"bool"
 | .Ah=>"NoneType"
 | .lst _=>"list"
 | .tup _=>"tuple"
 | .Ar _ _=>"dict"
theorem Val.ty(h:Val H v t):Zf K H v t.fe:=by
 cases h with
 |int i=>exact .n (.int i)
 |str x=>exact .n (.str x)
 |bl b=>exact .n (.bl b)
 |Ah=>exact .n .Ah
 |lst h _=>exact .n (.lst h)
 |tup h _=>exact .t h
 |Ar h _ _=>exact .n (.dK h)
def HN:Sp:=fun b H Q _=>∃(v:V)(t:Pt),b=[v]/\Val H v t/\Dr t/\∀(p:Addr)(l:List V)(a:Hp),AF H a->H p=none->a p=some (.lst l)->Zi t l->Q (.ref p) a
def KN:Sp:=fun d H Q _=>∃(G:Hp)(v:V)(t:Pt),d=[v]/\AF G H/\Val G v t/\Dr t/\∀(p:Addr)(b:List V)(c:List Pt)(a:Hp),AF H a->H p=none->a p=some (.lst b)->AS G b c->EJ t c->Q (.ref p) a
end
section
variable{X:Cx}
inductive ko(K:yt)(xs:List V)(H:Hp)(Q:VK):Prop
 |mk(p:Addr)(bs:List Bool)(a:xs=[.ref p])(b:As K H p (bs.map V.bl))(c:Q (.bl (bs.any id)) H)
theorem Vp(w:X.calm=true):Bh X (.builtin "any") (ko X.K):=by
 intro pins s J H L M Q I r h;obtain⟨p,bs,rfl,x,q⟩:=h;obtain⟨u,rfl,k⟩:=vals1 r;cases k;obtain⟨c,l,pl,N⟩:=I.list x;obtain⟨y,d,f⟩:=id pl.isList;have m:p<s.heap.objs.size:=Heap.lt_size d;have n:X.A.in1.handled=none:=I.ok.hd w;have hlen:c.toArray.size=bs.length:=by rw[List.size_toArray,<-l.length,List.length_map]
 refine call_any_walk (wpAny_pyIter_list pl.isList ⟨s.heap.objs.size,_,_,_,_,_,fun i=>bs.getD i true,rfl,Walks.list n s.heap.objs.size p (Nat.ne_of_lt m) c.toArray,⟨⟨_,Heap.get?_push_size _ rfl,rfl,rfl⟩,⟨y,Heap.get?_push_of_some _ d,f⟩⟩,?_,fun O B kept=>?_⟩)
 ·intro i v C D P g j;have g:c[i]?=some v:=by simpa using g
  have a:i<bs.length:=by
   have:=(yo g).1;rw[<-l.length,List.length_map]at this;exact this
  have e:(bs.map V.bl)[i]?=some (V.bl bs[i]):=by rw[List.getElem?_map,yn a];rfl
  obtain⟨u,t,k⟩:=l.get e;rw[g]at t;cases t;cases k;have E:bs.getD i true=bs[i]:=by rw[List.getD_eq_getElem?_getD,yn a];rfl
  have j:D (bs.getD i true) C:=j;rw[E]at j;exact wpAny_truthy_bool j
 ·refine⟨.bl (bs.any id),H,I.kept (t':=B) fun b o e=>kept b o (fun z=>?_) (Heap.get?_push_of_some _ e),?_,q⟩
  ·have F:b=s.heap.objs.size:=by simpa using z
   exact Nat.ne_of_lt (Heap.lt_size e) F
  ·show Value.bool _=Value.bool _;congr 1;rw[hlen,Bool.eq_iff_iff,List.any_eq_true,List.any_eq_true];constructor
   ·intro⟨i,a,h⟩;have a:=List.mem_range.mp a;rw[List.getD_eq_getElem?_getD,yn a]at h;exact⟨_,List.getElem_mem a,h⟩
   ·intro⟨b,G,h⟩;obtain⟨i,a,rfl⟩:=List.mem_iff_getElem.mp G;exact⟨i,List.mem_range.mpr a,by rw[List.getD_eq_getElem?_getD,yn a];exact h⟩
end
inductive Ak where
 |any
 |Ag (d:Pt)
 |row (xs:List Ak) (m:Bool)
 |tab (ks:List Str) (xs:List Ak) (ls:List Str) (m:Bool)
namespace Ak
mutual
noncomputable def pt:Ak->Pt
 |any=>.tup [.str "any"]
 |Ag d=>.tup [.str "just",d]
 |row xs m=>.tup [.str "row",.lst (CO xs),.bl m]
 |tab ks xs ls m=>.tup [.str "table",.Ar ks (CO xs),.lst (ls.map Pt.str),.bl m]
noncomputable def CO:List Ak->List Pt
 |[]=>[]
 |x::r=>pt x::CO r
end
theorem AW:∀xs:List Ak,CO xs=xs.map pt
 |[]=>rfl
 |x::r=>by simp only[CO,List.map_cons,AW r]
mutual
noncomputable def size:Ak->Nat
 |any=>1
 |Ag _=>1
 |row xs _=>1+AI xs
 |tab _ xs _ _=>1+AI xs
noncomputable def AI:List Ak->Nat
 |[]=>0
 |x::r=>size x+AI r
end
mutual
noncomputable def deep:Ak->Nat
 |any=>1
 |Ag _=>1
 |row xs _=>1+AJ xs
 |tab _ xs _ _=>1+AJ xs
noncomputable def AJ:List Ak->Nat
 |[]=>0
 |x::r=>max (deep x) (AJ r)
end
mutual
def ok:Ak->Prop
 |any=>True
 |Ag d=>Sm d/\d.doc/\d.size<=10
 |row xs _=>DW xs
 |tab ks xs ls _=>ks.length=xs.length/\ks.Nodup/\(∀k∈ks,Dn k=true)/\ks.length<60/\(ls.length<=60/\ls.Nodup/\sortedS ls=true)/\(∀l∈ls,l∉ks)/\DW xs
def DW:List Ak->Prop
 |[]=>True
 |x::r=>ok x/\DW r
end
mutual
def Io:Ak->Prop
 |any=>True
 |Ag _=>True
 |row xs _=>IP xs
 |tab ks xs ls _=>ks.length+ls.length<=4/\IP xs
def IP:List Ak->Prop
 |[]=>True
 |x::r=>Io x/\IP r
end
theorem EB{a b:List Ak}:IP a->IP b->IP (a++b):=by
 induction a with
 |nil=>exact fun _ h=>h
 |cons x r c=>exact fun h g=>⟨h.1,c h.2 g⟩
theorem KO:∀{xs:List Ak},IP xs->∀x∈xs,Io x
 |y::r,h,x,a=>by
  rcases List.mem_cons.mp a with rfl|a
  ·exact h.1
  ·exact KO h.2 x a
theorem size_pos(t:Ak):1<=t.size:=by cases t<;>simp only[size]<;>lia
theorem Cr:∀xs:List Ak,xs.length<=AI xs
 |[]=>Nat.le_refl _
 |x::r=>by have:=Cr r;have:=size_pos x;simp only[List.length_cons,AI];lia
theorem Cz:∀{xs:List Ak},DW xs->∀x∈xs,ok x
 |y::r,h,x,a=>by
  simp only[DW]at h;rcases List.mem_cons.mp a with rfl|a
  ·exact h.1
  ·exact Cz h.2 x a
theorem Fe:∀{xs:List Ak},(∀x∈xs,ok x)->DW xs
 |[],_=>trivial
 |x::r,h=>⟨h x List.mem_cons_self,Fe fun y a=>h y (List.mem_cons_of_mem _ a)⟩
def cnt(c l:Nat)(m:Bool):Bool:=c==l||(m&&decide (l<c))
mutual
noncomputable def lets:Ak->Pt->Bool
 |any,_=>true
 |Ag d,t=>Pt.Bm d t
 |row xs m,.lst ys=>cnt ys.length xs.length m&&Lv xs ys
 |tab ks xs ls m,.Ar a ys=>(ks.all (fun k=>decide (k∈a))&& !(ls.any fun k=>decide (k∈a))&&cnt a.length ks.length m)&&KP ks xs a ys
 |_,_=>false
noncomputable def Lv:List Ak->List Pt->Bool
 |a::as,y::ys=>lets a y&&Lv as ys
 |_,_=>true
noncomputable def KP:List Str->List Ak->List Str->List Pt->Bool
 |k::ks,x::xs,a,ys=>(match lk a ys k with|some y=>lets x y|none=>false)&&KP ks xs a ys
 |_,_,_,_=>true
end
theorem KQ{a:List Str}{ys:List Pt}:∀{ks:List Str}{xs:List Ak},KP ks xs a ys=JI lets ks xs a ys
 |[],xs=>by simp[KP,JI]
 |_::_,[]=>by simp[KP,JI]
 |k::ks,x::xs=>by simp only[KP,JI];rw[KQ];try(cases lk a ys k<;>rfl)
noncomputable def hold:Ak->Pt
 |row xs _=>.lst (CO xs)
 |tab ks xs _ _=>.Ar ks (CO xs)
 |_=>.lst []
end Ak
section
variable{K:yt} [BR K]
theorem Val.ak{a:Ak}(h:Val H v a.pt):∃(t:Addr)(w:Str)(rest:List V),v=.ref t/\Bg K H t (.str w::rest)/\ ((a=.any/\w="any"/\rest=[])∨(∃d u,a=.Ag d/\w="just"/\rest=[u]/\Val H u d)∨(∃xs m u,a=.row xs m/\w="row"/\rest=[u,.bl m]/\Val H u (.lst (Ak.CO xs)))∨∃ks xs ls m u z,a=.tab ks xs ls m/\w="table"/\rest=[u,z,.bl m]/\Val H u (.Ar ks (Ak.CO xs))/\Val H z (.lst (ls.map Pt.str))):=by
 cases a with
 |any=>
  obtain⟨t,_,e,h,q⟩:=Val.t1 (ts:=[]) h;rw[q.Vo]at h;exact⟨t,_,_,e,h,.inl ⟨rfl,rfl,rfl⟩⟩
 |Ag d=>
  obtain⟨t,u,e,h,g⟩:=Val.t2 (p:=d) h;exact⟨t,_,_,e,h,.inr (.inl ⟨d,u,rfl,rfl,rfl,g⟩)⟩
 |row xs m=>
  obtain⟨t,u,z,e,h,g,b⟩:=Val.t3 (q:=.bl m) h;rw[b.oS]at h;exact⟨t,_,_,e,h,.inr (.inr (.inl ⟨xs,m,u,rfl,rfl,rfl,g⟩))⟩
 |tab ks xs ls m=>
  obtain⟨t,u,z,y,e,h,g,b,c⟩:=Val.t4 (o:=.bl m) h;rw[c.oS]at h;exact⟨t,_,_,e,h,.inr (.inr (.inr ⟨ks,xs,ls,m,u,z,rfl,rfl,rfl,g,b⟩))⟩
end
section
variable{K:yt} [BR K]
theorem Mw{a:Type}:∀{ks:List Str}{xs:List a},ks.length=xs.length->ks.Nodup->ks.map (lk ks xs)=xs.map some:=by
 intro ks
 induction ks with
 |nil=>intro xs l _;cases xs with|nil=>rfl|cons _ _=>simp at l
 |cons k r b=>
  intro xs l nd;cases xs with
  |nil=>simp at l
  |cons x xs=>
   obtain⟨c,d⟩:=List.nodup_cons.mp nd;rw[List.map_cons,List.map_cons,BW,if_pos rfl,<-b (by simpa using l) d];congr 1;exact List.map_congr_left fun y e=>by rw[BW,if_neg (fun z=>c (by rw[<-z];exact e))]
theorem CV{a:Type}{xs as:List a}(l:ks.length=xs.length)(nd:ks.Nodup)(pm:ss.Perm ks)(e:ss.map (lk ks xs)=as.map some):as.Perm xs:=by
 have b:(as.map some).Perm (xs.map some):=by rw[<-e,<-Mw l nd];exact pm.map _
 have c:=b.filterMap id;simpa using c
theorem GZ{b:Type}{ks:List Str}{xs:List b}(l:ks.length=xs.length):∀{ss:List Str},(∀k∈ss,k∈ks)->∃as:List b,ss.map (lk ks xs)=as.map some
 |[],_=>⟨[],rfl⟩
 |k::ss,h=>by
  obtain⟨as,e⟩:=GZ l (ss:=ss) fun x a=>h x (List.mem_cons_of_mem _ a);obtain⟨x,a⟩:=GC l (h k List.mem_cons_self);exact⟨x::as,by rw[List.map_cons,List.map_cons,a,e]⟩
theorem Ds{a b:Type}(f:a->b){k:Str}:∀{ks:List Str}{xs:List a},lk ks (xs.map f) k=(lk ks xs k).map f
 |[],xs=>by simp[lk]
 |_::_,[]=>by simp[lk]
 |y::ks,x::xs=>by
  rw[List.map_cons,BW,BW];by_cases e:k=y
  ·rw[if_pos e,if_pos e];rfl
  ·rw[if_neg e,if_neg e];exact Ds f
end
variable{ws:List V}{o:Option Addr}{G:Hp}
section
variable{K:yt} [BR K]
def nw(H H':Hp):Hp:=fun b=>match H b with
 |none=>H' b
 |some _=>none
theorem AY(h:H b=none):nw H H' b=H' b:=by unfold nw;rw[h]
theorem Bz{o}(h:H b=some o):nw H H' b=none:=by unfold nw;rw[h]
theorem Ff:AF (nw H H') H':=fun b o e=>by
 cases h:H b with
 |none=>rw[AY h]at e;exact e
 |some z=>rw[Bz h]at e;cases e
structure Bt(o:Option Addr)(H H':Hp):Prop where
 keep:∀b e,o≠some b->H b=some e->H' b=some e
 EC:∀b,H' b=none->H b=none
theorem Bt.refl:Bt o H H:=⟨fun _ _ _ e=>e,fun _ h=>h⟩
theorem Bt.of(s:AF H H'):Bt o H H':=⟨fun b e _ h=>s b e h,fun b h=>s.free h⟩
theorem Bt.same(s:Bt none H H'):AF H H':=fun b e h=>s.keep b e (fun z=>nomatch z) h
theorem Bt.trans{d:Hp}(a:Bt o H d)(b:Bt o d H2):Bt o H H2:=⟨fun c e n h=>b.keep c e n (a.keep c e n h),fun c h=>a.EC c (b.EC c h)⟩
theorem Bv{p:Addr}{o:HO}(h:upd H p o b=none):b≠p/\H b=none:=by
 by_cases e:b=p
 ·subst e;rw[AD]at h;cases h
 ·rw[AH e]at h;exact⟨e,h⟩
theorem Bt.put{d:Hp}{o:HO}(a:Bt (some l) H d):Bt (some l) H (upd d l o):=⟨fun c e n h=>by rw[AH (fun z=>n (by rw[z]))];exact a.keep c e n h,fun b h=>a.EC b (Bv h).2⟩
theorem Bt.new{p:Addr}{f:Hp}{e:HO}(a:Bt o H f)(h:H p=none):Bt o H (upd f p e):=⟨fun c g n d=>by rw[AH (fun z=>by rw[z,h]at d;cases d)];exact a.keep c g n d,fun b h=>a.EC b (Bv h).2⟩
def Cs(l:Addr)(H:Hp):Hp:=fun b=>if b=l then none else H b
theorem CI(h:b≠l):Cs l H b=H b:=by unfold Cs;rw[if_neg h]
theorem Bs:AF (Cs l H) H:=fun b o e=>by
 unfold Cs at e;by_cases h:b=l
 ·rw[if_pos h]at e;cases e
 ·rw[if_neg h]at e;exact e
theorem Bt.Cs{l:Addr}{H H':Hp}(s:Bt (some l) H H'):AF (Cs l H) (Cs l H'):=fun b o e=>by
 by_cases h:b=l
 ·unfold L2.Cs at e;rw[if_pos h]at e;cases e
 ·rw[CI h]at e⊢;exact s.keep _ _ (fun z=>h (yq z).symm) e
theorem BB{a:Hp}(d:∀b,a b=none->H b=none)(s:∀b o,a b=none->H2 b=some o->c b=some o):AF (nw a H2) (nw H c):=fun b o e=>by
 cases h:a b with
 |none=>rw[AY h]at e;rw[AY (d b h)];exact s b o h e
 |some z=>rw[Bz h]at e;cases e
theorem AS.snoc(h:AS H vs ts)(g:Val H v t):AS H (vs++[v]) (ts++[t]):=h.append (.cons g .nil)
section
variable{J:It} {te:TE} {fs:List Nat} {σ:St} {H:Hp} {Q:VK}
theorem DP(o:Option Addr)(n:Nat)(item:Nat->V)(a:Nat->List Pt->Hp->Prop)(P:n<=1000)(E:∀D,H D=none->a 0 [] (upd H D (.lst [])))(F:∀i us H2 D ws,Bt o H H2->H D=none->a i us H2->a i us (upd H2 D (.lst ws)))(hl:∀l,o=some l->H l≠none)(t:∀i us H2,i<n->Bt o H H2->a i us H2->J.go i H2)(G:∀i us H2 v H',i<n->Bt o H H2->a i us H2->J.N_ i H2 v H'->v=item i/\H'=H2)(x:∀us H2,Bt o H H2->a n us H2->J.stop n H2)(I:∀i us H2 (R:VK),i<n->Bt o H H2->a i us H2->us.length=i->(∀w u f,Bt o H2 f->Val (nw H2 f) w u->a (i+1) (us++[u]) f->R w f)->te (some (item i)::Bq σ fs) H2 R)(L:∀D H2 ws us,H D=none->Bt o H H2->H2 D=some (.lst ws)->us.length=n->AS (nw H H2) ws us->a n us H2->Q (.ref D) H2):Er J Mg te fs σ H Q:=by
 refine JT n item (fun D i H2=>H D=none/\Bt o H H2/\∃ws us,H2 D=some (.lst ws)/\us.length=i/\AS (nw (upd H D (.lst [])) H2) ws us/\a i us H2) (fun D c=>⟨c,.new .refl c,[],[],AD,rfl,.nil,E D c⟩) (fun D i H2 g ⟨_,s,ws,us,_,_,_,d⟩=>t i us H2 g s d) (fun D i H2 v H' g ⟨_,s,ws,us,_,_,_,d⟩ y=>G i us H2 v H' g s d y) (fun D H2 ⟨_,s,ws,us,_,_,_,d⟩=>x us H2 s d) (fun D i H2 _ g ⟨c,s,ws,us,j,p,q,d⟩=>?_) (fun D H2 _ ⟨c,s,ws,us,j,p,q,d⟩=>?_)
 ·refine I i us H2 _ g s d p fun w u f r M A=>?_;have N:o≠some D:=fun z=>hl D z c;have O:=r.keep D _ N j;have S:=q.length;have C:∀b,upd H D (.lst []) b=none->b≠D/\H b=none:=fun b h=>Bv h;refine⟨ws,O,Nat.lt_of_le_of_lt (by lia) (Aw (Nat.le_refl 1000)),c,(s.trans r).new c,ws++[w],us++[u],AD,by simp[p],AS.snoc (q.up (BB (fun b h=>h) fun b e k B=>?_)) (M.up (BB (fun b h=>?_) fun b e k B=>?_)),F _ _ _ _ _ (s.trans r) c A⟩
  ·have m:=(C b k).1;rw[AH m];refine r.keep b e (fun z=>?_) B;exact hl b z (C b k).2
  ·have m:b≠D:=fun z=>by rw[z,j]at h;cases h
   rw[AH m];exact s.EC b h
  ·have m:b≠D:=fun z=>by rw[z,j]at k;cases k
   rw[AH m];exact B
 ·exact L D H2 ws us c s j p (q.up (BB (fun b h=>(Bv h).2) fun b e _ h=>h)) d
theorem Lw(o:Option Addr)(n:Nat)(item:Nat->V)(ks:List Str)(c:Nat->List Pt->Hp->Prop)(hn:n<=1000)(h0:∀D,H D=none->c 0 [] (upd H D (.lst [])))(T:∀i us H2 D e,Bt o H H2->(H D=none)->c i us H2->c i us (upd H2 D e))(hl:∀l,o=some l->H l≠none)(G:∀i us H2,i<n->Bt o H H2->c i us H2->J.go i H2)(hy:∀i us H2 v H',i<n->Bt o H H2->c i us H2->J.N_ i H2 v H'->v=item i/\H'=H2)(I:∀us H2,Bt o H H2->c n us H2->J.stop n H2)(he:∀i us H2 (R:VK),i<n->Bt o H H2->c i us H2->us.length=i->(∀w u k t,Bt o H2 k->Val (nw H2 k) w u->c (i+1) (us++[u]) k->k t=none->R (.ref t) (upd k t (.tup [.str (ks.getD i ""),w])))->te (some (item i)::Bq σ fs) H2 R)(hQ:∀D H2 (ts:List Addr) ws us,H D=none->Bt o H H2->H2 D=some (.lst (ts.map V.ref))->ts.length=n->us.length=n->(∀(j:Nat) t w,ts[j]?=some t->ws[j]?=some w->H2 t=some (.tup [.str (ks.getD j ""),w])/\H t=none)->AS (nw H H2) ws us->c n us H2->Q (.ref D) H2):Er J Mg te fs σ H Q:=by
 refine JT n item (fun D i H2=>H D=none/\Bt o H H2/\∃(ts:List Addr)(ws:List V)(us:List Pt),H2 D=some (.lst (ts.map V.ref))/\ts.length=i/\us.length=i/\(∀(j:Nat) t w,ts[j]?=some t->ws[j]?=some w->H2 t=some (.tup [.str (ks.getD j ""),w])/\H t=none)/\AS (nw (upd H D (.lst [])) H2) ws us/\c i us H2) (fun D d=>⟨d,.new .refl d,[],[],[],AD,rfl,rfl,(fun j t w h=>by simp at h),.nil,h0 D d⟩) (fun D i H2 r ⟨_,s,ts,ws,us,_,_,_,_,_,g⟩=>G i us H2 r s g) (fun D i H2 v H' r ⟨_,s,ts,ws,us,_,_,_,_,_,g⟩ y=>hy i us H2 v H' r s g y) (fun D H2 ⟨_,s,ts,ws,us,_,_,_,_,_,g⟩=>I us H2 s g) (fun D i H2 _ r ⟨d,s,ts,ws,us,x,lt,C,L,E,g⟩=>?_) (fun D H2 _ ⟨d,s,ts,ws,us,x,lt,C,L,E,g⟩=>?_)
 ·refine he i us H2 _ r s g C fun w u k t m vw M p=>?_;have oD:o≠some D:=fun z=>hl D z d;have N:=m.keep D _ oD x;have U:t≠D:=fun z=>by rw[z,N]at p;cases p
  have d4:upd k t (.tup [.str (ks.getD i ""),w]) D=some (.lst (ts.map V.ref)):=by rw[AH (Ne.symm U)];exact N
  have lw:=E.length;have F:H t=none:=(s.trans m).EC t p;have X:∀b,upd H D (.lst []) b=none->b≠D/\H b=none:=fun b h=>Bv h;refine⟨ts.map V.ref,d4,Nat.lt_of_le_of_lt (by rw[List.length_map];lia) (Aw (Nat.le_refl 1000)),d,((s.trans m).new F).new d,ts++[t],ws++[w],us++[u],by rw[AD,List.map_append];rfl,by simp[lt],by simp[C],fun j q Y a f=>?_,AS.snoc (E.up (BB (fun b h=>h) fun b e a f=>?_)) (vw.up (BB (fun b h=>?_) fun b e a f=>?_)),T _ _ _ _ _ ((s.trans m).new F) d (T _ _ _ _ _ (s.trans m) F M)⟩
  ·by_cases hj:j<ts.length
   ·rw[List.getElem?_append_left hj]at a;rw[List.getElem?_append_left (by lia)]at f;obtain⟨g1,Z⟩:=L j q Y a f;have A:=m.keep q _ (fun z=>hl q z Z) g1;have n1:q≠t:=fun z=>by rw[z,p]at A;cases A
    have n2:q≠D:=fun z=>by rw[z,N]at A;cases A
    exact⟨by rw[AH n2,AH n1];exact A,Z⟩
   ·have O:=(yo a).1;rw[List.length_append,List.length_singleton]at O;have ej:j=i:=by lia
    subst ej;rw[List.getElem?_append_right (by lia),lt,Nat.sub_self]at a;have e1:t=q:=by simpa using a
    subst e1;rw[List.getElem?_append_right (by lia),show j-ws.length=0 by lia]at f;have e2:w=Y:=by simpa using f
    subst e2;exact⟨by rw[AH U,AD],F⟩
  ·have B:=(X b a).1;have hb:=(X b a).2;have P:=m.keep b e (fun z=>hl b z hb) f;have S:b≠t:=fun z=>by rw[z,p]at P;cases P
   rw[AH B,AH S];exact P
  ·have B:b≠D:=fun z=>by rw[z,x]at h;cases h
   rw[AH B];exact s.EC b h
  ·have B:b≠D:=fun z=>by rw[z,x]at a;cases a
   have S:b≠t:=fun z=>by rw[z,p]at f;cases f
   rw[AH B,AH S];exact f
 ·exact hQ D H2 ts ws us d s x lt C L (E.up (BB (fun b h=>(Bv h).2) fun b e _ h=>h)) g
end
mutual
def Pt.nice:Pt->Prop
 | .int _| .str _| .bl _| .Ah=>True
 | .lst xs| .tup xs=>xs.length<=900/\Pt.CC xs
 | .Ar ks xs=>ks.length=xs.length/\ks.Nodup/\ks.length<=900/\Pt.CC xs
def Pt.CC:List Pt->Prop
 |[]=>True
 |x::r=>Pt.nice x/\Pt.CC r
end
theorem Pt.GF:∀{xs:List Pt},Pt.CC xs->∀x∈xs,x.nice
 |y::r,h,x,a=>by
  simp only[Pt.CC]at h;rcases List.mem_cons.mp a with rfl|a
  ·exact h.1
  ·exact Pt.GF h.2 x a
theorem Pt.HP:∀{xs:List Pt},(∀x∈xs,x.nice)->Pt.CC xs
 |[],_=>trivial
 |x::r,h=>⟨h x List.mem_cons_self,Pt.HP fun y a=>h y (List.mem_cons_of_mem _ a)⟩
mutual
theorem Pt.Fg:∀t:Pt,t.doc->t.size<=900->t.nice
 | .int _,_,_=>trivial
 | .str _,_,_=>trivial
 | .bl _,d,_=>by simp[Pt.doc]at d
 | .Ah,d,_=>by simp[Pt.doc]at d
 | .tup _,d,_=>by simp[Pt.doc]at d
 | .lst xs,d,z=>by
  simp only[Pt.doc]at d;simp only[Pt.size]at z;have:=Pt.Cr xs;simp only[Pt.nice];exact⟨by lia,Pt.IQ xs d (by lia)⟩
 | .Ar a xs,d,z=>by
  simp only[Pt.doc]at d;simp only[Pt.size]at z;simp only[Pt.nice];exact⟨d.1,d.2.1,by lia,Pt.IQ xs d.2.2.2.2 (by lia)⟩
theorem Pt.IQ:∀xs:List Pt,Pt.Cj xs->Pt.AI xs<=900->Pt.CC xs
 |[],_,_=>trivial
 |x::r,d,z=>by
  simp only[Pt.Cj]at d;simp only[Pt.AI]at z;exact⟨Pt.Fg x d.1 (by lia),Pt.IQ r d.2 (by lia)⟩
end
def Cb(ks:List Str)(ws:List V):List (Key×V):=(ks.zip ws).map fun p=>(Sum.inr p.1,p.2)
theorem Bn(l:ks.length=ws.length):(Cb ks ws).map (·.1)=ks.map Sum.inr:=by
 unfold Cb;rw[List.map_map];have:(ks.zip ws).map Prod.fst=ks:=List.map_fst_zip (by lia)
 conv=>rhs;rw[<-this,List.map_map]
 rfl
theorem CP(l:ks.length=ws.length):(Cb ks ws).map (·.2)=ws:=by
 unfold Cb;rw[List.map_map];have:(ks.zip ws).map Prod.snd=ws:=List.map_snd_zip (by lia)
 conv=>rhs;rw[<-this]
 rfl
theorem B_(l:ks.length=ws.length):(Cb ks ws).length=ks.length:=by
 have:=congrArg List.length (Bn l);simpa using this
theorem HQ{j:Nat}{k:Key}(h:(Cb ks ws)[j]?=some (k,v)):∃nm,ks[j]?=some nm/\ws[j]?=some v/\k=Sum.inr nm:=by
 unfold Cb at h;rw[List.getElem?_map]at h;cases e:(ks.zip ws)[j]? with
 |none=>rw[e]at h;cases h
 |some p=>
  obtain⟨x,y⟩:=p;rw[e]at h;have h:=yq h;rw[List.getElem?_zip_eq_some]at e;have a:(Sum.inr x:Key)=k:=congrArg Prod.fst h;have b:y=v:=congrArg Prod.snd h;subst a b;exact⟨x,e.1,e.2,rfl⟩
theorem Di(l:ks.length=ws.length)(nd:ks.Nodup):CY [] (Cb ks ws)=Cb ks ws:=Ew _ _ (by
 have:((Cb ks ws).map (·.1)).Nodup:=by
  rw[Bn l];exact List.Pairwise.map _ (fun a b h z=>h (Sum.inr.inj z)) nd
 simpa using this)
theorem Qp{kvs:List (Key×V)}(c:kvs.map (·.1)=ks.map Sum.inr){k:Key}(e:kvs[i]?=some (k,v)):i<ks.length/\k=Sum.inr (ks.getD i ""):=by
 have d:kvs.length=ks.length:=by have:=congrArg List.length c;simpa using this
 have a:=(yo e).1;rw[d]at a;refine⟨a,?_⟩;have b:=congrArg (fun z=>z[i]?) c;simp only[List.getElem?_map,e,yn a]at b;have b:k=Sum.inr ks[i]:=by simpa using b
 rw[b,List.getD_eq_getElem?_getD,yn a];rfl
theorem Mx{H:Hp}:∀{kvs:List (Key×V)}{ks:List Str}{ts:List Pt},kvs.map (·.1)=ks.map Sum.inr->AS H (kvs.map (·.2)) ts->ks.Nodup->∀{i:Nat},i<ks.length->∃v t,BQ kvs (Sum.inr (ks.getD i ""))=some v/\ts[i]?=some t/\Val H v t
 |[],[],_,_,_,_,i,h=>by simp at h
 |[],_::_,_,h,_,_,_,_=>by simp at h
 |_::_,[],_,h,_,_,_,_=>by simp at h
 |(y,v)::kvs,x::ks,_,h,.cons b r,nd,0,c=>by
  simp only[List.map_cons,List.cons.injEq]at h;obtain⟨e,h⟩:=h;subst e;exact⟨v,_,Bb rfl,by simp,b⟩
 |(y,v)::kvs,x::ks,_,h,.cons b r,nd,i+1,c=>by
  simp only[List.map_cons,List.cons.injEq]at h;obtain⟨e,h⟩:=h;subst e;obtain⟨d,f⟩:=List.nodup_cons.mp nd;have a:i<ks.length:=by simpa using c
  obtain⟨w,t,g,j,k⟩:=Mx h r f a;have l:(x::ks).getD (i+1) ""=ks.getD i "":=by simp
  rw[l];refine⟨w,t,?_,by simpa using j,k⟩;rw[Bc (fun z=>d ?_)]
  ·exact g
  ·have z:=Sum.inr.inj z;rw[z,List.getD_eq_getElem?_getD,yn a];exact List.getElem_mem a
mutual
noncomputable def Pt.wide:Pt->Nat
 | .int _| .str _| .bl _| .Ah=>0
 | .lst xs| .tup xs=>Pt.Vq xs
 | .Ar ks xs=>max ks.length (Pt.Vq xs)
noncomputable def Pt.Vq:List Pt->Nat
 |[]=>0
 |x::r=>max (Pt.wide x) (Pt.Vq r)
end
structure Tp(H:Hp)(n:Addr)(ys:List Str):Prop where
 at_:H n=some (.lst (ys.map V.str))
 len:ys.length=4
 nd:ys.Nodup
 nb:∀y∈ys,Dn y=true
theorem Tp.up{n:Addr}{ys:List Str}(h:Tp H n ys)(s:AF H H'):Tp H' n ys:=⟨s _ _ h.at_,h.len,h.nd,h.nb⟩
theorem Tp.but{n:Addr}{ys:List Str}(h:Tp H n ys)(s:Bt (some l) H H')(nl:n≠l):Tp H' n ys:=⟨s.keep _ _ (fun z=>nl (yq z).symm) h.at_,h.len,h.nd,h.nb⟩
def Om:Sp:=fun b H Q _=>∃c:Int,b=[.int c]/\∀(p:Addr)(d:List Str)(a:Hp),AF H a->H p=none->Tp a p d->Q (.ref p) a
structure Small(H H':Hp)(v:V)(t:Pt):Prop where
 val:Val (nw H H') v t
 sm:Sm t
 doc:t.doc
 size:t.size<=4
 deep:t.deep<=2
def Ga:Sp:=fun b H Q _=>∃(c:Int)(k:Nat)(n:Addr)(d:List Str),b=[.int c,.int (k:Int),.ref n]/\k<=1000/\Tp H n d/\∀(v:V)(t:Pt)(a:Hp),AF H a->Small H a v t->Q v a
def GG(n:Nat):Sp:=fun b H Q _=>∃(v:V)(t:Pt),b=[v]/\Val H v t/\t.nice/\t.deep<=n/\∀(w:V)(a:Hp),AF H a->Val (nw H a) w t->Q w a
def My(n:Nat):Sp:=fun f H Q _=>∃(l:Addr)(d:Nat)(nm:Addr)(c:List Int)(g:List Str),f=[.ref l,.int (d:Int),.ref nm]/\d+4<=n/\H l=some (.lst (c.map V.int))/\c.length<=100/\nm≠l/\Tp H nm g/\
 ∀(v:V)(a:Ak)(b:List Int)(e:Hp),Bt (some l) H e->e l=some (.lst (b.map V.int))->b.length<=c.length->Val (nw H e) v a.pt->a.ok->a.size<=1+4*(c.length-b.length)->a.deep<=d+1->a.Io->Q v e
def ov(G H H':Hp):Hp:=fun b=>match G b with
 |some o=>some o
 |none=>nw H H' b
theorem Dt:AF G (ov G H H'):=fun b o e=>by unfold ov;rw[e]
theorem Gb(s:AF G H)(a:AF H H'):AF (ov G H H') H':=fun b o e=>by
 unfold ov at e;cases h:G b with
 |some z=>rw[h]at e;cases e;exact a _ _ (s _ _ h)
 |none=>rw[h]at e;exact Ff _ _ e
def Rz:Sp:=fun e H Q _=>∃(v:V)(a:Ak)(c:Int)(nm:Addr)(f:List Str),e=[v,.int c,.ref nm]/\Val H v a.pt/\a.ok/\a.size<=57/\a.deep<=5/\a.Io/\Tp H nm f/\
 ∀(w:V)(b:Ak)(d:Hp),AF H d->Val d w b.pt->b.ok->b.size<=70->b.deep<=15->b.Io->Q w d
end
section
variable{K:yt} [BR K]
theorem Vr{a:List (Key×V)}{b:List Str}(c:a.map (·.1)=b.map Sum.inr)(k:Str):(BQ a (Sum.inr k)).isSome=decide (k∈b):=by
 rw[Bool.eq_iff_iff,decide_eq_true_iff];have d:(Sum.inr k:Key)∈a.map (·.1)↔k∈b:=by
  rw[c];constructor
  ·intro h;obtain⟨y,f,e⟩:=List.mem_map.mp h;rw[<-Sum.inr.inj e];exact f
  ·exact fun h=>List.mem_map_of_mem h
 rw[<-d];cases e:BQ a (Sum.inr k:Key)with
 |none=>simp only[Option.isSome_none];exact⟨(fun h=>nomatch h),fun h=>absurd h (ON e)⟩
 |some z=>simp only[Option.isSome_some];exact⟨fun _=>Mf e,fun _=>trivial⟩
end
section
variable{X:Cx}
theorem Mz:∀{us:List Value},Vals (ss.map V.str) us->StrsAre us ss:=by
 induction ss with
 |nil=>intro us h;cases h;exact .nil
 |cons x r a=>
  intro us h;cases h with
  |cons b c=>
   obtain⟨t,rfl⟩:=b;exact .cons x t (a c)
inductive Vs(K:yt)(xs:List V)(H:Hp)(Q:VK):Prop
 |mk(d:Addr)(ss:List Str)(b:xs=[.ref d])(c:As K H d (ss.map V.str))(e:ss.length<64)(f:∀(p:Addr) (a:List Str) (H':Hp),H p=none->AF H H'->H' p=some (.lst (a.map V.str))->a.Perm ss->sortedS a=true->Q (.ref p) H')
theorem M_(S:X.calm=true):Bh X (.builtin "sorted") (Vs X.K):=by
 intro pins s T H U W Q I r h;obtain⟨d,y,rfl,J,n,q⟩:=h;obtain⟨u,rfl,L⟩:=vals1 r;cases L;obtain⟨a,z,pl,l⟩:=I.list J;obtain⟨Y,p,j,Z,k⟩:=id pl.isList;have A:a.length=y.length:=by rw[<-z.length,List.length_map]
 have l:a.length<=sizeLine:=Nat.le_of_lt (Aw (by lia));have t:StrsAre a y:=Mz z;refine Calls.call_function_entry kind_sorted plain_sorted entry_sorted (args_sorted1 _) ?_;unfold Builtin.«sorted»;refine wpAny_bind (m:=checkCount "sorted" 1 1 _) (wpAny_pure (wpAny_bind (wpAny_collect_seq d (.inl rfl) p j k (fun c keep=>?_) (by rw[List.size_toArray];exact l))));rw[List.toList_toArray];refine wpAny_bind (wpAny_newList ?_ l);have f:(c.push {cls:=.type "list",data:=.seq a.toArray}).get? c.objs.size=some (seqObj "list" a.toArray 0):=Heap.get?_push_size _ rfl;refine wpAny_bind (wpAny_holding (wpAny_call_entry slot_list_sort ⟨_,f,rfl⟩ entry_list_sort (list_sort_treeK strKind_oneLt f t.keysOf (fun B C rest e=>keyKind_strs (by rw[<-e];exact t)) (by rw[A];exact n) fun g a1 a2=>⟨_,rfl,?_⟩) (args_list_sort _)));obtain⟨i,M,D,N⟩:=sorted_out_str t a1 a2;obtain⟨O,P⟩:=sortedHeap_at (out:=(arrOf g).map (·.2)) f;refine wpAny_pure ⟨_,rfl,?_⟩;have v:(c.push {cls:=.type "list",data:=.seq a.toArray}).objs.size=c.objs.size+1:=size_push' ..;have E:=I.kept (t':=s.toks) keep;have R:∀b o,c.get? b=some o->(sortedHeap (c.push {cls:=.type "list",data:=.seq a.toArray}) c.objs.size a ((arrOf g).map (·.2))).get? b=some o:=fun b o e=>by
  have F:b<c.objs.size:=Heap.lt_size e;rw[sortedHeap_old (Nat.ne_of_lt F) (by rw[v];exact Nat.lt_succ_of_lt F)];exact Heap.get?_push_of_some _ e
 have x:i.length<=sizeLine:=by
  rw[D.length_eq,<-A];exact l
 have new:A_ X.prog X.w (upd H c.objs.size (.lst (i.map V.str))) (sortedHeap (c.push {cls:=.type "list",data:=.seq a.toArray}) c.objs.size a ((arrOf g).map (·.2))) c.objs.size (.lst (i.map V.str)):=
  ⟨by rw[List.length_map];exact x,((arrOf g).map (·.2)).toList,O,Ln M,by rw[Array.toArray_toList];exact P⟩
 have G:H c.objs.size=none:=E.fresh;exact⟨.ref c.objs.size,_,E.laid (t':=s.toks) R (Nat.le_refl _) new,rfl,q _ i _ G (AF.new G) AD D N⟩
end
variable{us:List Pt}
section
variable{K:yt} [BR K]
namespace Ak
theorem Ck(a b:List Ak):CO (a++b)=CO a++CO b:=by simp[AW]
theorem Ab(a b:List Ak):AI (a++b)=AI a+AI b:=by
 induction a with
 |nil=>simp[AI]
 |cons x r c=>simp only[List.cons_append,AI,c];lia
theorem Az(a b:List Ak):AJ (a++b)=max (AJ a) (AJ b):=by
 induction a with
 |nil=>simp[AJ]
 |cons x r c=>simp only[List.cons_append,AJ,c];lia
theorem Cm{a b:List Ak}(h:DW a)(g:DW b):DW (a++b):=Fe fun x c=>(List.mem_append.mp c).elim (Cz h x) (Cz g x)
theorem GH(a:Ak):AI [a]=a.size:=by simp[AI]
theorem GK(a:Ak):AJ [a]=a.deep:=by simp[AJ]
theorem JV{a:Ak}(h:a.ok):DW [a]:=⟨h,trivial⟩
end Ak
theorem Qq(l:ks.length=ws.length)(y:Str)(v:V):Cb (ks++[y]) (ws++[v])=Cb ks ws++[(Sum.inr y,v)]:=by
 unfold Cb;rw[List.zip_append l,List.map_append];rfl
theorem JW(l:ks.length=ws.length)(h:y∉ks)(v:V):putK (Cb ks ws) (Sum.inr y) v=Cb (ks++[y]) (ws++[v]):=by
 rw[Qq l,OI];have:=Vr (Bn l) y;rw[decide_eq_false h]at this;cases e:BQ (Cb ks ws) (Sum.inr y:Key)with
 |none=>rfl
 |some z=>rw[e]at this;cases this
structure GQ(H H4:Hp)(l p6 p7:Addr)(ys:List Str)(d N:Nat)(i:Nat)(Hi:Hp)(ks:List Str)(as:List Ak)(ls:List Str)(LB:List Int)(ws:List V):Prop where
 n6:H p6=none
 n7:H p7=none
 o6:H4 p6≠none
 o7:H4 p7≠none
 ne:p6≠p7
 hl:H l≠none
 h4:∀b,H4 b=none->H b=none
 bt:Bt (some l) H Hi
 dm:∀b,Hi b=none->H4 b=none
 e6:Hi p6=some (.dK (Cb ks ws))
 e7:Hi p7=some (.lst (ls.map V.str))
 el:Hi l=some (.lst (LB.map V.int))
 le:LB.length<=N
 lw:ks.length=ws.length
 la:ks.length=as.length
 vl:AS (nw H4 Hi) ws (Ak.CO as)
 ok:Ak.DW as
 fw:Ak.IP as
 lm:ks.length+ls.length<=i
 sz:Ak.AI as<=i+4*(N-LB.length)
 dp:Ak.AJ as<=d
 ik:∀k∈ks,∃j,j<i/\ys[j]?=some k
 il:∀k∈ls,∃j,j<i/\ys[j]?=some k
 nk:ks.Nodup
 dj:∀x∈ls,x∉ks
 l4:ks.length<=i
 m4:ls.length<=i
 nl:ls.Nodup
section
variable{H H4:Hp} {l p6 p7:Addr} {ys:List Str} {d N:Nat} {i:Nat} {Hi:Hp} {ks:List Str} {as:List Ak} {ls:List Str} {LB:List Int} {ws:List V}
theorem GQ.up{H':Hp}(t:GQ H H4 l p6 p7 ys d N i Hi ks as ls LB ws)(s:AF Hi H'):GQ H H4 l p6 p7 ys d N i H' ks as ls LB ws:=
 {t with bt:=t.bt.trans (.of s),dm:=fun b h=>t.dm b (s.free h),e6:=s _ _ t.e6,e7:=s _ _ t.e7,el:=s _ _ t.el,vl:=t.vl.up (BB (fun b h=>h) fun b e _ h=>s _ _ h)}
theorem GQ.weak(t:GQ H H4 l p6 p7 ys d N i Hi ks as ls LB ws):GQ H H4 l p6 p7 ys d N (i+1) Hi ks as ls LB ws:=
 {t with sz:=by have:=t.sz;lia,lm:=by have:=t.lm;lia,ik:=fun k a=>let⟨j,c,b⟩:=t.ik k a;⟨j,by lia,b⟩,il:=fun k a=>let⟨j,c,b⟩:=t.il k a;⟨j,by lia,b⟩,l4:=by have:=t.l4;lia,m4:=by have:=t.m4;lia}
theorem GQ.fresh(t:GQ H H4 l p6 p7 ys d N i Hi ks as ls LB ws)(c:ys[i]?=some y)(nd:ys.Nodup):y∉ks/\y∉ls:=by
 have e:=(yo c).1;have inj:∀j,j<i->ys[j]?=some y->False:=fun j b a=>by
  rw[<-c]at a;have:=(List.getElem?_inj (by lia) nd).mp a;lia
 exact⟨fun h=>let⟨j,b,a⟩:=t.ik y h;inj j b a,fun h=>let⟨j,b,a⟩:=t.il y h;inj j b a⟩
theorem GQ.kq(t:GQ H H4 l p6 p7 ys d N i Hi ks as ls LB ws)(c:ys[i]?=some y)(nd:ys.Nodup):GQ H H4 l p6 p7 ys d N (i+1) (upd Hi p7 (.lst (ls.map V.str++[.str y]))) ks as (ls++[y]) LB ws:=by
 have f:=t.fresh c nd;have l7:l≠p7:=fun z=>t.hl (by rw[z];exact t.n7);exact{t.weak with
  bt:=t.bt.new t.n7
  dm:=fun b h=>t.dm b (Bv h).2
  e6:=by rw[AH t.ne];exact t.e6
  e7:=by rw[AD,List.map_append];rfl
  el:=by rw[AH l7];exact t.el
  vl:=t.vl.up (BB (fun b h=>h) fun b e g j=>by rw[AH (fun z=>t.o7 (by rw[<-z];exact g))];exact j)
  il:=fun k m=>(List.mem_append.mp m).elim (fun h=>t.weak.il k h) fun h=>⟨i,by lia,by rw[List.mem_singleton.mp h];exact c⟩
  dj:=fun x n=>(List.mem_append.mp n).elim (fun h=>t.dj x h) fun h=>by rw[List.mem_singleton.mp h];exact f.1
  m4:=by have:=t.m4;simp;lia
  lm:=by have:=t.lm;simp;lia
  nl:=List.nodup_append.mpr ⟨t.nl,by simp,fun a o b p z=>f.2 (by rw[<-List.mem_singleton.mp p,<-z];exact o)⟩}
theorem GQ.asked{a:Ak}{c:List Int}(t:GQ H H4 l p6 p7 ys d N i Hi ks as ls LB ws)(o:ys[i]?=some y)(nd:ys.Nodup)(bt:Bt (some l) Hi H')(el:H' l=some (.lst (c.map V.int)))(le:c.length<=LB.length)(q:Val (nw Hi H') v a.pt)(ok:a.ok)(sz:a.size<=1+4*(LB.length-c.length))(dp:a.deep<=d)(fw:a.Io):
  H' p6=some (.dK (Cb ks ws))/\putK (Cb ks ws) (Sum.inr y) v=Cb (ks++[y]) (ws++[v])/\GQ H H4 l p6 p7 ys d N (i+1) (upd H' p6 (.dK (Cb (ks++[y]) (ws++[v])))) (ks++[y]) (as++[a]) ls c (ws++[v]):=by
 have f:=t.fresh o nd;have l6:l≠p6:=fun z=>t.hl (by rw[z];exact t.n6);have l7:l≠p7:=fun z=>t.hl (by rw[z];exact t.n7);have e6:=bt.keep _ _ (fun z=>l6 (yq z)) t.e6;have e7:=bt.keep _ _ (fun z=>l7 (yq z)) t.e7;refine⟨e6,JW t.lw f.1 v,{t.weak with
  bt:=(t.bt.trans bt).new t.n6
  dm:=fun b h=>t.dm b (bt.EC b (Bv h).2)
  e6:=AD
  e7:=by rw[AH (Ne.symm t.ne)];exact e7
  el:=by rw[AH l6];exact el
  le:=Nat.le_trans le t.le
  lw:=by have:=t.lw;simp[this]
  la:=by have:=t.la;simp[this]
  vl:=?_
  ok:=Ak.Cm t.ok (Ak.JV ok)
  fw:=Ak.EB t.fw ⟨fw,trivial⟩
  lm:=by have:=t.lm;simp;lia
  sz:=by
   rw[Ak.Ab,Ak.GH];have:=t.sz;have:=t.le;lia
  dp:=by rw[Ak.Az,Ak.GK];have:=t.dp;lia
  ik:=fun k r=>(List.mem_append.mp r).elim (fun h=>t.weak.ik k h) fun h=>⟨i,by lia,by rw[List.mem_singleton.mp h];exact o⟩
  nk:=by
   rw[List.nodup_append];refine⟨t.nk,by simp,fun a p b g z=>?_⟩;rw[List.mem_singleton.mp g]at z;rw[z]at p;exact f.1 p
  dj:=fun x m h=>(List.mem_append.mp h).elim (fun h=>t.dj x m h) fun h=>by
   rw[List.mem_singleton.mp h]at m;exact f.2 m
  l4:=by have:=t.l4;simp;lia}⟩
 rw[Ak.Ck];refine(t.vl.up (BB (fun b h=>h) fun b e j n=>?_)).snoc (q.up (BB (fun b h=>t.dm b h) fun b e j n=>?_))
 ·have g:b≠p6:=fun z=>t.o6 (by rw[<-z];exact j);rw[AH g];exact bt.keep b e (fun z=>t.hl (by rw[yq z];exact t.h4 b j)) n
 ·have g:b≠p6:=fun z=>by rw[z,t.e6]at j;cases j
  rw[AH g];exact n
end
theorem Pt.Fh{a b:List Pt}(h:Pt.Cj a)(g:Pt.Cj b):Pt.Cj (a++b):=Pt.JU fun x c=>(List.mem_append.mp c).elim (Pt.CN h x) (Pt.CN g x)
theorem Pt.Az(a b:List Pt):Pt.AJ (a++b)=max (Pt.AJ a) (Pt.AJ b):=by
 induction a with
 |nil=>simp[Pt.AJ]
 |cons x r c=>simp only[List.cons_append,Pt.AJ,c];lia
def EK(us:List Pt):Prop:=∀u∈us,u.doc/\u.size<=4/\u.deep<=2
theorem EK.size:∀{us:List Pt},EK us->Pt.AI us<=4*us.length
 |[],_=>by simp[Pt.AI]
 |x::r,h=>by
  have b:=h x List.mem_cons_self;have c:=EK.size (us:=r) fun y a=>h y (List.mem_cons_of_mem _ a);simp only[Pt.AI,List.length_cons];lia
theorem EK.deep:∀{us:List Pt},EK us->Pt.AJ us<=2
 |[],_=>by simp[Pt.AJ]
 |x::r,h=>by
  have b:=h x List.mem_cons_self;have c:=EK.deep (us:=r) fun y a=>h y (List.mem_cons_of_mem _ a);simp only[Pt.AJ];lia
theorem EK.kr(h:EK us):Pt.Cj us:=Pt.JU fun x a=>(h x a).1
theorem Zj{u:TS}{a:St}(h:u D (a.set i (some v)) H):QK (QL (tC v) (CA i)) u D a H:=h
theorem R_{a:Type}{y k:Str}{t:a}(n:k≠y):∀{ks:List Str}{us:List a},ks.length=us.length->lk (ks++[y]) (us++[t]) k=lk ks us k
 |[],[],_=>by rw[List.nil_append,List.nil_append,BW,if_neg n]
 |[],_::_,l=>by simp at l
 |_::_,[],l=>by simp at l
 |x::ks,u::us,l=>by rw[List.cons_append,List.cons_append,BW,BW,R_ n (by simpa using l)]
theorem Oo{G:Hp}{y:Str}{v:V}{t:Pt}(g:Val G v t):∀{ks:List Str}{ws:List V}{us:List Pt},ks.length=ws.length->ks.Nodup->AS G ws us->∃(b:List V)(a:List Pt),(Cb ks ws).map (fun e=>if e.1=(Sum.inr y:Key)then(e.1,v)else e)=Cb ks b/\ks.length=b.length/\AS G b a/\(∀u∈a,u∈us∨u=t)/\Pt.AI a<=Pt.AI us+(if y∈ks then t.size else 0)/\(∀k,k≠y->lk ks a k=lk ks us k)
 |[],[],_,_,_,.nil=>⟨[],[],rfl,rfl,.nil,(fun u h=>nomatch h),by simp,fun _ _=>rfl⟩
 |[],_::_,_,l,_,_=>by simp at l
 |_::_,[],_,l,_,_=>by simp at l
 |k::ks,w::ws,_,l,nd,.cons (t:=u) (ts:=us) h r=>by
  obtain⟨q,s⟩:=List.nodup_cons.mp nd;obtain⟨b,a,i,j,m,n,A,o⟩:=Oo (y:=y) g (ks:=ks) (ws:=ws) (by simpa using l) s r;have p:Cb (k::ks) (w::ws)=(Sum.inr k,w)::Cb ks ws:=rfl;by_cases f:k=y
  ·subst f;refine⟨v::b,t::a,?_,by simp[j],.cons g m,fun x c=>?_,?_,fun z d=>by rw[BW,BW,if_neg d,if_neg d];exact o z d⟩
   ·rw[p,List.map_cons,i,if_pos rfl];rfl
   ·rcases List.mem_cons.mp c with rfl|c
    ·exact .inr rfl
    ·exact(n x c).imp (List.mem_cons_of_mem _) id
   ·rw[if_neg q]at A;rw[if_pos List.mem_cons_self];simp only[Pt.AI];lia
  ·refine⟨w::b,u::a,?_,by simp[j],.cons h m,fun x c=>?_,?_,fun z d=>by rw[BW,BW,o z d]⟩
   ·rw[p,List.map_cons,i,if_neg (fun z=>f (Sum.inr.inj z))];rfl
   ·rcases List.mem_cons.mp c with rfl|c
    ·exact .inl List.mem_cons_self
    ·exact(n x c).imp (List.mem_cons_of_mem _) id
   ·have:(y∈k::ks)↔y∈ks:=by
     constructor
     ·intro h;exact(List.mem_cons.mp h).resolve_left (fun z=>f z.symm)
     ·exact List.mem_cons_of_mem _
    simp only[this,Pt.AI];lia
theorem R'(i:Val G v t)(l:ks.length=ws.length)(nd:ks.Nodup)(h:AS G ws us):∃(c:List Str)(e:List V)(d:List Pt),putK (Cb ks ws) (Sum.inr y) v=Cb c e/\c.length=e.length/\c.Nodup/\AS G e d/\(∀k∈c,k∈ks∨k=y)/\(∀u∈d,u∈us∨u=t)/\Pt.AI d<=Pt.AI us+t.size/\c.length<=ks.length+1/\(∀k∈ks,k∈c)/\ks.length<=c.length/\(∀k,k≠y->lk c d k=lk ks us k):=by
 by_cases g:y∈ks
 ·obtain⟨e,d,n,o,p,q,j,r⟩:=Oo i (y:=y) l nd h;refine⟨ks,e,d,?_,o,nd,p,fun k f=>.inl f,q,by rw[if_pos g]at j;exact j,by lia,fun k f=>f,Nat.le_refl _,r⟩;unfold putK;rw[if_pos,n];rw[Ct,Vr (Bn l)];exact decide_eq_true g
 ·refine⟨ks++[y],ws++[v],us++[t],JW l g v,by simp[l],?_,h.snoc i,fun k f=>?_,fun u s=>?_,?_,by simp,fun k f=>List.mem_append_left _ f,by simp,fun k f=>R_ f (by rw[l,h.length])⟩
  ·rw[List.nodup_append];refine⟨nd,by simp,fun a m b w z=>?_⟩;rw[List.mem_singleton.mp w]at z;rw[z]at m;exact g m
  ·exact(List.mem_append.mp f).imp id List.mem_singleton.mp
  ·exact(List.mem_append.mp s).imp id List.mem_singleton.mp
  ·rw[Pt.Ab];simp only[Pt.AI];lia
theorem Ce{n:Nat}:∀{us:List Pt},(∀u∈us,u.deep<=n)->Pt.AJ us<=n
 |[],_=>by simp[Pt.AJ]
 |x::r,h=>by
  have b:=h x List.mem_cons_self;have c:=Ce (us:=r) fun y a=>h y (List.mem_cons_of_mem _ a);simp only[Pt.AJ];lia
end
section
variable{K:yt} [BR K]
section
variable{X:Cx}
inductive ft(x y:V)(H:Hp)(Q:VK):Prop
 |mk(l b:Addr)(xs zs:List V)(a:x=.ref l)(c:y=.ref b)(d:Rd H l (.lst xs))(e:Rd H b (.lst zs))(f:xs.length+zs.length<=sizeLine)(g:∀p,H p=none->Q (.ref p) (upd H p (.lst (xs++zs))))
theorem YM:Ek X (binaryOp .Add) ft:=by
 intro pins s p H x y v u Q I f g h;obtain⟨l,b,t,w,rfl,rfl,i,j,A,q⟩:=h;cases f;cases g;obtain⟨z,c,n,r,e⟩:=i.ok I.Ax;obtain⟨z2,a,B,d,k⟩:=j.ok I.Ax;have C:=r.length;have m:=d.length;refine PySem.P.add_list e k ?_ (by rw[List.size_toArray,List.size_toArray];lia);have o:c.toArray++a.toArray=(c++a).toArray:=by simp
 rw[o];exact⟨.ref _,_,I.Uz (t':=s.toks) (r.append d) (by rw[List.length_append];lia),rfl,q _ I.fresh⟩
end
theorem bL(a:AF G H)(h:H b=none):ov G H H' b=H' b:=by
 unfold ov;rw[a.free h,AY h]
theorem fu{a:Hp}(f:AF G H)(d:∀b,a b=none->H b=none)(s:∀b o,a b=none->H2 b=some o->c b=some o):AF (nw a H2) (ov G H c):=fun b o e=>by
 cases h:a b with
 |none=>rw[AY h]at e;rw[bL f (d b h)];exact s b o h e
 |some z=>rw[Bz h]at e;cases e
end
section
variable{K:yt} [BR K]
theorem Bt.over{a:Hp}{D:Addr}(s:AF a c)(d:a D=none)(bt:Bt (some D) c H2):AF a H2:=fun b o e=>bt.keep b o (fun z=>by rw[<-yq z,d]at e;cases e) (s _ _ e)
theorem Vt{a:Hp}{D:Addr}(s:AF a c)(d:a D=none):AF a (Cs D c):=fun b o e=>by
 rw[CI (fun z=>by rw[z,d]at e;cases e)];exact s _ _ e
theorem ints_of:∀{vs:List V},(∀(i:Nat) v,vs[i]?=some v->∃z:Int,v=.int z)->∃cs:List Int,vs=cs.map V.int
 |[],_=>⟨[],rfl⟩
 |v::r,h=>by
  obtain⟨z,rfl⟩:=h 0 v rfl;obtain⟨cs,rfl⟩:=ints_of (vs:=r) fun i v a=>h (i+1) v (by simpa using a);exact⟨z::cs,rfl⟩
end
end L2
namespace PySem
open PyProof.Rows PySem.F PySem.Spec
theorem LS:typeLookup (.type "zip") "keys"=pure none:=by rw[typeLookup_type,builtinLookup_eq_fast];kernel_rfl
theorem IS:typeLookup (.type "zip") "__getattr__"=pure none:=by rw[typeLookup_type,builtinLookup_eq_fast];kernel_rfl
theorem Ey:entryFor table "zip.__getattribute__"=some Builtin.«object.__getattribute__»:=
 entryFor_alias (id':="object.__getattribute__") (by kernel_rfl) (by decide+kernel) (by decide+kernel) (by kernel_rfl)
theorem Vu(a:Addr)(fs:Array Value)(name:Str)(u:Tok)(e:typeLookup (.type "zip") name=pure none)(b:(["__module__","__name__","__qualname__","__doc__","__annotations__"]:List Str).contains name=false)(hsz:name.length+100<=sizeLine:=by size_fits):
  Meets (Builtin.«object.__getattribute__» ⟨[.ref a,.str name u],[]⟩) (fun A R s=>s.heap.get? a=some {cls:=.type "zip",dict:=none,data:=.fields fs,slots:= #[]}/\raisesAttr (.ref a) name A R s):=
 Meets.of_wp fun prog w A R s c=>by
  obtain⟨f,g,d,h,os⟩:=s;obtain⟨i,c⟩:=c;have j:(⟨f,g,d,h,os⟩:Shared).TypeIs (.ref a) "zip":=⟨_,i,rfl⟩;unfold Builtin.«object.__getattribute__»
  repeat (any_goals (first|assumption|wp_step))
  simp only[b,Bool.false_eq_true,if_false]
  repeat (any_goals (first|assumption|wp_step))
  exact wpAny_raiseAttrError c.1 c.2 (attrMsg_fits (by decide+kernel) hsz)
theorem LU{prog:Program}{w:World}{A:Around}{E:Value->Shared->Prop}{s:Shared}{a:Addr}{fs:Array Value}{Q:Option Value->Shared->Prop}(i:s.heap.get? a=some {cls:=.type "zip",dict:=none,data:=.fields fs,slots:= #[]})(hA:A.handled=none)(h:∀f j e,Heap.NewExcOf s.heap f e "AttributeError"->Q none {s with heap:=f,toks:=j}):
  wpAny (model prog w) A (getAttr? (.ref a) "keys") Q E s:=by
 obtain⟨l,g,d,j,os⟩:=s;have k:∀b,(⟨l,g,d,b,os⟩:Shared).TypeIs (.ref a) "zip":=fun _=>⟨_,i,rfl⟩;have m:=sub_AttributeError;have n:=F.slot_zip_getattribute.lookup;have o:=F.slot_zip_getattribute.bind (.ref a);have p:=IS;unfold getAttr? getAttrBy? getAttrBy
 repeat (any_goals (first|assumption|exact k _|((with_reducible show wpAny _ _ (call (Value.builtin "zip.__getattribute__") _ _) _ _ _);refine call_meets F.slot_zip_getattribute (k _) Ey (F.args_zip_getattribute_2 _ _) (Vu a fs "keys" _ LS (by decide+kernel)) ⟨i,hA,fun f b e c=>?_⟩)|wp_step))
 obtain⟨q,r,t⟩:=c.there;show wpAny _ _ (getattributeRaised _ _ _ _ _ _ _) _ _ _;unfold getattributeRaised
 repeat (any_goals (first|assumption|wp_step))
 exact h _ _ _ c.of
end PySem
namespace L2
open PySem PySem.Spec PyProof.Rows
section
variable{prog:Program} {w:World} {K:Type} [DecidableEq K] {knd:KeyKind prog w K} {A:Around} {R:Result->Shared->Prop}
theorem Tq{d z TI TO t u l1 l2:Addr}{xs ys:Array Value}{more:List (K×Value)}(Q:A.handled=none)(D:ZipApart z TI TO t u l1 l2)(c:z≠d/\TI≠d/\TO≠d/\t≠d/\u≠d/\l1≠d/\l2≠d)(hl:xs.size=more.length)(hsz:more.length<=100000)(S:∀(j:Nat) l f,more[j]?=some (l,f)->∃a,xs[j]?=some a/\ys[j]?=some f/\knd.is l a=true):
  ∀(k i:Nat)(s:Shared),more.length-i=k->i<=more.length->bH s.heap z TI TO t u l1 l2 d i xs ys->s.heap.DictOf knd d (merged [] (more.take i))-> (∀h' tk,h'.DictOf knd d (merged [] more)->(∀b o,b≠d->b≠z->b≠TO->b≠t->b≠u->s.heap.get? b=some o->h'.get? b=some o)->R (.ok (.ret .none)) {s with heap:=h',toks:=tk})->
   codeAny (model prog w) A (.builtin "dict.update.loop" ⟨[.ref d,.ref z,rawInt (i:Int),.none],[]⟩) R s:=by
 intro k
 induction k with
 |zero=>
  intro i s T U st v y;have B:i=more.length:=by lia
  subst B;refine codeAny_builtin Bk ?_;rw[Around.under_plainId Ai _];show wpAny _ A.in1 (pyNext (.ref z)>>=_) _ _ s;refine wpAny_bind (Vk (A:=A.in1) Q D st (by simp[<-hl]) fun h' kept=>?_);rw[List.take_length]at v;obtain⟨o,C,E,x,r⟩:=v;show wpAny _ A.in1 (Builtin.Dict.addKeywords d []>>=_) _ _ _;exact wpAny_bind (wpAny_pure (wpAny_pure (y h' s.toks ⟨o,C,E,kept _ _ c.1.symm c.2.2.1.symm c.2.2.2.1.symm c.2.2.2.2.1.symm x,r⟩ fun b o _ c1 c2 c3 c4 e=>kept b o c1 c2 c3 c4 e)))
 |succ k V=>
  intro i s T U st v y;have m:i<more.length:=by lia
  obtain⟨⟨l,f⟩,N⟩:∃p,more[i]?=some p:=⟨_,yn m⟩;obtain⟨a,W,X,g⟩:=S i l f N;obtain⟨o,C,E,x,r⟩:=id v;have F:d<s.heap.objs.size:=Heap.lt_size x;refine codeAny_builtin Bk ?_;rw[Around.under_plainId Ai _];show wpAny _ A.in1 (pyNext (.ref z)>>=_) _ _ s;refine wpAny_bind (Vj (A:=A.in1) D st F W X fun h' G h O kept=>?_);have Y:({s with heap:=h'}:Shared).TypeIs (.ref s.heap.objs.size) "tuple":=⟨_,h,rfl⟩;have H:h'.DictOf knd d (merged [] (more.take i)):=⟨o,C,E,kept _ _ c.1.symm c.2.2.1.symm c.2.2.2.1.symm c.2.2.2.2.1.symm x,r⟩;have I:(merged [] (more.take i)).length<=sizeLine:=by
   have:=merged_length_le ([]:List (K×Value)) (more.take i);rw[List.length_take,List.length_nil]at this;have e:sizeLine=16777216:=sizeLine_eq;lia
  show wpAny _ A.in1 (holding [Value.ref s.heap.objs.size] _>>=_) _ _ _;refine wpAny_bind (wpAny_holding (wpAny_bind (wpAny_tryCatch ?_)));unfold Builtin.Dict.pairItems;refine wpAny_bind (wpAny_typeOf Y ?_);rw[if_pos (by decide)];unfold seqItems?;refine wpAny_bind ?_;refine wpAny_bind (wpAny_load h ?_);refine wpAny_pure (wpAny_pure ?_);show wpAny _ A.in1 (holding [a,f] (dictSet d a f)) _ _ _;refine wpAny_holding ?_;unfold dictSet
  try with_reducible refine wpAny_holding ?_
  refine wpAny_bind (knd.pyHash g ?_);refine wpAny_dictSetHashed_pairs (hsz:=I) g H fun h2 n q=>?_;have Z:stored (merged [] (more.take i)) l f=merged [] (more.take (i+1)):=(merged_take_succ [] more i (l,f) N).symm;rw[Z]at n;have ic:((i:Int)+1)=((i+1:Nat):Int):=by simp
  refine wpAny_pure ⟨plainId_quiet Ai _,?_⟩;rw[ic];refine V (i+1) _ (by lia) m (G.keep (fun b o hb e=>by rw[q.2 b hb];exact e) c) n fun h3 J L M=>y h3 J L fun b o P c1 c2 c3 c4 e=>M b o P c1 c2 c3 c4 (by rw[q.2 b P];exact kept b o c1 c2 c3 c4 e)
end
section
variable{X:Cx} {pins:List (Addr×Obj)} {σ:St} {H:Hp} {s:Shared}
def dO(ks:List Str)(ys:List V):List (Key×V):=(ks.zip ys).map fun p=>(Sum.inr p.1,p.2)
inductive ku(K:yt)(x y:V)(H:Hp)(Q:VK):Prop
 |mk(a b:Addr)(ks:List Str)(ys:List V)(c:x=.ref a)(d:y=.ref b)(e:As K H a (ks.map V.str))(f:As K H b ys)(hl:ks.length=ys.length)(g:ks.length<=1000)(q:∀p,H p=none->Q (.ref p) (upd H p (.dK (CY [] (dO ks ys)))))
def rh(K:yt)(t1 t2:TE):TE:=fun σ H Q=>t1 σ H fun x a=>t2 σ a fun y b=>ku K x y b Q
def ri(K:yt)(Q:VK):List V->Hp->Prop
 |[x,y],H=>ku K x y H Q
 |_,_=>False
theorem Oq:∀{ks:List Str}{ys:List V}{its a:List Value},ks.length=ys.length->Vals (ks.map V.str) its->Vals ys a->∃more:List (Key×Value),KV (dO ks ys) more/\more.length=ks.length/\∀(j:Nat) d f,more[j]?=some (d,f)->∃c,its[j]?=some c/\a[j]?=some f/\(Al X.prog X.w).is d c=true
 |[],[],_,_,_,_,_=>⟨[],.nil,rfl,fun j d f e=>by simp at e⟩
 |[],_::_,_,_,h,_,_=>by simp at h
 |_::_,[],_,_,h,_,_=>by simp at h
 |k::ks,y::ys,_,_,h,.cons (b:=u) (l₂:=its) i r,.cons (b:=g) (l₂:=a) l m=>by
  obtain⟨more,n,o,p⟩:=Oq (by simpa using h) r m;refine⟨(Sum.inr k,g)::more,.cons ⟨rfl,l⟩ n,by simp[o],fun j d f e=>?_⟩;cases j with
  |zero=>
   have e:(Sum.inr k,g)=(d,f):=by simpa using e
   cases e;exact⟨u,rfl,rfl,G_ (k:=Sum.inr k) i⟩
  |succ j=>
   obtain⟨c,c1,c2,c3⟩:=p j d f (by simpa using e);exact⟨c,by simpa using c1,by simpa using c2,c3⟩
theorem Ot{m k:Expr}{p T pos d:Pos}{t1 t2:TE}(hc:X.calm=true)(hg:Gl X "dict")(hm:X.mg "dict"=none)(Y:Gl X "zip")(Z:X.mg "zip"=none)(U:PE X m t1)(h2:PE X k t2)(hv:bootBuiltins "dict"=some (.type "dict"):=by decide+kernel)(kv:bootBuiltins "zip"=some (.type "zip"):=by decide+kernel)(he:starEach [.Call (.Name "zip" T) [m,k] [] d] X.env=(false,eval (.Call (.Name "zip" T) [m,k] [] d) X.env)::starEach [] X.env:=by rfl)(bM:(backTo pos (starEach [] X.env)).any (·.1)=false:=by rfl)(J:starEach [m,k] X.env=(false,eval m X.env)::starEach [k] X.env:=by rfl)(L:(backTo d (starEach [k] X.env)).any (·.1)=false:=by rfl)(rj:starEach [k] X.env=(false,eval k X.env)::starEach [] X.env:=by rfl):
  PE X (.Call (.Name "dict" p) [.Call (.Name "zip" T) [m,k] [] d] [] pos) (rh X.K t1 t2):=by
 intro pins s σ H Q I h;refine wpAny_Call_Name_kw (El I hg hm hv ?_ (by decide) (by decide));refine PyProof.Rows.callWith_type1 ?_ he bM;rw[he];show wpAny _ _ (spliced ((false,eval (.Call (.Name "zip" T) [m,k] [] d) X.env)::backTo pos (starEach [] X.env))) _ _ s;refine Calls.spliced_cons ?_;refine wpAny_Call_Name_kw (El I Y Z kv ?_ (by decide) (by decide));refine PyProof.Rows.callWith_type1 (BK ((AA U (AA h2 CH rj) J) d pins s σ H (ri X.K Q) I h) fun us f zq=>zq.elim fun vs H1 M r1 V=>?_) J L;obtain⟨x,y,rfl⟩:∃x y,vs=[x,y]:=by
  rcases vs with _|⟨x,_|⟨y,_|⟨z,r⟩⟩⟩
  ·exact V.elim
  ·exact V.elim
  ·exact⟨x,y,rfl⟩
  ·exact V.elim
 obtain⟨a,b,W,ys,rfl,rfl,ha,hb,hl,hz,q⟩:=(show ku X.K x y H1 Q from V);obtain⟨u,v,rfl,ru,rv⟩:=vals2 r1;cases ru;cases rv;obtain⟨its,r,pl,_⟩:=M.list ha;obtain⟨N,r',B,_⟩:=M.list hb;have C:a<f.heap.objs.size:=(let⟨_,e,_⟩:=pl.isList;Heap.lt_size e);have E:b<f.heap.objs.size:=(let⟨_,e,_⟩:=B.isList;Heap.lt_size e);have O:X.A.in1.handled=none:=I.ok.hd hc;refine call_zip_2 pl.isList B.isList fun c z1 z2 z3 z4 z5 z6 k5=>?_;refine Calls.spliced_nil ?_;obtain⟨more,m1,m2,m3⟩:=Oq (X:=X) hl r r';have D:=zipApart_new (n:=f.heap.objs.size) C E;refine callType_codes (Q₁:=fun P t=>P=.ref c.objs.size/\t={f with heap:=c.push {cls:=.type "dict",data:=.dict #[]}}) F.kt_called_dict (F.kt_typeCall_dict_1 _) F.entry_dict_init (kt_code_dict_new _ ⟨rfl,rfl⟩) ?_;rintro P t ⟨rfl,rfl⟩;have i:(c.push {cls:=.type "dict",data:=.dict #[]}).DictOf (Al X.prog X.w) c.objs.size []:=Heap.DictOf.new c;refine⟨i.typeIs,F.args_dict_init_2 _ _,?_⟩;unfold Builtin.«dict.__init__»;refine wpAny_bind ?_;unfold Builtin.Dict.selfAndRest;refine wpAny_bind (wpAny_notOrdered_dict i.typeIs ?_);show wpAny _ _ (pure (c.objs.size,[Value.ref (f.heap.objs.size+4)])) _ _ _;refine wpAny_pure ?_;show wpAny _ _ (Builtin.Dict.updateFrom "dict.__init__" c.objs.size (.ref (f.heap.objs.size+4)) [] .none) _ _ _;unfold Builtin.Dict.updateFrom;have up:∀b o,c.get? b=some o->(c.push {cls:=.type "dict",data:=.dict #[]}).get? b=some o:=fun b o e=>Heap.get?_push_of_some _ e;have rk:({f with heap:=c.push {cls:=.type "dict",data:=.dict #[]}}:Shared).TypeIs (.ref (f.heap.objs.size+4)) "zip":=⟨_,up _ _ z1,rfl⟩;refine wpAny_bind (wpAny_typeOf rk ?_);rw[if_pos (by decide)];refine wpAny_bind (LU (up _ _ z1) O fun U oQ m ne1=>?_);rw[if_pos (show(Option.isNone (none:Option Value))=true from rfl)];have R:∀b o,(c.push {cls:=.type "dict",data:=.dict #[]}).get? b=some o->U.get? b=some o:=ne1.keeps;have g:∀b o,c.get? b=some o->U.get? b=some o:=fun b o e=>R b o (up b o e);refine wpAny_bind (wpAny_rule ?_);refine wpAny_bind (wpAny_pyIter_zip (g _ _ z1) ?_);refine wpAny_pure ⟨plainId_quiet Ai _,?_⟩;obtain⟨od,es,ep,rm,rd⟩:=id i;have xl:∀{b o},c.get? b=some o->b≠c.objs.size:=fun e=>Nat.ne_of_lt (Heap.lt_size e);have rq:∀{b o},f.heap.get? b=some o->b<f.heap.objs.size:=fun e=>Heap.lt_size e;have nS:f.heap.objs.size+4≠c.objs.size/\f.heap.objs.size+2≠c.objs.size/\f.heap.objs.size+3≠c.objs.size/\f.heap.objs.size≠c.objs.size/\f.heap.objs.size+1≠c.objs.size/\a≠c.objs.size/\b≠c.objs.size:=by
  have G:c.objs.size=f.heap.objs.size+5:=z6;rw[G];generalize f.heap.objs.size=n at C E;exact⟨by lia,by lia,by lia,by lia,by lia,Nat.ne_of_lt (Nat.lt_of_lt_of_le C (Nat.le_add_right _ _)),Nat.ne_of_lt (Nat.lt_of_lt_of_le E (Nat.le_add_right _ _))⟩
 show codeAny _ _ (.builtin "dict.update.loop" ⟨[.ref c.objs.size,.ref (f.heap.objs.size+4),rawInt ((0:Nat):Int),.none],[]⟩) _ _;refine Tq (knd:=Al X.prog X.w) (xs:=its.toArray) (ys:=N.toArray) (more:=more) O D nS (by rw[List.size_toArray,m2,<-r.length,List.length_map]) (by lia) (fun j k' v' e=>?_) more.length 0 _ (by simp) (Nat.zero_le _)
  ⟨.inl ⟨rfl,g _ _ z1,_,_,g _ _ z3⟩,g _ _ z2,z4.at fun o e=>g _ o e,z5.at fun o e=>g _ o e,(pl.isList.at fun o e=>g _ o (k5 _ o e)),(B.isList.at fun o e=>g _ o (k5 _ o e))⟩ ⟨od,es,ep,R _ _ rm,rd⟩ (fun h2 kg hd2 fk=>⟨rfl,?_⟩)
 ·obtain⟨key,c1,c2,c3⟩:=m3 j k' v' e;exact⟨key,by simpa using c1,by simpa using c2,c3⟩
 ·have YF:(CY [] (dO W ys)).length<=sizeLine:=by
   have:=DJ (dO W ys) [];have e:(dO W ys).length=W.length:=by unfold dO;rw[List.length_map,List.length_zip];lia
   exact An (by simp at this;lia)
  have G:c.objs.size=f.heap.objs.size+5:=z6;have big:=M.big;have l:f.heap.objs.size<=c.objs.size:=by rw[G];exact Nat.le_add_right _ _
  refine⟨.ref c.objs.size,_,M.laid (t':=kg) (fun b o e=>?_) l (IG YF (beq_eq_false_iff_ne.mpr (Ne.symm (Nat.ne_of_lt (Nat.lt_of_lt_of_le big l)))) (KV.merge m1 .nil) hd2),rfl,q _ (M.Ax.fresh l)⟩;have S:=rq e;exact fk b o (Nat.ne_of_lt (Nat.lt_of_lt_of_le S l)) (Nat.ne_of_lt (Nat.lt_of_lt_of_le S (Nat.le_add_right _ _))) (Nat.ne_of_lt (Nat.lt_of_lt_of_le S (Nat.le_add_right _ _))) (Nat.ne_of_lt S) (Nat.ne_of_lt (Nat.lt_of_lt_of_le S (Nat.le_add_right _ _))) (g _ _ (k5 _ _ e))
end
def dP(n:Nat):It:=⟨fun i _=>i<n,fun i H x a=>a=H/\x=.int (((n:Nat):Int)-1-((i:Nat):Int)),fun i _=>n<=i⟩
theorem Tr{P:Program}{w:World}{K:yt}{tg:Expr}(it:Addr)(n:Nat):Turn P w K tg (dP n) [it] it (fun i h=>IsRangeIter h it ((((n:Nat):Int)-1)+(i:Nat)*(-1)) ((n:Int)-(i:Nat)) (-1))where
 mem:=by simp
 obj:=fun i h st b hb=>by
  have e:b=it:=by simpa using hb
  subst e;exact⟨_,st,fun v z=>by
   have z':Data.fields _=Data.cell v:=z;cases z'⟩
 keep:=fun i h h' st k=>k it (by simp) _ st
 item:=by
  intro X hP hw hK hc i pins s σ H E I hf st hg;subst hP hw hK;obtain⟨f0,f1,f2,f3,f4,f5⟩:=hf it (by simp);have W:=Walks.range (prog:=X.prog) (w:=X.w) (I.ok.hd hc) it (((n:Nat):Int)-1) (-1) n;refine W.item i s _ _ hg st fun v h' tk hv Nm kk=>?_;obtain⟨t,rfl⟩:=hv;have I1:Inv X pins σ H {s with heap:=h',toks:=tk}:=I.turned (fun b o hb e=>kk b o (by simpa using hb) e) f0 f1 f3 f4 f5;refine⟨_,rfl,LZ (s:={s with heap:=h',toks:=tk}) (n:="range_iterator") Nm rfl rfl (by decide) ⟨.int (((n:Nat):Int)-1-((i:Nat):Int)),H,I1,⟨t,?_⟩,⟨rfl,rfl⟩,Nm,fun b hb=>(hf b hb).1⟩⟩;congr 1;lia
 done:=by
  intro X hP hw hK hc i pins s σ H E I hf st hg;subst hP hw hK;obtain⟨f0,f1,f2,f3,f4,f5⟩:=hf it (by simp);exact wpAny_pyNext_range_end (I.ok.hd hc) st (by have:n<=i:=hg;lia) fun h' eb=>⟨rfl,I.turned (t':=s.toks) (fun b o hb e=>eb b o hb e) f0 f1 f3 f4 f5⟩
 self:=fun _ _ _ _ _ st h=>wpAny_pyIter_rangeiter st h
variable{n:Nat}{H:Hp}{E:Value->Shared->Prop}
section
variable{X:Cx} {tg:Expr}
theorem YN{pins:List (Addr×Obj)}{a:St}{s:Shared}{R:It->Hp->Prop}{t u v:Tok}{tk:Nat}(I:Inv X pins a H s)(g:n<=20000)(q:R (dP n) H):wpAny (model X.prog X.w) X.A (pyIter (.ref s.heap.objs.size)) (jn X pins a tg R) E {s with heap:=s.heap.push {cls:=.type "range",data:=.fields #[.int (((n:Nat):Int)-1) t,.int (-1) u,.int (-1) v]},toks:=tk}:=by
 have sz:Builtin.Range.rangeSize (((n:Nat):Int)-1) (-1) (-1)=(n:Int):=by
  unfold Builtin.Range.rangeSize;rw[if_neg (by decide)];split
  ·have:(((n:Nat):Int)-1-(-1)-1)/(-(-1))+1=n:=by
    rw[show(-(-1:Int))=1 from rfl,Int.ediv_one];lia
   exact this
  ·lia
 have d:Builtin.Range.small (((n:Nat):Int)-1) (-1) (-1)=true:=by
  unfold Builtin.Range.small;rw[sz];simp only[Builtin.Range.rangeFitsLong,Bool.and_eq_true,Bool.or_eq_true,decide_eq_true_eq,beq_iff_eq,show¬((-1:Int)>0)by decide,if_false];lia
 refine wpAny_pyIter_range (IsRange.new ..) d ?_;rw[sz];have c:Inv X pins a H {s with heap:=s.heap.push {cls:=.type "range",data:=.fields #[.int (((n:Nat):Int)-1) t,.int (-1) u,.int (-1) v]},toks:=tk}:=I.kept fun b o e=>Heap.get?_push_of_some _ e;refine⟨_,[(s.heap.push {cls:=.type "range",data:=.fields #[.int (((n:Nat):Int)-1) t,.int (-1) u,.int (-1) v]}).objs.size],_,_,H,rfl,
  c.kept (t':=tk) fun b o e=>Heap.get?_push_of_some _ e,Tr _ n,?_,fun b f=>?_,q⟩
 ·show IsRangeIter _ _ ((((n:Nat):Int)-1)+((0:Nat):Int)*(-1)) ((n:Int)-((0:Nat):Int)) (-1);rw[show(((n:Nat):Int)-1)+((0:Nat):Int)*(-1)=((n:Nat):Int)-1 by simp,show(n:Int)-((0:Nat):Int)=n by simp];exact Heap.get?_push_size _ rfl
 ·have e:b=(s.heap.push {cls:=.type "range",data:=.fields #[.int (((n:Nat):Int)-1) t,.int (-1) u,.int (-1) v]}).objs.size:=by simpa using f
  subst e;exact c.OA (Nat.le_refl _) (c.Ax.fresh (Nat.le_refl _))
def fx(a:TA):TI:=fun b H R=>a b H fun c d=>∃n:Nat,c=[.int (((n:Nat):Int)-1),.int (-1),.int (-1)]/\n<=20000/\R (dP n) d
theorem Ts{a b c:Expr}{i:TA}{p pos:Pos}(j:Gl X "range")(k:X.mg "range"=none)(l:PA X [a,b,c] i)(m:starEach [a,b,c] X.env=[(false,eval a X.env),(false,eval b X.env),(false,eval c X.env)]:=by rfl)(d:starEach [b,c] X.env=[(false,eval b X.env),(false,eval c X.env)]:=by rfl):
  PI X tg (.Call (.Name "range" p) [a,b,c] [] pos) (fx i):=by
 intro pins s o H R I h;refine Call_ (El I j k boot_range (PyProof.Rows.callWith_type1 (BK (l pos pins s o H _ I h) fun B C u=>u.elim fun D E v w x=>?_) (by rw[m,d]) (by rw[d];rfl)));obtain⟨n,e,y,q⟩:=x;subst e;cases w with
 |cons r f=>
  cases f with
  |cons z f=>
   cases f with
   |cons g f=>
    cases f;obtain⟨t,rfl⟩:=r;obtain⟨F,rfl⟩:=z;obtain⟨A,rfl⟩:=g;exact call_range_3 (by decide) (YN v y q) (.inl (PyProof.noPylong_small (by lia)))
end
theorem Vv{g:TG}{h:TS}{D:Ends}{a:St}(Pv:Nat->St->Hp->Prop)(k:Pv n a H)(l:∀i a H,i<n->Pv (i+1) a H->g (.int (i:Int)) a H fun b H2=>h {D with nx:=Pv i,ct:=Pv i,bk:=D.nx} b H2)(o:∀a H,Pv 0 a H->D.nx a H):
  ∃W:Nat->Nat->St->Hp->Prop,(∃m,W 0 m a H)/\∀i m a H,W i m a H-> ((dP n).stop i H/\D.nx a H)∨((dP n).go i H/\∃N:St->Hp->Prop,(∀c d,N c d->∃j,j<m/\W (i+1) j c d)/\∀x d,(dP n).N_ i H x d->g x a d fun b H2=>h {D with nx:=N,ct:=N,bk:=D.nx} b H2):=by
 refine⟨fun i m a H=>m=n-i/\i<=n/\Pv m a H,⟨n,by simp,Nat.zero_le _,k⟩,?_⟩;rintro i m a H ⟨rfl,r,p⟩;by_cases f:i<n
 ·refine .inr ⟨f,Pv (n-(i+1)),fun c d q=>⟨n-(i+1),by lia,rfl,f,q⟩,fun x d y=>?_⟩;obtain⟨e,y⟩:=y;subst e y;have e:((n:Nat):Int)-1-((i:Nat):Int)=(((n-(i+1):Nat)):Int):=by lia
  rw[e];refine l (n-(i+1)) a _ (by lia) ?_;rw[show n-(i+1)+1=n-i by lia];exact p
 ·have e:i=n:=by lia
  subst e;rw[Nat.sub_self]at p;exact .inl ⟨Nat.le_refl _,o a H p⟩
variable{t:Pt}{vs:List V}
section
variable{K:yt} [BR K]
namespace Dc
mutual
noncomputable def tr:Dc->Pt
 |leaf (.int i)=>.int i
 |leaf (.str x)=>.str x
 |leaf _=>.int 0
 |row _ xs=>.lst (Tt xs)
 |tab _ ks xs=>.Ar ks (Tt xs)
noncomputable def Tt:List Dc->List Pt
 |[]=>[]
 |x::r=>tr x::Tt r
end
theorem HR:∀xs:List Dc,Tt xs=xs.map tr
 |[]=>rfl
 |x::r=>by simp only[Tt,List.map_cons,HR r]
mutual
theorem SA:∀d e:Dc,EH d e->e.tr=d.tr
 |leaf v,leaf w,h=>by simp only[EH]at h;subst h;rfl
 |row _ xs,row _ ys,h=>by simp only[EH]at h;simp only[tr,KR xs ys h]
 |tab _ ks xs,tab _ ls ys,h=>by simp only[EH]at h;simp only[tr,KR xs ys h.2,h.1]
 |leaf _,row _ _,h=>by simp[EH]at h
 |leaf _,tab _ _ _,h=>by simp[EH]at h
 |row _ _,leaf _,h=>by simp[EH]at h
 |row _ _,tab _ _ _,h=>by simp[EH]at h
 |tab _ _ _,leaf _,h=>by simp[EH]at h
 |tab _ _ _,row _ _,h=>by simp[EH]at h
theorem KR:∀xs ys:List Dc,Cw xs ys->Tt ys=Tt xs
 |[],[],_=>rfl
 |x::r,y::t,h=>by simp only[Cw]at h;simp only[Tt,SA x y h.1,KR r t h.2]
 |[],_::_,h=>by simp[Cw]at h
 |_::_,[],h=>by simp[Cw]at h
end
mutual
theorem Vw{H:Hp}:∀d:Dc,d.At H->Val H d.val d.tr
 |leaf v,h=>by
  simp only[At]at h;rcases h with⟨i,rfl⟩|⟨x,rfl,_⟩
  ·exact .int i
  ·exact .str x
 |row a xs,h=>by
  simp only[At]at h;exact .lst h.1 (Qr xs h.2)
 |tab a ks xs,h=>by
  simp only[At]at h;refine .Ar h.1 (Jy h.2.1) ?_;have e:(kvs ks xs).map (·.2)=xs.map val:=by
   rw[OZ];exact CP (by rw[List.length_map];exact h.2.1)
  rw[e];exact Qr xs h.2.2.2
theorem Qr{H:Hp}:∀xs:List Dc,Ht H xs->AS H (xs.map val) (Tt xs)
 |[],_=>.nil
 |x::r,h=>by
  simp only[Ht]at h;exact .cons (Vw x h.1) (Qr r h.2)
end
end Dc
theorem OX.val{H':Hp}{d:Dc}(F:OX H H' d):Val (nw H H') d.val d.tr:=by
 refine d.Vw (Dc.Jx d (fun c a o e=>?_) F.at_);rw[AY (F.new c a)];exact e
theorem Vx:∀{kvs:List (Key×V)}{ks:List Str}{a:List Dc},kvs.map (·.1)=ks.map Sum.inr->a.map Dc.val=kvs.map (·.2)->kvs=Dc.kvs ks a
 |[],[],a,_,h=>by
  cases a with
  |nil=>rfl
  |cons _ _=>simp at h
 |[],_::_,_,h,_=>by simp at h
 |_::_,[],_,h,_=>by simp at h
 |(k,v)::kvs,y::ks,a,h,h'=>by
  simp only[List.map_cons,List.cons.injEq]at h;cases a with
  |nil=>simp at h'
  |cons d a=>
   simp only[List.map_cons,List.cons.injEq]at h';obtain⟨b,c⟩:=h;obtain⟨e,f⟩:=h';have g:=Vx c f;subst b e;rw[g];rfl
mutual
theorem Val.dc{H:Hp}:∀(t:Pt){v:V},Val H v t->t.doc->∃d:Dc,d.val=v/\d.At H/\d.tr=t/\d.slim/\d.size=t.size
 | .int i=>fun g _=>by cases g;exact⟨.leaf (.int i),rfl,.inl ⟨i,rfl⟩,rfl,trivial,rfl⟩
 | .str x=>fun g d=>by cases g;exact⟨.leaf (.str x),rfl,.inr ⟨x,rfl,d⟩,rfl,trivial,rfl⟩
 | .bl _=>fun _ d=>by simp[Pt.doc]at d
 | .Ah=>fun _ d=>by simp[Pt.doc]at d
 | .tup _=>fun _ d=>by simp[Pt.doc]at d
 | .lst ts=>fun g d=>by
  obtain⟨⟩:=g
  rename_i a _ h r
  simp only[Pt.doc]at d;obtain⟨b,e,f,c,j,k⟩:=AS.kx ts r d;refine⟨.row a b,rfl,?_,by simp only[Dc.tr,c],by simp only[Dc.slim];exact j,by simp only[Dc.size,Pt.size,k]⟩;simp only[Dc.At];exact⟨by rw[e];exact h,f⟩
 | .Ar l ts=>fun g d=>by
  obtain⟨⟩:=g
  rename_i a kvs h n r
  simp only[Pt.doc]at d;obtain⟨b,e,f,c,j,k⟩:=AS.kx ts r d.2.2.2.2;have m:l.length=b.length:=by
   have:=congrArg List.length c;rw[Dc.HR,List.length_map]at this;rw[this];exact d.1
  refine⟨.tab a l b,rfl,?_,by simp only[Dc.tr,c],by simp only[Dc.slim];exact⟨by rw[<-m];exact d.2.2.2.1,j⟩,by simp only[Dc.size,Pt.size,k]⟩;simp only[Dc.At];exact⟨by rw[<-Vx n e];exact h,m,d.2.1,f⟩
theorem AS.kx{H:Hp}:∀(ts:List Pt){vs:List V},AS H vs ts->Pt.Cj ts->∃a:List Dc,a.map Dc.val=vs/\Dc.Ht H a/\Dc.Tt a=ts/\Dc.J_ a/\Dc.AI a=Pt.AI ts
 |[]=>fun g _=>by cases g;exact⟨[],rfl,trivial,rfl,trivial,rfl⟩
 |t::ts=>fun g d=>by
  obtain⟨⟩:=g
  rename_i h r
  simp only[Pt.Cj]at d;obtain⟨x,a1,a2,a3,a4,a5⟩:=Val.dc t h d.1;obtain⟨a,b,c,e,f,i⟩:=AS.kx ts r d.2;exact⟨x::a,by rw[List.map_cons,a1,b],by simp only[Dc.Ht];exact⟨a2,c⟩,by simp only[Dc.Tt,a3,e],by simp only[Dc.J_];exact⟨a4,f⟩,by simp only[Dc.AI,Pt.AI,a5,i]⟩
end
theorem Fi{Q:VK}{E:XK}{v:V}(e:vs=[v])(a:Val H v t)(d:t.doc)(z:t.size<=900)(q:∀(w:V) (H':Hp),AF H H'->Val (nw H H') w t->Q w H'):FZ vs H Q E:=by
 obtain⟨dc,rfl,a2,a3,a4,a5⟩:=Val.dc t a d;exact⟨dc,e,a2,a4,by lia,fun b H' F lk=>q _ _ F.same (by rw[<-a3,<-Dc.SA _ _ lk];exact F.val)⟩
theorem Ou{Q:VK}{E:XK}(h:Mn vs H Q E):HN vs H Q E:=by
 obtain⟨d,rfl,b,e,f,q⟩:=h;refine⟨d.val,d.tr,rfl,d.Vw b,?_,fun p l g s n j st=>q p l g s n j ?_⟩
 ·cases d with
  |leaf v=>
   simp only[Dc.At]at b;rcases b with⟨i,rfl⟩|⟨x,rfl,_⟩<;>trivial
  |row a c=>
   simp only[Dc.size]at f;have:=Dc.Cr c;show(Dc.Tt c).length<=900;rw[Dc.HR,List.length_map];lia
  |tab a k c=>
   simp only[Dc.At]at b;simp only[Dc.slim]at e;exact⟨by rw[Dc.HR,List.length_map];exact b.2.1,by rw[b.2.1];exact e.1⟩
 ·cases d with
  |leaf v=>
   simp only[Dc.At]at b;rcases b with⟨i,rfl⟩|⟨x,rfl,_⟩<;>exact st
  |row a c=>
   have:l=(List.range (Dc.Tt c).length).map fun(i:Nat)=>V.int (i:Int):=st;rw[Dc.HR,List.length_map]at this;exact this
  |tab a k c=>exact st
end
namespace Ak
mutual
def CF:Ak->Prop
 |any=>True
 |Ag d=>d.doc
 |row xs _=>Gd xs
 |tab ks xs ls _=>ks.length=xs.length/\ks.Nodup/\(∀k∈ks,Dn k=true)/\ks.length<60/\ls.length<=100/\(∀l∈ls,l∉ks)/\Gd xs
def Gd:List Ak->Prop
 |[]=>True
 |x::r=>CF x/\Gd r
end
mutual
noncomputable def wt:Ak->Nat
 |any=>1
 |Ag d=>d.size
 |row xs _=>1+Ee xs
 |tab _ xs _ _=>1+Ee xs
noncomputable def Ee:List Ak->Nat
 |[]=>0
 |x::r=>wt x+Ee r
end
mutual
noncomputable def dp:Ak->Nat
 |any=>1
 |Ag d=>d.deep
 |row xs _=>1+JJ xs
 |tab _ xs _ _=>1+JJ xs
noncomputable def JJ:List Ak->Nat
 |[]=>0
 |x::r=>max (dp x) (JJ r)
end
theorem Bd:∀{xs:List Ak},Gd xs->∀x∈xs,CF x
 |y::r,h,x,a=>by
  simp only[Gd]at h;rcases List.mem_cons.mp a with rfl|a
  ·exact h.1
  ·exact Bd h.2 x a
theorem bN(a:Ak):1<=a.wt:=by cases a<;>simp only[wt]<;>first|lia|exact Pt.size_pos _
mutual
theorem SD:∀a:Ak,a.size<=a.wt
 |any=>by simp[size,wt]
 |Ag d=>by simp only[size,wt];exact Pt.size_pos d
 |row xs _=>by have:=C_ xs;simp only[size,wt];lia
 |tab _ xs _ _=>by have:=C_ xs;simp only[size,wt];lia
theorem C_:∀xs:List Ak,AI xs<=Ee xs
 |[]=>Nat.le_refl _
 |x::r=>by have:=SD x;have:=C_ r;simp only[AI,Ee];lia
end
theorem HS:∀{xs:List Ak}{x:Ak},x∈xs->x.wt<=Ee xs
 |y::r,x,h=>by
  simp only[Ee];rcases List.mem_cons.mp h with rfl|h
  ·lia
  ·have:=HS h;lia
theorem HU:∀{xs:List Ak}{x:Ak},x∈xs->x.dp<=JJ xs
 |y::r,x,h=>by
  simp only[JJ];rcases List.mem_cons.mp h with rfl|h
  ·lia
  ·have:=HU h;lia
theorem HV{a b:List Ak}(p:a.Perm b):Ee a=Ee b:=by
 induction p with
 |nil=>rfl
 |cons x _ c=>simp only[Ee,c]
 |swap x y l=>simp only[Ee];lia
 |trans _ _ d e=>exact d.trans e
theorem Vy{a b:List Ak}(p:a.Perm b):JJ a=JJ b:=by
 induction p with
 |nil=>rfl
 |cons x _ c=>simp only[JJ,c]
 |swap x y l=>simp only[JJ];lia
 |trans _ _ d e=>exact d.trans e
mutual
theorem fy:∀a:Ak,a.ok->a.CF
 |any,_=>trivial
 |Ag d,h=>by simp only[ok]at h;exact h.2.1
 |row xs _,h=>by simp only[ok]at h;simp only[CF];exact Vz xs h
 |tab ks xs ls _,h=>by
  simp only[ok]at h;obtain⟨b,c,e,h4,f,g,i⟩:=h;simp only[CF];exact⟨b,c,e,h4,Nat.le_trans f.1 (by decide),g,Vz xs i⟩
theorem Vz:∀xs:List Ak,DW xs->Gd xs
 |[],_=>trivial
 |x::r,h=>by simp only[DW]at h;exact⟨fy x h.1,Vz r h.2⟩
end
mutual
theorem Zk:∀a:Ak,a.ok->a.wt<=10*a.size
 |any,_=>by simp[wt,size]
 |Ag d,h=>by simp only[ok]at h;simp only[wt,size];lia
 |row xs _,h=>by simp only[ok]at h;have:=Qs xs h;simp only[wt,size];lia
 |tab b xs ls _,h=>by simp only[ok]at h;have:=Qs xs h.2.2.2.2.2.2;simp only[wt,size];lia
theorem Qs:∀xs:List Ak,DW xs->Ee xs<=10*AI xs
 |[],_=>Nat.le_refl _
 |x::r,h=>by simp only[DW]at h;have:=Zk x h.1;have:=Qs r h.2;simp only[Ee,AI];lia
end
end Ak
theorem Sm.f_{d:Pt}(h:Sm d):d.deep<=3:=by
 have one:∀a:List Pt,(∀x∈a,Zh x)->Pt.AJ a<=1:=by
  intro a
  induction a with
  |nil=>intro _;simp[Pt.AJ]
  |cons x r b=>
   intro h;have c:=h x List.mem_cons_self;have f:=b fun y e=>h y (List.mem_cons_of_mem _ e);have:x.deep<=1:=by cases c<;>simp[Pt.deep,Pt.AJ]
   simp only[Pt.AJ];lia
 cases h with
 |one h=>cases h<;>simp[Pt.deep,Pt.AJ]
 |row h=>have:=one _ h;simp only[Pt.deep];lia
 |tab h=>have:=one _ h;simp only[Pt.deep];lia
namespace Ak
mutual
theorem Zl:∀a:Ak,a.ok->a.dp<=a.deep+2
 |any,_=>by simp[dp,deep]
 |Ag d,h=>by simp only[ok]at h;have:=h.1.f_;simp only[dp,deep];lia
 |row b _,h=>by simp only[ok]at h;have:=Qt b h;simp only[dp,deep];lia
 |tab c b ls _,h=>by simp only[ok]at h;have:=Qt b h.2.2.2.2.2.2;simp only[dp,deep];lia
theorem Qt:∀xs:List Ak,DW xs->JJ xs<=AJ xs+2
 |[],_=>by simp[JJ]
 |x::r,h=>by simp only[DW]at h;have:=Zl x h.1;have:=Qt r h.2;simp only[JJ,AJ];lia
end
theorem Lx:∀ls:List Str,Pt.AJ (ls.map Pt.str)<=1
 |[]=>by simp[Pt.AJ]
 |x::r=>by have:=Lx r;simp only[List.map_cons,Pt.AJ,Pt.deep];lia
mutual
theorem Zm:∀a:Ak,a.pt.deep<=2*a.dp+2
 |any=>by simp[pt,Pt.deep,Pt.AJ,dp]
 |Ag d=>by simp only[pt,Pt.deep,Pt.AJ,dp];lia
 |row xs m=>by have:=Qu xs;simp only[pt,Pt.deep,Pt.AJ,dp];lia
 |tab b xs ls m=>by have:=Qu xs;have:=Lx ls;simp only[pt,Pt.deep,Pt.AJ,dp];lia
theorem Qu:∀xs:List Ak,Pt.AJ (CO xs)<=2*JJ xs+2
 |[]=>by simp[CO,Pt.AJ]
 |x::r=>by have:=Zm x;have:=Qu r;simp only[CO,Pt.AJ,JJ];lia
end
mutual
theorem Ov:∀a:Ak,a.CF->a.wt<=900->a.pt.nice
 | .any,_,_=>by simp[Ak.pt,Pt.nice,Pt.CC]
 | .Ag d,o,z=>by
  simp only[CF]at o;simp only[wt]at z;simp only[Ak.pt,Pt.nice,Pt.CC];exact⟨by simp,trivial,Pt.Fg d o z,trivial⟩
 | .row xs m,o,z=>by
  simp only[CF]at o;simp only[wt]at z;have:=Ak.Cr xs;have:=C_ xs;simp only[Ak.pt,Pt.nice,Pt.CC];exact⟨by simp,trivial,⟨by rw[Ak.AW,List.length_map];lia,IT xs o (by lia)⟩,trivial,trivial⟩
 | .tab c xs ls m,o,z=>by
  simp only[CF]at o;simp only[wt]at z;simp only[Ak.pt,Pt.nice,Pt.CC];refine⟨by simp,trivial,⟨by rw[Ak.AW,List.length_map];exact o.1,o.2.1,by lia,IT xs o.2.2.2.2.2.2 (by lia)⟩,⟨by rw[List.length_map];lia,Pt.HP fun x b=>?_⟩,trivial,trivial⟩;obtain⟨y,_,rfl⟩:=List.mem_map.mp b;trivial
theorem IT:∀xs:List Ak,Gd xs->Ee xs<=900->Pt.CC (Ak.CO xs)
 |[],_,_=>trivial
 |x::r,o,z=>by
  simp only[Gd]at o;simp only[Ee]at z;simp only[Ak.CO,Pt.CC];exact⟨Ov x o.1 (by lia),IT r o.2 (by lia)⟩
end
def Kd:Ak->List Ak->Prop
 |row xs _,as=>as=xs
 |tab ks xs _ _,as=>∃ss:List Str,ss.Perm ks/\sortedS ss=true/\ss.map (lk ks xs)=as.map some
 |_,as=>as=[]
end Ak
theorem some_inj{c:Type}:∀{a b:List c},a.map some=b.map some->a=b
 |[],[],_=>rfl
 |[],_::_,h=>by simp at h
 |_::_,[],h=>by simp at h
 |x::r,y::q,h=>by
  simp only[List.map_cons,List.cons.injEq]at h;rw[yq h.1,some_inj h.2]
variable{cs:List Ak}
namespace Ak
theorem Kd.ok{a:Ak}{as:List Ak}(h:Kd a as)(o:a.CF):∀x∈as,x.CF:=by
 cases a with
 |row c m=>simp only[CF]at o;rw[show as=c from h];exact Bd o
 |tab g c ls m=>
  simp only[CF]at o;obtain⟨i,e,j,f⟩:=h;intro x b;have:=(CV o.1 o.2.1 e f).mem_iff.mp b;exact Bd o.2.2.2.2.2.2 x this
 |any=>rw[show as=[]from h];exact fun x b=>nomatch b
 |Ag d=>rw[show as=[]from h];exact fun x b=>nomatch b
theorem Kd.wt{a:Ak}{as:List Ak}(h:Kd a as)(o:a.CF):∀x∈as,x.wt<=a.wt:=by
 cases a with
 |row c m=>rw[show as=c from h];intro x b;have:=HS b;simp only[Ak.wt];lia
 |tab g c ls m=>
  simp only[CF]at o;obtain⟨i,e,j,f⟩:=h;intro x b;have:=HS ((CV o.1 o.2.1 e f).mem_iff.mp b);simp only[Ak.wt];lia
 |any=>rw[show as=[]from h];exact fun x b=>nomatch b
 |Ag d=>rw[show as=[]from h];exact fun x b=>nomatch b
noncomputable def Dy:List Ak->Option (List Pt)
 |[]=>some []
 |Ag d::r=>(Dy r).map (d::·)
 |_::_=>none
def Be(cs:List Ak)(m:Bool):Ak:=if m then row cs true else match Dy cs with
 |some a=>Ag (.lst a)
 |none=>row cs false
def Bf(ss:List Str)(cs:List Ak)(ls:List Str)(m:Bool):Ak:=if m then tab ss cs ls true else match Dy cs with
 |some a=>Ag (.Ar ss a)
 |none=>tab ss cs [] false
mutual
inductive Good:Ak->Ak->Prop
 |any:Good .any .any
 |Ag (d:Pt):Good (.Ag d) (.Ag d)
 |row {xs cs:List Ak} {m:Bool} (h:DQ xs cs):Good (.row xs m) (Be cs m)
 |tab {ks ss:List Str} {xs as cs:List Ak} {ls:List Str} {m:Bool} (pm:ss.Perm ks) (a:sortedS ss=true) (e:ss.map (lk ks xs)=as.map some) (h:DQ as cs):Good (.tab ks xs ls m) (Bf ss cs ls m)
inductive DQ:List Ak->List Ak->Prop
 |nil:DQ [] []
 |cons {x y:Ak} {xs ys:List Ak} (h:Good x y) (r:DQ xs ys):DQ (x::xs) (y::ys)
end
theorem DQ.length:∀{xs ys:List Ak},DQ xs ys->xs.length=ys.length
 |_,_,.nil=>rfl
 |_,_,.cons _ r=>by rw[List.length_cons,List.length_cons,r.length]
theorem CG:∀{cs:List Ak}{a:List Pt},Dy cs=some a->cs=a.map Ag
 |[],a,h=>by simp only[Dy]at h;cases h;rfl
 |Ag d::r,a,h=>by
  simp only[Dy]at h;cases e:Dy r with
  |none=>rw[e]at h;cases h
  |some b=>
   rw[e]at h;cases h;rw[CG e];rfl
 |any::_,_,h=>by simp[Dy]at h
 |row _ _::_,_,h=>by simp[Dy]at h
 |tab _ _ _ _::_,_,h=>by simp[Dy]at h
theorem KS:∀a:List Pt,Ee (a.map Ag)=Pt.AI a
 |[]=>rfl
 |d::r=>by simp only[List.map_cons,Ee,wt,Pt.AI,KS r]
theorem KU:∀a:List Pt,JJ (a.map Ag)=Pt.AJ a
 |[]=>rfl
 |d::r=>by simp only[List.map_cons,JJ,dp,Pt.AJ,KU r]
theorem KW:∀a:List Pt,Gd (a.map Ag)->Pt.Cj a
 |[],_=>trivial
 |d::r,h=>by simp only[List.map_cons,Gd,CF]at h;exact⟨h.1,KW r h.2⟩
theorem Qv(cs:List Ak)(m:Bool):(Be cs m).wt=1+Ee cs:=by
 unfold Be;split
 ·rfl
 ·split
  ·rename_i a e
   rw[CG e,KS];rfl
  ·rfl
theorem Qw(ss:List Str)(cs:List Ak)(ls:List Str)(m:Bool):(Bf ss cs ls m).wt=1+Ee cs:=by
 unfold Bf;split
 ·rfl
 ·split
  ·rename_i a e
   rw[CG e,KS];rfl
  ·rfl
theorem Qx(cs:List Ak)(m:Bool):(Be cs m).dp=1+JJ cs:=by
 unfold Be;split
 ·rfl
 ·split
  ·rename_i a e
   rw[CG e,KU];rfl
  ·rfl
theorem Qy(ss:List Str)(cs:List Ak)(ls:List Str)(m:Bool):(Bf ss cs ls m).dp=1+JJ cs:=by
 unfold Bf;split
 ·rfl
 ·split
  ·rename_i a e
   rw[CG e,KU];rfl
  ·rfl
theorem Qz(m:Bool)(h:Gd cs):(Be cs m).CF:=by
 unfold Be;split
 ·exact h
 ·split
  ·rename_i a e
   rw[CG e]at h;exact KW a h
  ·exact h
theorem Q_{ss:List Str}{ls:List Str}(m:Bool)(l:ss.length=cs.length)(nd:ss.Nodup)(a:∀k∈ss,Dn k=true)(sz:ss.length<60)(lz:ls.length<=100)(b:∀l∈ls,l∉ss)(h:Gd cs):(Bf ss cs ls m).CF:=by
 unfold Bf;split
 ·exact⟨l,nd,a,sz,lz,b,h⟩
 ·split
  ·rename_i c e
   rw[CG e]at h l;rw[List.length_map]at l;simp only[CF,Pt.doc];exact⟨l,nd,a,by lia,KW c h⟩
  ·exact⟨l,nd,a,sz,by simp,(fun l d=>by simp at d),h⟩
mutual
theorem Good.keeps:∀{a b:Ak},Good a b->a.CF->b.CF/\b.wt=a.wt/\b.dp=a.dp
 |_,_,.any,_=>⟨trivial,rfl,rfl⟩
 |_,_,.Ag d,h=>⟨h,rfl,rfl⟩
 |_,_,.row (xs:=xs) (m:=m) h,o=>by
  simp only[CF]at o;obtain⟨f,g,i⟩:=h.keeps (Bd o);refine⟨Qz _ f,?_,?_⟩
  ·rw[Qv,g];rfl
  ·rw[Qx,i];rfl
 |_,_,.tab (ks:=ks) (ss:=ss) (xs:=xs) (as:=as) (ls:=ls) c B e h,o=>by
  simp only[CF]at o;obtain⟨p,n,q,r,s,t,u⟩:=o;have j:=CV p n c e;obtain⟨f,g,i⟩:=h.keeps fun x v=>Bd u x (j.mem_iff.mp v);have w:as.length=ss.length:=by have:=congrArg List.length e;simpa using this.symm
  refine⟨Q_ _ (by rw[<-h.length,w]) (c.nodup_iff.mpr n) (fun k y=>q k (c.mem_iff.mp y)) (by rw[c.length_eq];exact r) s (fun l A z=>t l A (c.mem_iff.mp z)) f,?_,?_⟩
  ·rw[Qw,g,HV j];rfl
  ·rw[Qy,i,Vy j];rfl
theorem DQ.keeps:∀{as bs:List Ak},DQ as bs->(∀a∈as,a.CF)->Gd bs/\Ee bs=Ee as/\JJ bs=JJ as
 |_,_,.nil,_=>⟨trivial,rfl,rfl⟩
 |_,_,.cons h r,o=>by
  obtain⟨b,c,d⟩:=h.keeps (o _ List.mem_cons_self);obtain⟨e,f,g⟩:=r.keeps fun x i=>o x (List.mem_cons_of_mem _ i);exact⟨⟨b,e⟩,by simp only[Ee,c,f],by simp only[JJ,d,g]⟩
end
end Ak
theorem HW(h:n<=20000):n<=sizeLine:=Nat.le_trans h (show 20000<=2 ^ 24 by decide)
noncomputable def Pt.hold:Pt->Pt
 | .tup (.str w::h::_)=>if w="row"∨w="table"then h else .lst []
 |_=>.lst []
mutual
inductive Ly:Nat->Pt->Prop
 |leaf {w:Str} {r:List Pt} (a:w≠"row") (b:w≠"table"):Ly 1 (.tup (.str w::r))
 |row {n:Nat} {xs r:List Pt} (z:xs.length<=900) (h:EL n xs):Ly (n+1) (.tup (.str "row"::.lst xs::r))
 |tab {n:Nat} {ks:List Str} {xs r:List Pt} (l:ks.length=xs.length) (nd:ks.Nodup) (z:ks.length<64) (h:EL n xs):Ly (n+1) (.tup (.str "table"::.Ar ks xs::r))
inductive EL:Nat->List Pt->Prop
 |nil:EL 0 []
 |cons {n m:Nat} {x:Pt} {r:List Pt} (h:Ly n x) (t:EL m r):EL (n+m) (x::r)
end
theorem Ly.pos(h:Ly n t):1<=n:=by cases h<;>lia
theorem EL.len:∀{n:Nat}{xs:List Pt},EL n xs->xs.length<=n
 |_,_,.nil=>Nat.le_refl _
 |_,_,.cons h t=>by have:=h.pos;have:=t.len;rw[List.length_cons];lia
theorem EL.append:∀{n m:Nat}{xs ys:List Pt},EL n xs->EL m ys->EL (n+m) (xs++ys)
 |_,_,_,_,.nil,s=>by rw[Nat.zero_add];exact s
 |_,_,_,_,.cons h t,s=>by rw[Nat.add_assoc];exact .cons h (t.append s)
variable{ys:List Pt}
theorem EL.perm{xs:List Pt}(p:xs.Perm ys)(h:EL n xs):EL n ys:=by
 induction p generalizing n with
 |nil=>exact h
 |cons x _ d=>cases h with|cons h t=>exact .cons h (d t)
 |swap x y l=>
  cases h with
  |cons h t=>
   cases t with
   |@cons a b _ _ e t=>
    rename_i c
    rw[show c+(a+b)=a+(c+b)by lia];exact .cons e (.cons h t)
 |trans _ _ f g=>exact g (f h)
theorem Ly.SE(h:Ly n t):Dr t.hold:=by
 cases h with
 |@leaf w r a b=>
  have e:Pt.hold (.tup (.str w::r))=.lst []:=by
   cases r with
   |nil=>rfl
   |cons h r=>simp[Pt.hold,a,b]
  rw[e];exact Nat.zero_le _
 |@row n c r z h=>exact z
 |@tab n f c r l nd d h=>exact⟨l,d⟩
variable{us:List Pt}
theorem Ly.kids(h:Ly n t)(k:EJ t.hold us):∃m,EL m us/\n=m+1:=by
 cases h with
 |@leaf w r d f=>
  have e:Pt.hold (.tup (.str w::r))=.lst []:=by
   cases r with
   |nil=>rfl
   |cons h r=>simp[Pt.hold,d,f]
  rw[e]at k;rw[show us=[]from k];exact⟨0,.nil,rfl⟩
 |@row n b r z h=>
  have:us=b:=k;subst this;exact⟨n,h,rfl⟩
 |@tab n c b r l nd z h=>
  obtain⟨a,g,i,e⟩:=(show∃a:List Str,a.Perm c/\sortedS a=true/\a.map (lk c b)=us.map some from k);exact⟨n,h.perm (CV l nd g e).symm,rfl⟩
inductive Tu(root:Pt):Nat->List Pt->List (List Pt)->Prop
 |start:Tu root 0 [root] []
 |next{n:Nat} {l:List Pt} {a:List (List Pt)} {t:Pt} {us:List Pt} (b:Tu root n l a) (c:l[n]?=some t) (k:EJ t.hold us):Tu root (n+1) (l++us) (a++[us])
theorem YO{N m:Nat}{l:List Pt}(h:EL m (l.drop n))(e:n+m=N)(a:l[n]?=some t)(k:EJ t.hold us)(z:N<=20000):Dr t.hold/\us.length<=20000/\∃b,b<m/\EL b ((l++us).drop (n+1))/\n+1+b=N:=by
 have c:=(yo a).1;have f:l.drop n=t::l.drop (n+1):=by
  rw[List.drop_eq_getElem_cons c];rw[yn c]at a;rw[yq a]
 rw[f]at h;cases h with
 |@cons j g _ _ h r=>
  obtain⟨i,d,o⟩:=h.kids k;have:=d.len;refine⟨h.SE,by lia,g+i,by lia,?_,by lia⟩;rw[List.drop_append_of_le_length (by lia)];exact r.append d
theorem f'{N m:Nat}{l:List Pt}(h:EL m (l.drop n))(e:n+m=N)(a:l[n]?=some t)(z:N<=20000):∃b,b<=20000/\Ly b t:=by
 have c:=(yo a).1;have d:l.drop n=t::l.drop (n+1):=by
  rw[List.drop_eq_getElem_cons c];rw[yn c]at a;rw[yq a]
 rw[d]at h;cases h with
 |@cons f g _ _ h r=>exact⟨f,by lia,h⟩
namespace Ak
mutual
theorem nd:∀a:Ak,a.CF->a.size<=900->Ly a.size a.pt
 |any,_,_=>.leaf (by decide) (by decide)
 |Ag d,_,_=>.leaf (by decide) (by decide)
 |row xs m,o,z=>by
  simp only[size]at z;have b:=Cr xs;simp only[CF]at o;simp only[size,pt];rw[Nat.add_comm];exact .row (by rw[AW,List.length_map];lia) (bO xs o (by lia))
 |tab c xs ls m,o,z=>by
  simp only[size]at z;simp only[CF]at o;simp only[size,pt];rw[Nat.add_comm];exact .tab (by rw[AW,List.length_map];exact o.1) o.2.1 (by lia) (bO xs o.2.2.2.2.2.2 (by lia))
theorem bO:∀xs:List Ak,Gd xs->AI xs<=900->EL (AI xs) (CO xs)
 |[],_,_=>.nil
 |x::r,o,z=>by
  simp only[AI]at z;simp only[Gd]at o;exact .cons (nd x o.1 (by lia)) (bO r o.2 (by lia))
end
theorem SF{a:Ak}(o:a.CF)(k:EJ a.pt.hold us):∃as,Kd a as/\us=as.map pt:=by
 cases a with
 |any=>exact⟨[],rfl,show us=[]from k⟩
 |Ag d=>
  have:us=[]:=by
   have h:EJ (.lst []) us:=by
    have e:(Ak.Ag d).pt.hold=.lst []:=by simp only[pt,Pt.hold];exact if_neg (by decide)
    rw[e]at k;exact k
   exact h
  exact⟨[],rfl,this⟩
 |row xs m=>exact⟨xs,rfl,by rw[<-AW];exact k⟩
 |tab c xs ls m=>
  simp only[CF]at o;obtain⟨b,f,i,e⟩:=(show∃b:List Str,b.Perm c/\sortedS b=true/\b.map (lk c (CO xs))=us.map some from k);obtain⟨as,g⟩:=GZ (xs:=xs) o.1 fun k j=>f.mem_iff.mp j;refine⟨as,⟨b,f,i,g⟩,?_⟩;refine some_inj (e.symm.trans ?_);rw[AW,List.map_map];have:b.map (lk c (xs.map pt))=(b.map (lk c xs)).map (Option.map pt):=by
   rw[List.map_map];exact List.map_congr_left fun k _=>Ds pt
  rw[this,g,List.map_map];rfl
end Ak
variable{mk:List Pt->Pt}{l:Addr}
section
variable{K:yt} [BR K]
theorem Bg.oU{a:Addr}{H':Hp}{xs:List V}(h:Bg K (Cs l H) a xs)(b:Bt (some l) H H'):Bg K H' a xs:=h.imp (fun r=>r.up fun o e=>by
 have c:a≠l:=fun z=>by unfold Cs at e;rw[if_pos z]at e;cases e
 rw[CI c]at e;exact b.keep _ _ (fun z=>c (yq z).symm) e) id
theorem Val.node{v:V}(h:Val H v t)(d:Ly n t):∃(a:Addr)(w:Str)(rest:List V),v=.ref a/\Bg K H a (.str w::rest)/\((w≠"row"/\w≠"table"/\t.hold=.lst [])∨((w="row"∨w="table")/\∃u r,rest=u::r/\Val H u t.hold)):=by
 cases d with
 |@leaf w r c f=>
  obtain⟨a,b,e,h,_⟩:=Val.t1 h;refine⟨a,w,b,e,h,.inl ⟨c,f,?_⟩⟩;cases r with
  |nil=>rfl
  |cons h r=>simp[Pt.hold,c,f]
 |@row n i r j d=>
  obtain⟨a,b,e,h,q⟩:=Val.t1 h;obtain⟨u,r,q,g,_⟩:=q.Fd;exact⟨a,"row",b,e,h,.inr ⟨.inl rfl,u,r,q,g⟩⟩
 |@tab n k i r l nd z d=>
  obtain⟨a,b,e,h,q⟩:=Val.t1 h;obtain⟨u,r,q,g,_⟩:=q.Fd;exact⟨a,"table",b,e,h,.inr ⟨.inr rfl,u,r,q,g⟩⟩
theorem Ow{H:Hp}:∀zs:List Str,AS H (zs.map V.str) (zs.map Pt.str)
 |[]=>.nil
 |z::r=>.cons (.str z) (Ow r)
theorem Ez{H:Hp}:∀{ls:List Str}{vs:List V},AS H vs (ls.map Pt.str)->vs=ls.map V.str
 |[],_,h=>by cases h;rfl
 |x::r,_,h=>by
  cases h with
  |cons a b=>cases a;rw[List.map_cons,Ez b]
theorem V_(l:List V)(i j:Nat)(h:i<=j)(a:j<=l.length):MW l (some (i:Int)) (some (j:Int))=(l.drop i).take (j-i):=by
 unfold MW;rw[HT.MV,HT.MV,Nat.min_eq_left a,Nat.min_eq_left (Nat.le_trans h a)]
inductive V'{K:yt}[BR K](vs:List V)(H:Hp)(Q:VK)(a:XK):Prop
 |mk(G:Hp)(v:V)(t:Pt)(n:Nat)(b:vs=[v])(c:AF G H)(d:Val G v t)(e:Ly n t)(f:∀(w:V) (H':Hp),AF H H'->(Val G w t.hold∨(t.hold=.lst []/\∃p,w=.ref p/\H' p=some (.lst [])))->Q w H')
def SG:Sp:=fun a H Q E=>V' a H Q E
inductive Tv{K:yt}[BR K](vs:List V)(H:Hp)(Q:VK)(b:XK):Prop
 |mk(G:Hp)(v:V)(t:Pt)(n:Nat)(c:vs=[v])(d:AF G H)(e:Val G v t)(f:Ly n t)(g:∀(p:Addr) (a:List V) (us:List Pt) (H':Hp),AF H H'->H p=none->H' p=some (.lst a)->AS G a us->EJ t.hold us->Q (.ref p) H')
def KX:Sp:=fun a H Q E=>Tv a H Q E
inductive WA{K:yt}[BR K](c:Addr)(vs:List V)(H:Hp)(Q:VK)(d:XK):Prop
 |mk(G:Hp)(v:V)(t:Pt)(n:Nat)(e:vs=[v,.ref c])(f:AF G H)(g:Val G v t)(h:Ly n t)(i:n<=20000)(j:∀(p:Addr) (b:List V) (l:List Pt) (a:List (List Pt)) (H':Hp),AF H H'->H p=none->H' p=some (.lst b)->AS G b l->Tu t l.length l a->l.length<=n->Q (.ref p) H')
def SH(a:Addr):Sp:=fun b H Q E=>WA a b H Q E
inductive IU{K:yt}[BR K](vs:List V)(H:Hp)(Q:VK)(a:XK):Prop
 |row (v:V) (ts:List Pt) (L:Addr) (ws:List V) (b:vs=[v,.ref L]) (c:Val H v (.lst ts)) (d:H L=some (.lst ws)) (e:ws.length<=900) (f:∀(p:Addr)(H':Hp),AF H H'->H p=none->H' p=some (.lst ws)->Q (.ref p) H'):IU vs H Q a
 |tab (v:V) (ks:List Str) (ts:List Pt) (L:Addr) (ws:List V) (b:vs=[v,.ref L]) (c:Val H v (.Ar ks ts)) (d:H L=some (.lst ws)) (e:Dr (.Ar ks ts)) (f:ws.length=ks.length) (g:ks.Nodup) (h:∀(p:Addr)(ss:List Str)(H':Hp),AF H H'->H p=none->ss.Perm ks->sortedS ss=true->H' p=some (.dK (Cb ss ws))->Q (.ref p) H'):IU vs H Q a
def HX:Sp:=fun a H Q E=>IU a H Q E
noncomputable def Ak.dQ:Ak->Bool
 | .Ag _=>false
 |_=>true
theorem YQ:∀{cs:List Ak}{vs:List V},vs.length=cs.length->(∀(i:Nat) v,vs[i]?=some v->∃c,cs[i]?=some c/\v=.bl c.dQ)->∃bs:List Bool,vs=bs.map V.bl/\bs.any id=(Ak.Dy cs).isNone:=by
 intro cs
 induction cs with
 |nil=>intro vs l _;have:vs=[]:=List.eq_nil_of_length_eq_zero l;subst this;exact⟨[],rfl,rfl⟩
 |cons c r f=>
  intro vs l h;cases vs with
  |nil=>simp at l
  |cons v vs=>
   obtain⟨bs,rfl,g⟩:=f (vs:=vs) (by simpa using l) fun i v j=>by
    obtain⟨a,b,e⟩:=h (i+1) v (by simpa using j);exact⟨a,by simpa using b,e⟩
   obtain⟨a,b,e⟩:=h 0 v rfl;have:c=a:=by simpa using b
   subst this;refine⟨c.dQ::bs,by rw[e];rfl,?_⟩;rw[List.any_cons,g];cases c with
   |Ag d=>simp[Ak.Dy,Ak.dQ]
   |_=>simp[Ak.Dy,Ak.dQ]
inductive HY:Pt->List Ak->(List Pt->Pt)->Prop
 |row (cs:List Ak) (z:cs.length<=900):HY (.lst (cs.map Ak.pt)) cs .lst
 |tab (ss:List Str) (cs:List Ak) (l:ss.length=cs.length) (nd:ss.Nodup) (z:ss.length<64) (a:sortedS ss=true):HY (.Ar ss (cs.map Ak.pt)) cs (.Ar ss)
theorem HY.SE(h:HY t cs mk):Dr t:=by
 cases h with
 |row cs z=>show(cs.map Ak.pt).length<=900;rw[List.length_map];exact z
 |tab a cs l nd z b=>exact⟨by rw[List.length_map];exact l,z⟩
theorem HY.len(h:HY t cs mk):cs.length<=900:=by
 cases h with
 |row cs z=>exact z
 |tab a cs l nd z b=>lia
theorem HY.kids(h:HY t cs mk)(k:EJ t us):us=cs.map Ak.pt:=by
 refine k.one ?_;cases h with
 |row cs z=>rfl
 |tab a cs l nd z b=>exact⟨a,.refl _,b,Mw (by rw[List.length_map];exact l) nd⟩
inductive Tw{K:yt}[BR K](vs:List V)(H:Hp)(Q:VK)(d:XK):Prop
 |mk(a:Hp)(v:V)(t:Pt)(cs:List Ak)(mk:List Pt->Pt)(e:vs=[v])(f:Val (nw a H) v t)(g:HY t cs mk)(h:∀b,H b=none->a b=none)(i:∀(w:V) (H':Hp),AF H H'->(Ak.Dy cs=none/\w=.Ah∨∃c,Ak.Dy cs=some c/\Val (nw a H') w (Ak.Ag (mk c)).pt)->Q w H')
def KY:Sp:=fun a H Q E=>Tw a H Q E
inductive RA{K:yt}[BR K](vs:List V)(H:Hp)(Q:VK)(c:XK):Prop
 |mk(a:Hp)(L:Addr)(ws:List V)(cs:List Ak)(m:Bool)(d:vs=[.ref L,.bl m])(e:H L=some (.lst ws))(f:AS (nw a H) ws (cs.map Ak.pt))(g:ws.length<=900)(h:∀b,H b=none->a b=none)(i:a L=none)(j:∀(w:V) (H':Hp),AF H H'->Val (nw a H') w (Ak.Be cs m).pt->Q w H')
def Lz:Sp:=fun a H Q E=>RA a H Q E
inductive RB{K:yt}[BR K](vs:List V)(H:Hp)(Q:VK)(c:XK):Prop
 |mk(G a:Hp)(L:Addr)(ss:List Str)(ws:List V)(cs:List Ak)(z:V)(ls:List Str)(m:Bool)(f:vs=[.ref L,z,.bl m])(g:H L=some (.dK (Cb ss ws)))(h:AS (nw a H) ws (cs.map Ak.pt))(i:ss.length=ws.length)(j:ss.Nodup)(k:ss.length<64)(l:sortedS ss=true)(n:∀b,H b=none->a b=none)(o:a L=none)(p:Val H z (.lst (ls.map Pt.str)))(d:ls.length<=100)(e:∀(w:V) (H':Hp),AF H H'->Val (nw a H') w (Ak.Bf ss cs ls m).pt->Q w H')
def L_:Sp:=fun a H Q E=>RB a H Q E
inductive Ox{K:yt}[BR K](vs:List V)(H:Hp)(Q:VK)(d:XK):Prop
 |mk(G c:Hp)(v:V)(a:Ak)(L:Addr)(ws:List V)(as cs:List Ak)(g:vs=[v,.ref L])(h:AF G H)(i:Val G v a.pt)(j:a.CF)(k:a.wt<=900)(l:H L=some (.lst ws))(m:c L=none)(n:∀b,H b=none->c b=none)(o:Ak.Kd a as)(p:Ak.DQ as cs)(e:AS (nw c H) ws (cs.map Ak.pt))(f:∀(w:V) (b:Ak) (H':Hp),AF H H'->Val (nw c H') w b.pt->Ak.Good a b->Q w H')
def Ge:Sp:=fun a H Q E=>Ox a H Q E
inductive WB{K:yt}[BR K](vs:List V)(H:Hp)(Q:VK)(c:XK):Prop
 |mk(G:Hp)(v:V)(a:Ak)(d:vs=[v])(e:AF G H)(f:Val G v a.pt)(g:a.CF)(h:a.wt<=900)(i:∀(w:V) (b:Ak) (H':Hp),AF H H'->Val (nw H H') w b.pt->Ak.Good a b->Q w H')
def SI:Sp:=fun a H Q E=>WB a H Q E
end
section
variable{prog:Program} {w:World} {A:Around} {E:Value->Shared->Prop} {s:Shared}
end
section
variable{prog:Program} {w:World} {A:Around} {R:Result->Shared->Prop}
end
section
variable{prog:Program} {w:World} {A:Around} {E:Value->Shared->Prop} {s:Shared}
end
section
variable{prog:Program} {w:World} {A:Around} {E:Value->Shared->Prop} {s:Shared}
end
section
variable{prog:Program} {w:World} {A:Around} {E:Value->Shared->Prop} {s:Shared}
end
section
variable{prog:Program} {w:World} {A:Around} {E:Value->Shared->Prop} {s:Shared}
end
section
variable{prog:Program} {w:World} {A:Around} {E:Value->Shared->Prop} {s:Shared}
end
section
variable{prog:Program} {w:World} {A:Around} {E:Value->Shared->Prop} {s:Shared}
end
section
variable{prog:Program} {w:World} {A:Around} {E:Value->Shared->Prop} {s:Shared}
end
section
variable{X:Cx}
end
open PySem.AutoSeq1 (wpAny_loadPart')
open PySem.MeetsSeq3
variable{e:Nat->Bool}{items a:Array Value}{u:Value}{b:Addr}
section
variable{prog:Program} {w:World} {A:Around} {s:Shared}
def SJ(prog:Program)(w:World)(A:Around)(s:Shared)(u v:Value)(b:Bool):Prop:=∀(E:Value->Shared->Prop)(Q:Bool->Shared->Prop),Q b s->wpAny (model prog w) A (eqBool u v) Q E s
def dR(prog:Program)(w:World)(A:Around)(s:Shared)(u v:Value)(b:Bool):Prop:=∀(E:Value->Shared->Prop)(Q:Value->Shared->Prop),Q (.bool b) s->wpAny (model prog w) A (richCompare .Eq u v) Q E s
theorem SJ.of{v:Value}{b:Bool}(h:SeqAt.EqAt A s u v b):SJ prog w A s u v b:=fun E Q a=>h prog w E Q a
theorem dR.of{v:Value}{b:Bool}(h:SeqAt.RcAt A s u v b):dR prog w A s u v b:=fun E Q a=>h prog w E Q a
theorem SJ.by{u v:Value}{b:Bool}(g:u=v->b=true)(nf:(∃i t,u=.int i t)∨(∃x t,u=.str x t)∨(∃c,u=.bool c)∨∃a,u=.ref a)(h:dR prog w A s u v b):SJ prog w A s u v b:=fun E Q f=>by
 by_cases e:u=v
 ·have:=g e;subst e this;exact SeqAt.EqAt.same _ prog w E Q f
 ·unfold eqBool;refine wpAny_holding (wpAny_ite_split (fun d=>absurd (eq_of_beq d) e) (fun _=>?_));rcases nf with⟨i,t,rfl⟩|⟨x,t,rfl⟩|⟨c,rfl⟩|⟨a,rfl⟩<;>exact wpAny_bind (h E _ (wpAny_truthy_bool f))
theorem WC{D:Nat}{E t:Option Addr}{F u:Array (Option Value)}(hsz:items.size=a.size)(hl:s.heap.get? l=some {cls:=.type "list",dict:=E,data:=.seq items n,slots:=F})(q:s.heap.get? b=some {cls:=.type "list",dict:=t,data:=.seq a D,slots:=u})(G:∀j (N:j<items.size) (O:j<a.size),SJ prog w A.in1 s items[j] a[j] (e j)){R:Result->Shared->Prop}{r:Bool}(B:r=true↔∀j,j<items.size->e j=true)(C:R (.ok (.ret (.bool r))) s):
  ∀k i:Nat,items.size-i=k->i<=items.size->(∀j,j<i->e j=true)->codeAny (model prog w) A (.builtin "list.__eq__.loop" ⟨[.ref l,.ref b,rawInt i,rawInt 2],[]⟩) R s:=by
 obtain⟨P,g,d,Q,os⟩:=s;intro k
 induction k with
 |zero=>
  intro i H I c;have J:i=items.size:=by lia
  have v:r=true:=B.mpr fun j K=>c j (by lia);subst v;refine codeAny_builtin entry_eq_loop ?_;rw[Around.under_plainId plain_eq_loop _];wp_walk using wpAny_loadPart' hl,wpAny_loadPart' q;have f:items[((i:Nat):Int).toNat]?=none:=by simp;lia
  have h:a[((i:Nat):Int).toNat]?=none:=by simp;lia
  rw[f,h];wp_walk using wpAny_loadPart' hl,wpAny_loadPart' q;show R (.ok (.ret (.bool (items.size==a.size)))) _;rw[hsz];simpa using C
 |succ k L=>
  intro i H I c;refine codeAny_builtin entry_eq_loop ?_;rw[Around.under_plainId plain_eq_loop _];wp_walk using wpAny_loadPart' hl,wpAny_loadPart' q;have m:i<items.size:=by lia
  have o:i<a.size:=by lia
  have f:items[((i:Nat):Int).toNat]?=some items[i]:=by simp[m]
  have h:a[((i:Nat):Int).toNat]?=some a[i]:=by simp[o]
  have M:((i:Int)+1)=((i+1:Nat):Int):=by push_cast;rfl
  rw[f,h];refine wpAny_bind (G i m o _ _ ?_);cases p:e i with
  |true=>
   wp_walk;rw[M];refine⟨plainId_quiet plain_eq_loop _,L (i+1) (by lia) m fun j K=>?_⟩;rcases Nat.lt_or_ge j i with z|z
   ·exact c j z
   ·rw[show j=i by lia];exact p
  |false=>
   have x:r=false:=by
    cases y:r with
    |false=>rfl
    |true=>have:=B.mp y i m;rw[p]at this;cases this
   subst x;wp_walk using wpAny_loadPart' hl,wpAny_loadPart' q;rw[f,h];wp_walk;exact C
theorem WD(hl:s.heap.IsList l items)(q:s.heap.IsList b a)(hsz:items.size=a.size)(t:A.units<cLine)(u:∀j (G:j<items.size) (H:j<a.size),SJ prog w A.in1 s items[j] a[j] (e j)){r:Bool}(v:r=true↔∀j,j<items.size->e j=true):dR prog w A s (.ref l) (.ref b) r:=fun E Q h=>by
 obtain⟨⟨y,I,data,J⟩,k,m,n,o⟩:=id hl;obtain⟨⟨p,z,data2,B⟩,c,f,K,i⟩:=id q;simp only at m o f i;subst m o f i;refine wpAny_richCompare_same_room (op:=.Eq) ⟨_,k,rfl⟩ ⟨_,c,rfl⟩ F.slot_list_eq (call_one F.slot_list_eq ⟨_,k,rfl⟩ F.entry_list_eq (F.args_list_eq_2 _ _) ?_) t;obtain⟨L,g,d,M,os⟩:=s;have N:=AutoSeq1.sub_list_list;have C:¬(items.size !=a.size)=true:=by simp[hsz]
 wp_walk using wpAny_loadPart' k,wpAny_loadPart' c;exact⟨plainId_quiet plain_eq_loop _,WC hsz k c u v (show(Value.bool r≠Value.notImplemented)/\Q (.bool r) _ from⟨(fun x=>nomatch x),h⟩) _ 0 rfl (Nat.zero_le _) fun j D=>absurd D (Nat.not_lt_zero _)⟩
theorem WE{Y:Type}[DecidableEq Y]{knd:PySem.KeyKind prog w Y}{a:Addr}{t y:List (Y×Value)}(ha:(a==sysModules)=false)(hb:(b==sysModules)=false)(W:s.heap.DictOf knd a t)(Z:s.heap.DictOf knd b y)(hu:A.units<cLine)(he:t.length=y.length->∀(j:Nat) k u,t[j]?=some (k,u)->(valueAt y k=none/\e j=false)∨∃v,valueAt y k=some v/\SJ prog w A.in1 s u v (e j)){r:Bool}(hr:r=true↔(t.length=y.length/\∀j,j<t.length->e j=true)):dR prog w A s (.ref a) (.ref b) r:=fun E Q h=>by
 refine wpAny_richCompare_same_room (op:=.Eq) W.typeIs Z.typeIs PySem.F.slot_dict_eq (wpAny_call_entry PySem.F.slot_dict_eq W.typeIs PySem.F.entry_dict_eq ?_ (PySem.F.args_dict_eq_2 _ _)) hu;show wpAny _ _ (Builtin.Dict.dictSlotArgs "__eq__" ⟨[.ref a,.ref b],[]⟩>>=_) _ _ s;refine wpAny_bind ?_;unfold Builtin.Dict.dictSlotArgs;refine wpAny_bind (wpAny_notOrdered_dict W.typeIs ?_);show wpAny _ _ (pure (Value.ref a,Value.ref b)) _ _ s;refine wpAny_pure ?_;refine wpAny_bind (wpAny_isInstance (T:="dict") Z.typeIs PySem.F.sub_dict_dict ?_);simp only[Bool.not_true,Bool.false_eq_true,if_false];refine wpAny_bind (wpAny_pure (wpAny_bind (wpAny_pure ?_)));obtain⟨oa,g,ep,B,_,C,YR,P,rx⟩:=W;obtain⟨ob,m,ry,D,_,G,R,J,rz⟩:=Z;have K:t.length=g.size:=by rw[<-P.length];exact Array.length_toList
 have L:y.length=m.size:=by rw[<-J.length];exact Array.length_toList
 refine wpAny_bind ?_;unfold Builtin.Dict.samePairs Builtin.Dict.showsAll;rw[if_neg (show¬(a==sysModules)=true by rw[ha];exact Bool.false_ne_true),if_neg (show¬(b==sysModules)=true by rw[hb];exact Bool.false_ne_true)];refine wpAny_bind (wpAny_pure (wpAny_bind (wpAny_pure ?_)));refine wpAny_bind (wpAny_dictEntries B C ?_);dsimp only;refine wpAny_bind (wpAny_dictEntries D G ?_);have fin:∀c:Bool,c=r->∃v,Fin.done (Flow.ret (Value.bool (c==true)))=.done (.ret v)/\v≠.notImplemented/\Q v s:=fun c hc=>by
  subst hc;refine⟨_,rfl,(fun x=>nomatch x),?_⟩;cases c<;>exact h
 by_cases S:t.length=y.length
 ·rw[if_neg (by rw[<-K,<-L,S];simp)];refine wpAny_bind (wpAny_dictEpoch B C ?_);refine wpAny_bind ?_;rw[Std.Legacy.Range.forIn_eq_forIn_range'];simp only[Std.Legacy.Range.size,Nat.sub_zero,Nat.add_sub_cancel,Nat.div_one];refine wpAny_forIn_list _ (fun rest q s'=>s'=s/\q=(none,())/\∃i,rest=List.range' i (g.size-i)/\i<=g.size/\∀j,j<i->e j=true) _ ?_ ?_ _ _ ⟨rfl,rfl,0,by simp,Nat.zero_le _,fun j M=>absurd M (Nat.not_lt_zero _)⟩
  ·rintro x rest q s' ⟨rfl,rfl,i,f,hi,n⟩;have o:i<g.size:=by
    rcases Nat.lt_or_ge i g.size with h|h
    ·exact h
    ·rw[Nat.sub_eq_zero_of_le h]at f;simp at f
   obtain⟨rfl,N⟩:x=i/\rest=List.range' (i+1) (g.size-(i+1)):=by
    have e:g.size-i=(g.size-(i+1))+1:=by lia
    rw[e,List.range'_succ]at f;injection f with h1 h2;exact⟨h1,h2⟩
   have H:x<t.length:=by rw[K];exact o
   obtain⟨k,u,r_⟩:∃k u,t[x]=(k,u):=⟨_,_,rfl⟩;have gk:t[x]?=some (k,u):=by rw[yn H,r_]
   have hh:=he S x k u gk;refine wpAny_bind (wpAny_dictEntries B C ?_);rw[Array.getElem?_eq_getElem o];obtain⟨I,U⟩:=P.get? (i:=x) (e:=g[x]) (k:=k) (v:=u) (by rw[Array.getElem?_toList];exact Array.getElem?_eq_getElem o) gk;obtain⟨k2,YS,V⟩:=YR g[x] (Array.getElem_mem o);have sA:k2=k:=knd.inj _ _ _ YS I;rw[sA]at V;show wpAny _ _ (holding [g[x].key,g[x].val] _>>=_) _ _ _;rw[V];refine wpAny_bind (wpAny_holding (wpAny_bind (wpAny_dictFind_of I D G R ?_)));have d:findBy knd.is m k=valueAt y k:=by
    rw[<-J.find k];clear L J R G D;obtain⟨l⟩:=m;simp[findBy]
   have rf:e x=false->false=r:=fun O=>by
    cases f:r with
    |false=>rfl
    |true=>have:=(hr.mp f).2 x H;rw[O]at this;cases this
   cases M:m.findIdx? fun e=>knd.is k e.key with
   |none=>
    rw[findBy_of_findIdx?,M]at d;have hn:valueAt y k=none:=d.symm;rcases hh with⟨_,O⟩|⟨v,X,_⟩
    ·refine wpAny_pure ?_;show wpAny _ _ (if(!false)=true then _ else _) _ _ _;rw[if_pos (by decide)];exact wpAny_pure (wpAny_pure (wpAny_pure (fin false (rf O))))
    ·rw[hn]at X;cases X
   |some j=>
    obtain⟨p,_,_⟩:=Array.findIdx?_eq_some_iff_getElem.mp M;rw[findBy_of_findIdx?,M]at d;rcases hh with⟨hn,_⟩|⟨v,X,hq⟩
    ·rw[hn]at d;simp[Array.getElem?_eq_getElem p]at d
    have sD:m[j].val=v:=by
     rw[X]at d;simpa[Array.getElem?_eq_getElem p]using d
    refine wpAny_bind (wpAny_dictEntries D G ?_);rw[Array.getElem?_eq_getElem p];refine wpAny_holding ?_;rw[sD,U];refine hq _ _ ?_;cases O:e x with
    |true=>
     show wpAny _ _ (if(!true)=true then _ else _) _ _ _;rw[if_neg (by decide)];refine wpAny_bind (wpAny_dictEpoch B C ?_);rw[if_neg (by simp)];refine wpAny_pure ⟨rfl,rfl,x+1,N,o,fun j M=>?_⟩;rcases Nat.lt_or_ge j x with z|z
     ·exact n j z
     ·rw[show j=x by lia];exact O
    |false=>
     show wpAny _ _ (if(!false)=true then _ else _) _ _ _;rw[if_pos (by decide)];exact wpAny_pure (wpAny_pure (wpAny_pure (fin false (rf O))))
  ·rintro q s' ⟨rfl,rfl,i,f,hi,n⟩;have xm:i=g.size:=by
    rcases Nat.lt_or_ge i g.size with h|h
    ·have e:g.size-i=(g.size-(i+1))+1:=by lia
     rw[e,List.range'_succ]at f;cases f
    ·lia
   exact wpAny_pure (wpAny_pure (fin true (hr.mpr ⟨S,fun j M=>n j (by lia)⟩).symm))
 ·rw[if_pos (by rw[<-K,<-L];simpa using S)];have sH:false=r:=by
   cases f:r with
   |false=>rfl
   |true=>exact absurd (hr.mp f).1 S
  exact wpAny_bind (wpAny_rule (wpAny_pure (wpAny_pure (fin false sH))))
end
namespace Pt
theorem Tx{y k:Str}{r:List Str}{z:Pt}{zs:List Pt}:look (y::r) (z::zs) k=if k=y then some z else look r zs k:=BW
theorem Ef{ls:List Str}{ys:List Pt}:∀{ks:List Str}{xs:List Pt},LR ks xs ls ys=true↔∀(j:Nat) k x,ks[j]?=some k->xs[j]?=some x->∃y,look ls ys k=some y/\Bm x y=true
 |[],xs=>by simp[LR]
 |_::_,[]=>by simp[LR]
 |k::ks,x::xs=>by
  simp only[LR,Bool.and_eq_true,Ef (ks:=ks) (xs:=xs)];constructor
  ·intro⟨a,d⟩ j e f b c;cases j with
   |zero=>
    simp at b c;subst b c;cases g:look ls ys k with
    |none=>rw[g]at a;cases a
    |some y=>rw[g]at a;exact⟨y,rfl,a⟩
   |succ j=>exact d j e f (by simpa using b) (by simpa using c)
  ·intro h;refine⟨?_,fun j e f b c=>h (j+1) e f (by simpa using b) (by simpa using c)⟩;obtain⟨y,a,d⟩:=h 0 k x rfl rfl;rw[a];exact d
theorem M':∀{ks:List Str}{xs:List Pt}{j:Nat}{k:Str}{x:Pt},ks.Nodup->ks[j]?=some k->xs[j]?=some x->look ks xs k=some x
 |[],_,_,_,_,_,h,_=>by simp at h
 |_::_,[],_,_,_,_,_,h=>by simp at h
 |y::ks,z::zs,j,k,x,nd,b,c=>by
  obtain⟨d,f⟩:=List.nodup_cons.mp nd;rw[Tx];cases j with
  |zero=>simp at b c;rw[if_pos b.symm,c]
  |succ j=>
   have a:ks[j]?=some k:=by simpa using b
   rw[if_neg (fun e=>d (by rw[<-e];exact yr a))];exact M' f a (by simpa using c)
mutual
def NA:Pt->Prop
 |int _|str _|bl _|Ah=>True
 |lst xs|tup xs=>FN xs
 |Ar ks xs=>ks.Nodup/\FN xs
def FN:List Pt->Prop
 |[]=>True
 |x::r=>NA x/\FN r
end
mutual
theorem WG:∀t:Pt,t.nice->t.NA
 |int _,_=>trivial
 |str _,_=>trivial
 |bl _,_=>trivial
 |Ah,_=>trivial
 |lst xs,d=>by simp only[nice]at d;exact JX xs d.2
 |tup xs,d=>by simp only[nice]at d;exact JX xs d.2
 |Ar ks xs,d=>by simp only[nice]at d;exact⟨d.2.1,JX xs d.2.2.2⟩
theorem JX:∀xs:List Pt,CC xs->FN xs
 |[],_=>trivial
 |x::r,d=>by simp only[CC]at d;exact⟨WG x d.1,JX r d.2⟩
end
mutual
theorem KZ:∀t:Pt,t.doc->t.NA
 |int _,_=>trivial
 |str _,_=>trivial
 |bl _,_=>trivial
 |Ah,_=>trivial
 |tup _,d=>by simp[doc]at d
 |lst xs,d=>by simp only[doc]at d;exact Ka xs d
 |Ar ks xs,d=>by simp only[doc]at d;exact⟨d.2.1,Ka xs d.2.2.2.2⟩
theorem Ka:∀xs:List Pt,Cj xs->FN xs
 |[],_=>trivial
 |x::r,d=>by simp only[Cj]at d;exact⟨KZ x d.1,Ka r d.2⟩
end
mutual
theorem Du:∀t:Pt,t.NA->Bm t t=true
 |int _,_=>by simp[Bm]
 |str _,_=>by simp[Bm]
 |bl _,_=>by simp[Bm]
 |Ah,_=>by simp[Bm]
 |lst xs,d=>by simp only[NA]at d;simp only[Bm];exact Eg xs d
 |tup xs,d=>by simp only[NA]at d;simp only[Bm];exact Eg xs d
 |Ar ks xs,d=>by
  simp only[NA]at d;simp only[Bm,beq_self_eq_true,Bool.true_and];refine Ef.mpr fun j k x b a=>⟨x,M' d.1 b a,?_⟩;have:=Eg xs d.2;exact SK xs this j x a
theorem Eg:∀xs:List Pt,FN xs->Ca xs xs=true
 |[],_=>by simp[Ca]
 |x::r,d=>by simp only[FN]at d;simp only[Ca,Bool.and_eq_true];exact⟨Du x d.1,Eg r d.2⟩
theorem SK:∀xs:List Pt,Ca xs xs=true->∀(j:Nat) x,xs[j]?=some x->Bm x x=true
 |[],_,j,x,h=>by simp at h
 |y::r,h,0,x,a=>by
  simp only[Ca,Bool.and_eq_true]at h;simp at a;subst a;exact h.1
 |y::r,h,j+1,x,a=>by
  simp only[Ca,Bool.and_eq_true]at h;exact SK r h.2 j x (by simpa using a)
end
end Pt
variable{ts:List Pt}{ks:List Str}{x:Pt}
section
variable{K:yt} [BR K]
theorem Rd.one{a:Addr}{u v:HO}(h:Rd H a u)(h':Rd H a v)(b:∀o z,u≠.Ba o z)(c:∀o z,v≠.Ba o z):u=v:=by
 rcases h with h|⟨o,h⟩<;>rcases h' with h'|⟨d,h'⟩<;>rw[h]at h'
 ·exact yq h'
 ·exact absurd (yq h') (b _ _)
 ·exact absurd (yq h').symm (c _ _)
 ·have:=yq h';injection this
theorem NB:∀{ks ls:List Str},ks.map (Sum.inr:Str->Key)=ls.map Sum.inr->ks=ls
 |[],[],_=>rfl
 |[],_::_,h=>by simp at h
 |_::_,[],h=>by simp at h
 |k::ks,l::ls,h=>by
  simp only[List.map_cons,List.cons.injEq]at h;rw[Sum.inr.inj h.1,NB h.2]
mutual
theorem Val.one{H:Hp}:∀(s:Pt){v:V}{t:Pt},Val H v s->Val H v t->s.doc->t.doc->s=t
 | .int _=>fun h g _ _=>by cases h;cases g;rfl
 | .str _=>fun h g _ _=>by cases h;cases g;rfl
 | .bl _=>fun _ _ d _=>by simp[Pt.doc]at d
 | .Ah=>fun _ _ d _=>by simp[Pt.doc]at d
 | .tup _=>fun _ _ d _=>by simp[Pt.doc]at d
 | .lst ts=>fun g h d d'=>by
  cases g with
  |lst b c=>
   cases h with
   |lst a f=>
    cases Rd.one b a (fun o z e=>by cases e) (fun o z e=>by cases e);simp only[Pt.doc]at d d';rw[AS.one ts c f d d']
   |tup _ _=>simp[Pt.doc]at d'
   |Ar a _ _=>cases Rd.one b a (fun o z e=>by cases e) (fun o z e=>by cases e)
 | .Ar ks ts=>fun g h d d'=>by
  cases g with
  |Ar b j c=>
   cases h with
   |Ar a i f=>
    cases Rd.one b a (fun o z e=>by cases e) (fun o z e=>by cases e);simp only[Pt.doc]at d d';rw[AS.one ts c f d.2.2.2.2 d'.2.2.2.2];congr 1;rw[j]at i;exact NB i
   |tup _ _=>simp[Pt.doc]at d'
   |lst a _=>cases Rd.one b a (fun o z e=>by cases e) (fun o z e=>by cases e)
theorem AS.one{H:Hp}:∀(ss:List Pt){vs:List V}{ts:List Pt},AS H vs ss->AS H vs ts->Pt.Cj ss->Pt.Cj ts->ss=ts
 |[]=>fun g h _ _=>by cases g;cases h;rfl
 |s::ss=>fun g h' d d'=>by
  cases g with
  |cons h r=>
   cases h' with
   |cons g q=>
    simp only[Pt.Cj]at d d';rw[Val.one s h g d.1 d'.1,AS.one ss r q d.2 d'.2]
end
def ky(s t:Pt):Prop:=(s.doc/\t.doc)∨Pt.Bm s t=true
def L'(ls:List Str)(ts:List Pt)(k:Str)(x:Pt):Bool:=match Pt.look ls ts k with
 |some y=>Pt.Bm x y
 |none=>false
theorem Gf{ls:List Str}{k:Str}{y:Pt}(h:Pt.look ls ts k=some y):L' ls ts k x=Pt.Bm x y:=by unfold L';rw[h]
theorem Kb{ls:List Str}{k:Str}(h:Pt.look ls ts k=none):L' ls ts k x=false:=by unfold L';rw[h]
def bP(ks:List Str)(ps:List Pt)(ls:List Str)(ts:List Pt)(j:Nat):Bool:=match ks[j]?,ps[j]? with
 |some k,some x=>L' ls ts k x
 |_,_=>false
theorem NC{ls:List Str}{ps:List Pt}{j:Nat}{k:Str}(a:ks[j]?=some k)(b:ps[j]?=some x):bP ks ps ls ts j=L' ls ts k x:=by unfold bP;rw[a,b]
theorem Eh{xs:List Pt}(l:xs.length=ys.length):Pt.Ca xs ys=true↔∀j,j<xs.length->pairE xs ys j=true:=by
 rw[<-KL l,List.all_eq_true];exact⟨fun h j a=>h j (List.mem_range.mpr a),fun h j a=>h j (List.mem_range.mp a)⟩
end
section
variable{X:Cx} [BR X.K] {pins:List (Addr×Obj)} {σ:St} {H:Hp} {s:Shared}
theorem YT{x:V}(h:Val H x t)(d:t≠.Ah)(r:RelV x u):(∃i t,u=.int i t)∨(∃x t,u=.str x t)∨(∃c,u=.bool c)∨∃a,u=.ref a:=by
 cases h with
 |int i=>exact .inl ⟨i,r⟩
 |str x=>exact .inr (.inl ⟨x,r⟩)
 |bl b=>exact .inr (.inr (.inl ⟨b,r⟩))
 |Ah=>exact absurd rfl d
 |@lst a _ _ _ _=>exact .inr (.inr (.inr ⟨a,r⟩))
 |@tup a _ _ _ _=>exact .inr (.inr (.inr ⟨a,r⟩))
 |@Ar a _ _ _ _ _ _=>exact .inr (.inr (.inr ⟨a,r⟩))
theorem sI(I:Inv X pins σ H s){p:Pt}(ih:∀p':Pt,p'.deep<p.deep->∀t',ky p' t'->∀{x y:V},Val H x p'->Val H y t'->∀{A:Around} {u v:Value},A.units+p'.deep<cLine->RelV x u->RelV y v->SJ X.prog X.w A s u v (Pt.Bm p' t'))(nb:∀b,p≠.bl b)(c:ky p t){x y:V}(hx:Val H x p)(hy:Val H y t){A:Around}{v:Value}(hu:A.units+p.deep<cLine)(ru:RelV x u)(m:RelV y v):dR X.prog X.w A s u v (Pt.Bm p t):=by
 have f:A.units<cLine:=by lia
 cases hx with
 |int i=>
  obtain⟨t1,rfl⟩:∃t,u=Value.int i t:=ru;cases hy with
  |int j=>obtain⟨t2,rfl⟩:∃t,v=Value.int j t:=m;simp only[Pt.Bm];exact .of (SeqAt.RcAt.int_int i t1 j t2)
  |str z=>obtain⟨t2,rfl⟩:∃t,v=Value.str z t:=m;simp only[Pt.Bm];exact .of (SeqAt.RcAt.int_str i t1 z t2)
  |bl b=>rcases c with⟨_,d⟩|c;(·simp[Pt.doc]at d);simp[Pt.Bm]at c
  |Ah=>rcases c with⟨_,d⟩|c;(·simp[Pt.doc]at d);simp[Pt.Bm]at c
  |tup _ _=>rcases c with⟨_,d⟩|c;(·simp[Pt.doc]at d);simp[Pt.Bm]at c
  |@lst b M o q B=>
   cases(show v=Value.ref b from m);obtain⟨C,Q,N,_⟩:=I.list (.inl q);simp only[Pt.Bm];exact .of (SeqAt.RcAt.int_list i t1 N.isList f)
  |@Ar b kvs O o q R B=>
   cases(show v=Value.ref b from m);obtain⟨_,Y,es,n,sl,F,_⟩:=IM I q;simp only[Pt.Bm];exact .of (Oe i t1 F f)
 |str x0=>
  obtain⟨t1,rfl⟩:∃t,u=Value.str x0 t:=ru;cases hy with
  |int j=>obtain⟨t2,rfl⟩:∃t,v=Value.int j t:=m;simp only[Pt.Bm];exact .of (SeqAt.RcAt.str_int x0 t1 j t2)
  |str z=>obtain⟨t2,rfl⟩:∃t,v=Value.str z t:=m;simp only[Pt.Bm];exact .of (SeqAt.RcAt.str_str x0 t1 z t2)
  |bl b=>rcases c with⟨_,d⟩|c;(·simp[Pt.doc]at d);simp[Pt.Bm]at c
  |Ah=>rcases c with⟨_,d⟩|c;(·simp[Pt.doc]at d);simp[Pt.Bm]at c
  |tup _ _=>rcases c with⟨_,d⟩|c;(·simp[Pt.doc]at d);simp[Pt.Bm]at c
  |@lst b M o q B=>
   cases(show v=Value.ref b from m);obtain⟨C,Q,N,_⟩:=I.list (.inl q);simp only[Pt.Bm];exact .of (SeqAt.RcAt.str_list x0 t1 N.isList f)
  |@Ar b kvs O o q R B=>
   cases(show v=Value.ref b from m);obtain⟨_,Y,es,n,sl,F,_⟩:=IM I q;simp only[Pt.Bm];exact .of (Og x0 t1 F f)
 |bl b=>exact absurd rfl (nb b)
 |Ah=>
  cases(show u=Value.none from ru);have c:Pt.Bm .Ah t=true:=by
   rcases c with⟨d,_⟩|c
   ·simp[Pt.doc]at d
   ·exact c
  cases hy with
  |Ah=>cases(show v=Value.none from m);simp only[Pt.Bm];exact .of SeqAt.RcAt.none_none
  |_=>simp[Pt.Bm]at c
 |@lst a sJ r S T=>
  cases(show u=Value.ref a from ru);obtain⟨kz,r0,p0,_⟩:=I.list (.inl S);have e0:kz.toArray.size=r.length:=by rw[List.size_toArray,<-r0.length,T.length]
  simp only[Pt.deep]at hu;cases hy with
  |int j=>obtain⟨t2,rfl⟩:∃t,v=Value.int j t:=m;simp only[Pt.Bm];exact .of (SeqAt.RcAt.list_int j t2 p0.isList f)
  |str z=>obtain⟨t2,rfl⟩:∃t,v=Value.str z t:=m;simp only[Pt.Bm];exact .of (SeqAt.RcAt.list_str z t2 p0.isList f)
  |bl b=>rcases c with⟨_,d⟩|c;(·simp[Pt.doc]at d);simp[Pt.Bm]at c
  |Ah=>rcases c with⟨_,d⟩|c;(·simp[Pt.doc]at d);simp[Pt.Bm]at c
  |tup _ _=>rcases c with⟨_,d⟩|c;(·simp[Pt.doc]at d);simp[Pt.Bm]at c
  |@Ar b kvs O o q R B=>
   cases(show v=Value.ref b from m);obtain⟨_,Y,es,n,sl,F,_⟩:=IM I q;simp only[Pt.Bm];exact .of (Mt p0.isList F f)
  |@lst b M o q B=>
   cases(show v=Value.ref b from m);obtain⟨C,Q,N,_⟩:=I.list (.inl q);have e1:C.toArray.size=o.length:=by rw[List.size_toArray,<-Q.length,B.length]
   simp only[Pt.Bm];by_cases l:r.length=o.length
   ·refine WD p0.isList N.isList (by rw[e0,e1,l]) f (e:=pairE r o) (fun j E Z=>?_) (by rw[e0];exact Eh l);obtain⟨v1,t1,g1,G,J,D⟩:=T.at r0 E;obtain⟨v2,t2,g3,g4,L,gB⟩:=B.at Q Z;have e:pairE r o j=Pt.Bm t1 t2:=by simp[pairE,G,g4]
    rw[e];have dl:=Pt.Ap (yr G);refine ih t1 (by simp only[Pt.deep];lia) t2 ?_ J L (by show A.units+1+_<cLine;lia) D gB;rcases c with⟨d,d'⟩|c
    ·simp only[Pt.doc]at d d';exact .inl ⟨Pt.CN d _ (yr G),Pt.CN d' _ (yr g4)⟩
    ·simp only[Pt.Bm]at c;exact .inr (by rw[<-e];exact(Eh l).mp c j (by rw[<-e0];exact E))
   ·rw[DO l];exact .of (SeqAt.RcAt.lists_lengths p0.isList N.isList (by rw[e0,e1];simpa using l) f)
 |@tup a sJ r S T=>
  cases(show u=Value.ref a from ru);have U:Pt.Bm (.tup r) t=true:=by
   rcases c with⟨d,_⟩|c
   ·simp[Pt.doc]at d
   ·exact c
  simp only[Pt.deep]at hu;cases hy with
  |@tup b M o q B=>
   cases(show v=Value.ref b from m);simp only[Pt.Bm]at U⊢;have l:r.length=o.length:=by
    rcases Nat.lt_trichotomy r.length o.length with z|z|z
    ·rw[DO (by lia)]at U;cases U
    ·exact z
    ·rw[DO (by lia)]at U;cases U
   obtain⟨C,Q,N,_⟩:=I.tuple S;obtain⟨k_,r2,p2,_⟩:=I.tuple q;have e1:C.toArray.size=r.length:=by rw[List.size_toArray,<-Q.length,T.length]
   have e2:k_.toArray.size=o.length:=by rw[List.size_toArray,<-r2.length,B.length]
   rw[U];refine Tn N p2 (by rw[e1,e2,l]) f fun j E Z=>?_;obtain⟨v1,t1,g1,G,J,D⟩:=T.at Q E;obtain⟨v2,t2,g3,g4,L,gB⟩:=B.at r2 Z;have e:pairE r o j=Pt.Bm t1 t2:=by simp[pairE,G,g4]
   have et:Pt.Bm t1 t2=true:=by rw[<-e];exact(Eh l).mp U j (by rw[<-e1];exact E)
   have dl:=Pt.Ap (yr G);have:=ih t1 (by simp only[Pt.deep];lia) t2 (.inr et) J L (A:=A.in1) (by show A.units+1+_<cLine;lia) D gB;rw[et]at this;exact this
  |_=>simp[Pt.Bm]at U
 |@Ar a kvs O r S YR T=>
  cases(show u=Value.ref a from ru);simp only[Pt.deep]at hu;cases hy with
  |int j=>obtain⟨t2,rfl⟩:∃t,v=Value.int j t:=m;obtain⟨_,Y,es,n,sl,F,_⟩:=IM I S;simp only[Pt.Bm];exact .of (Of j t2 F f)
  |str z=>obtain⟨t2,rfl⟩:∃t,v=Value.str z t:=m;obtain⟨_,Y,es,n,sl,F,_⟩:=IM I S;simp only[Pt.Bm];exact .of (Oh z t2 F f)
  |bl b=>rcases c with⟨_,d⟩|c;(·simp[Pt.doc]at d);simp[Pt.Bm]at c
  |Ah=>rcases c with⟨_,d⟩|c;(·simp[Pt.doc]at d);simp[Pt.Bm]at c
  |tup _ _=>rcases c with⟨_,d⟩|c;(·simp[Pt.doc]at d);simp[Pt.Bm]at c
  |@lst b M o q B=>
   cases(show v=Value.ref b from m);obtain⟨_,Y,es,n,sl,F,_⟩:=IM I S;obtain⟨C,Q,N,_⟩:=I.list (.inl q);simp only[Pt.Bm];exact .of (Mu N.isList F f)
  |@Ar b j_ ls o q oV B=>
   cases(show v=Value.ref b from m);obtain⟨z,hm,M,rel,Y⟩:=EV I.Ax S;obtain⟨z',lA,lB,W,lC⟩:=EV I.Ax q;have k1:M.map (·.1)=O.map Sum.inr:=by rw[<-YR];exact(KV.keys rel).symm
   have l1:M.length=O.length:=by have:=congrArg List.length k1;simpa using this
   have l2:lB.length=ls.length:=by
    rw[<-W.length];have:=congrArg List.length oV;simpa using this
   have lp:O.length=r.length:=by
    have E:=T.length;rw[List.length_map]at E;have Z:=congrArg List.length YR;simp at Z;lia
   refine WE hm lA Y lC f (e:=bP O r ls o) (fun ll j k u g=>?_) ?_
   ·have hj:j<M.length:=(yo g).1;have gv:(M.map (·.2))[j]?=some u:=by rw[List.getElem?_map,g];rfl
    have E:j<(M.map (·.2)).toArray.size:=by rw[List.size_toArray];exact(yo gv).1
    obtain⟨v1,t1,g1,G,J,D⟩:=T.at (Ry rel) E;rw[Qn gv E]at D;obtain⟨nm,Uc⟩:∃nm,O[j]?=some nm:=⟨_,yn (by lia)⟩;have ek:k=Sum.inr nm:=by
     have:=congrArg (fun z=>z[j]?) k1;simp only[List.getElem?_map,g,Uc]at this;simpa using this
    subst ek;rw[NC Uc G];have m:=W.val (Sum.inr nm);rcases Val.Dd oV B nm with⟨w1,t2,q1,q2,L⟩|⟨q1,q2⟩
    ·rw[q1]at m;rw[Gf q2];cases P:valueAt lB (Sum.inr nm)with
     |none=>rw[P]at m;exact m.elim
     |some u2=>
      rw[P]at m;have dl:=Pt.Ap (yr G);refine .inr ⟨u2,rfl,ih t1 (by simp only[Pt.deep];lia) t2 ?_ J L (by show A.units+1+_<cLine;lia) D m⟩;rcases c with⟨d,d'⟩|c
      ·simp only[Pt.doc]at d d';exact .inl ⟨Pt.CN d.2.2.2.2 _ (yr G),Pt.CN d'.2.2.2.2 _ (Pt.Vn q2).2⟩
      ·simp only[Pt.Bm,Bool.and_eq_true]at c;obtain⟨y,y1,y2⟩:=Pt.Ef.mp c.2 j nm t1 Uc G;rw[q2]at y1;cases y1;exact .inr y2
    ·rw[q1]at m;rw[Kb q2];cases P:valueAt lB (Sum.inr nm)with
     |some u2=>rw[P]at m;exact m.elim
     |none=>exact .inl ⟨rfl,rfl⟩
   ·simp only[Pt.Bm,Bool.and_eq_true,beq_iff_eq,Pt.Ef];rw[l1,l2];refine and_congr_right fun ll=>⟨fun h j hj=>?_,fun h j k x R hx=>?_⟩
    ·obtain⟨k,R⟩:∃k,O[j]?=some k:=⟨_,yn hj⟩;obtain⟨x,hx⟩:∃x,r[j]?=some x:=⟨_,yn (by lia)⟩;obtain⟨y,E,Z⟩:=h j k x R hx;rw[NC R hx,Gf E];exact Z
    ·have:=h j (yo R).1;rw[NC R hx]at this;cases hl:Pt.look ls o k with
     |none=>rw[Kb hl]at this;cases this
     |some y=>rw[Gf hl]at this;exact⟨y,rfl,this⟩
theorem WH(I:Inv X pins σ H s):∀(n:Nat)(p:Pt),p.deep<=n->∀t,ky p t->∀{x y:V},Val H x p->Val H y t->∀{A:Around}{u v:Value},A.units+p.deep<cLine->RelV x u->RelV y v->SJ X.prog X.w A s u v (Pt.Bm p t)
 |0,p,h=>by have:=Pt.Oi p;lia
 |n+1,p,h=>fun t c x y a g A u v m f i=>by
  by_cases k:∃b,p=.bl b
  ·obtain⟨b,rfl⟩:=k;rcases c with⟨d,_⟩|c
   ·simp[Pt.doc]at d
   ·cases t with
    |bl o=>
     have e:b=o:=by simpa[Pt.Bm]using c
     subst e;cases a;cases g;cases(show u=Value.bool b from f);cases(show v=Value.bool b from i);rw[c];exact .of (SeqAt.EqAt.same _)
    |_=>simp[Pt.Bm]at c
  ·by_cases l:p=.Ah
   ·subst l;rcases c with⟨d,_⟩|c
    ·simp[Pt.doc]at d
    ·cases t with
     |Ah=>
      cases a;cases g;cases(show u=Value.none from f);cases(show v=Value.none from i);rw[c];exact .of (SeqAt.EqAt.same _)
     |_=>simp[Pt.Bm]at c
   refine SJ.by (fun e=>?_) (YT a l f) (sI I (fun q B=>WH I n q (by lia)) (fun b z=>k ⟨b,z⟩) c a g m f i)
   rcases c with⟨d,r⟩|c
   ·subst e;have j:x=y:=f.inj i;subst j;have:=Val.one p a g d r;subst this;exact Pt.Du p (Pt.KZ p d)
   ·exact c
end
section
variable{X:Cx}
end
open PySem.AutoSeq1 (wpAny_loadPart')
open PySem.MeetsSeq3
section
variable{prog:Program} {w:World} {A:Around} {s:Shared}
theorem Tz(hl:s.heap.IsTuple l items)(G:s.heap.IsTuple b a)(hsz:items.size=a.size)(H:A.units<cLine)(I:∀j (v:j<items.size) (z:j<a.size),oR prog w A.in1 s items[j] a[j]){Q:Value->Shared->Prop}(h:Q (.bool false) s):wpAny (model prog w) A (richCompare .NotEq (.ref l) (.ref b)) Q E s:=by
 obtain⟨⟨J,R,data,S⟩,r,B,n,C⟩:=id hl;obtain⟨⟨D,K,data2,L⟩,f,k,T,m⟩:=id G;simp only at B C k m;subst B C k m;refine wpAny_richCompare_same_room (op:=.NotEq) ⟨_,r,rfl⟩ ⟨_,f,rfl⟩ F.slot_tuple_ne (wpAny_call_entry F.slot_tuple_ne ⟨_,r,rfl⟩ F.entry_tuple_ne ?_ (F.args_tuple_ne_2 _ _)) H;obtain⟨M,g,d,N,os⟩:=s;have U:=AutoSeq1.sub_tuple_tuple;wp_walk using wpAny_loadPart' r,wpAny_loadPart' f,wpAny_forIn_list _ (fun rest b t=>b.1=none/\t=⟨M,g,d,N,os⟩/\∃i,rest=(items.toList.zip a.toList).drop i) _
 case turn=>
  rintro⟨y,x⟩ rest b t ⟨c,rfl,i,o⟩;have p:i<(items.toList.zip a.toList).length:=by
   rcases Nat.lt_or_ge i (items.toList.zip a.toList).length with u|u
   ·exact u
   ·rw[List.drop_of_length_le u]at o;cases o
  have v:i<items.size:=by simp at p;lia
  have z:i<a.size:=by lia
  rw[List.drop_eq_getElem_cons p]at o;injection o with q e;have O:y=items[i]:=by have:=congrArg Prod.fst q;simpa using this
  have P:x=a[i]:=by have:=congrArg Prod.snd q;simpa using this
  subst O P;refine wpAny_bind (I i v z _ _ ?_);wp_walk;exact⟨rfl,rfl,i+1,e⟩
 case fin=>
  rintro⟨V,W⟩ t ⟨c,rfl,i,o⟩;simp only at c;subst c;wp_walk;exact⟨_,rfl,(fun x=>nomatch x),by simpa[Builtin.Tuple.tupleCompareSizes,hsz]using h⟩
 case h=>
  exact⟨rfl,rfl,0,rfl⟩
end
inductive gC{K:yt}[BR K](x y:V)(H:Hp)(Q:VK):Prop
 |mk(ps ts:List Pt)(a:Val H x (.tup ps))(b:Val H y (.tup ts))(c:Pt.Bm (.tup ps) (.tup ts)=true)(d:(Pt.tup ps).deep<=60)(q:Q (.bl false) H)
section
variable{X:Cx}
theorem bQ(W:X.A.units+64<cLine):Ek X (compareOp .NotEq) (@gC X.K ⟨trivial⟩):=by
 haveI:BR X.K:=⟨trivial⟩;intro pins s Y H x y v u Q I G J h;obtain⟨g,i,L,M,c,d,q⟩:=h;simp only[Pt.deep]at d;cases L with
 |@tup a N _ O r=>
  cases(show v=Value.ref a from G);cases M with
  |@tup b Z _ P t=>
   cases(show u=Value.ref b from J);simp only[Pt.Bm]at c;have l:g.length=i.length:=by
    rcases Nat.lt_trichotomy g.length i.length with z|z|z
    ·rw[DO (by lia)]at c;cases c
    ·exact z
    ·rw[DO (by lia)]at c;cases c
   obtain⟨k,w,R,_⟩:=I.tuple O;obtain⟨f,B,S,_⟩:=I.tuple P;have C:k.toArray.size=g.length:=by rw[List.size_toArray,<-w.length,r.length]
   have T:f.toArray.size=i.length:=by rw[List.size_toArray,<-B.length,t.length]
   refine Tz (A:=X.A) R S (by rw[C,T,l]) (by lia) (fun j D U=>?_) ⟨.bl false,H,I,rfl,q⟩;obtain⟨v1,t1,g1,E,m,n⟩:=r.at w D;obtain⟨v2,t2,g3,V,o,p⟩:=t.at B U;have e:pairE g i j=Pt.Bm t1 t2:=by simp[pairE,E,V]
   have F:Pt.Bm t1 t2=true:=by rw[<-e];exact(Eh l).mp c j (by rw[<-C];exact D)
   have dl:=Pt.Ap (yr E);have:=WH I _ t1 (Nat.le_refl _) t2 (.inr F) m o (A:=X.A.in1) (by show X.A.units+1+_<cLine;lia) n p;rw[F]at this;exact this
end
variable{xs:List Ak}{m:Bool}
namespace Ak
theorem SM{c l:Nat} :cnt c l m=true↔c=l∨(m=true/\l<c):=by simp[cnt]
theorem MA:∀{xs:List Ak}{ys:List Pt},Lv xs ys=true↔∀(j:Nat) x y,xs[j]?=some x->ys[j]?=some y->lets x y=true
 |[],_=>by simp[Lv]
 |_::_,[]=>by simp[Lv]
 |x::xs,y::ys=>by
  simp only[Lv,Bool.and_eq_true,MA (xs:=xs) (ys:=ys)];constructor
  ·intro⟨e,f⟩ j c d a b;cases j with
   |zero=>simp at a b;subst a b;exact e
   |succ j=>exact f j c d (by simpa using a) (by simpa using b)
  ·exact fun h=>⟨h 0 x y rfl rfl,fun j c d a b=>h (j+1) c d (by simpa using a) (by simpa using b)⟩
theorem MB{b:List Str}(l:ks.length=xs.length)(nd:ks.Nodup):KP ks xs b ys=true↔∀k x,lk ks xs k=some x->∃y,lk b ys k=some y/\lets x y=true:=by
 rw[KQ,Mv _ l nd,List.all_eq_true];constructor
 ·intro h k x a;have:=h k (Ex a).1;rw[a]at this;cases c:lk b ys k with
  |none=>rw[c]at this;cases this
  |some y=>rw[c]at this;exact⟨y,rfl,this⟩
 ·intro h k a;obtain⟨x,d⟩:=GC l a;obtain⟨y,e,f⟩:=h k x d;rw[d,e];exact f
theorem ND{ls a:List Str}(l:ks.length=xs.length)(nd:ks.Nodup):lets (.tab ks xs ls m) (.Ar a ys)=true↔(∀k∈ks,k∈a)/\(∀k∈ls,k∉a)/\(a.length=ks.length∨(m=true/\ks.length<a.length))/\∀k x,lk ks xs k=some x->∃y,lk a ys k=some y/\lets x y=true:=by
 simp only[lets,Bool.and_eq_true,MB l nd,SM,List.all_eq_true,decide_eq_true_eq,Bool.not_eq_true',List.any_eq_false];constructor
 ·intro⟨⟨⟨b,c⟩,d⟩,e⟩;exact⟨b,c,d,e⟩
 ·intro⟨b,c,d,e⟩;exact⟨⟨⟨b,c⟩,d⟩,e⟩
theorem E_:lets (.row xs m) (.lst ys)=true↔(ys.length=xs.length∨(m=true/\xs.length<ys.length))/\∀(j:Nat) x y,xs[j]?=some x->ys[j]?=some y->lets x y=true:=by
 simp only[lets,Bool.and_eq_true,MA,SM]
theorem Oy:∀{xs ys:List Pt},Pt.Ca xs ys=true↔xs.length=ys.length/\∀(j:Nat) x y,xs[j]?=some x->ys[j]?=some y->Pt.Bm x y=true
 |[],[]=>by simp[Pt.Ca]
 |[],_::_=>by simp[Pt.Ca]
 |_::_,[]=>by simp[Pt.Ca]
 |x::xs,y::ys=>by
  simp only[Pt.Ca,Bool.and_eq_true,Oy (xs:=xs) (ys:=ys),List.length_cons];constructor
  ·intro⟨e,g,f⟩;refine⟨by lia,fun j c d a b=>?_⟩;cases j with
   |zero=>simp at a b;subst a b;exact e
   |succ j=>exact f j c d (by simpa using a) (by simpa using b)
  ·exact fun⟨i,h⟩=>⟨h 0 x y rfl rfl,by lia,fun j c d a b=>h (j+1) c d (by simpa using a) (by simpa using b)⟩
end Ak
namespace Ak
mutual
inductive RC:Ak->Ak->Prop
 |any:RC .any .any
 |Ag (d:Pt):RC (.Ag d) (.Ag d)
 |sM {b:List Pt} {cs:List Ak} (h:Kc (b.map Ag) cs):RC (.Ag (.lst b)) (.row cs false)
 |sN {ks a ls:List Str} {b c:List Pt} {cs:List Ak} (pm:a.Perm ks) (e:a.map (lk ks b)=c.map some) (h:Kc (c.map Ag) cs) (lz:a.length<60) (f:ls.length<=100) (g:∀l∈ls,l∉a):RC (.Ag (.Ar ks b)) (.tab a cs ls false)
 |row {xs cs:List Ak} {m:Bool} (h:Kc xs cs):RC (.row xs m) (.row cs m)
 |tab {ks a ls zs:List Str} {xs as cs:List Ak} {m:Bool} (pm:a.Perm ks) (e:a.map (lk ks xs)=as.map some) (h:Kc as cs) (f:zs.length<=100) (g:∀l∈zs,l∉a) (hl:m=true->zs=ls):RC (.tab ks xs ls m) (.tab a cs zs m)
inductive Kc:List Ak->List Ak->Prop
 |nil:Kc [] []
 |cons {x y:Ak} {xs ys:List Ak} (h:RC x y) (r:Kc xs ys):Kc (x::xs) (y::ys)
end
end Ak
variable{K:yt} [BR K]
end L2
namespace L2
open PySem PySem.Spec PyProof.Rows
def IV(H H':Hp):Hp:=fun b=>match H b with
 |some _=>H' b
 |none=>match H' b with
  |some (.Ba o (.own a))=>some (.Ba o (.own a))
  |some (.Ba _ u)=>some u
  |x=>x
variable{H H':Hp}{b:Addr}
theorem JY{o:HO}(h:H b=some o):IV H H' b=H' b:=by unfold IV;rw[h]
variable{u:HO}{o:Obj}
theorem YU(h:H b=none)(h':H' b=some (.Ba o u))(n:∀a,u≠.own a):IV H H' b=some u:=by
 unfold IV;rw[h,h'];cases u<;>first|rfl|exact absurd rfl (n _)
theorem YV{a:Addr}(h':H' b=some (.Ba o (.own a))):IV H H' b=some (.Ba o (.own a)):=by
 unfold IV;rw[h'];cases H b<;>rfl
theorem HZ(h':H' b=none):IV H H' b=none:=by
 unfold IV;rw[h'];cases H b<;>rfl
theorem Ke(h':H' b=some u)(n:∀o z,u≠.Ba o z):IV H H' b=some u:=by
 unfold IV;rw[h'];cases H b with
 |some _=>rfl
 |none=>
  cases u<;>first|rfl|exact absurd rfl (n _ _)
def KF(K:yt)(H:Hp):Prop:=∀b o,K.lookup b=some o->H b=none
section
variable{X:Cx} {pins Zn:List (Addr×Obj)} {σ σ':St} {H H':Hp} {s s':Shared}
theorem Inv.lD(I:Inv X pins σ H s)(a:Inv X Zn σ' H' s'):Inv X Zn σ' (IV H H') s':=by
 have B:=a.base;refine⟨a.ok,a.os,a.bare,⟨B.keep,B.slot,fun b d q n h=>HZ (B.free b d q n h),B.there,fun b f q=>Ke (B.GU b f q) (fun _ _ z=>by cases z),fun b d u q=>?_,fun b i q=>?_⟩,a.loc,a.cell,HZ a.free,fun x c q=>HZ (a.DU x c q),fun p j=>let⟨k,l,m⟩:=a.pin p j;⟨k,HZ l,m⟩,fun b u q=>?_,a.len⟩
 ·rw[JY (I.base.EO b d u q)];exact B.EO b d u q
 ·obtain⟨more,t⟩:=B.GV b i q;exact⟨more,Ke t (fun _ _ z=>by cases z)⟩
 ·have up:∀{v:HO},A_ X.prog X.w H' s'.heap b v->A_ X.prog X.w (IV H H') s'.heap b v:=fun x=>x.LF (fun c v _ r=>r) (fun c r=>Ke r (fun _ _ z=>by cases z)) fun c f r=>Ke r (fun _ _ z=>by cases z);unfold IV at q;cases g:H b with
  |some o=>
   rw[g]at q;exact up (a.Ax b u q)
  |none=>
   rw[g]at q;dsimp only at q;split at q
   ·rename_i e
    cases q;exact up (a.Ax b _ e)
   ·rename_i e
    cases q;exact up (show A_ X.prog X.w H' s'.heap b (.Ba _ u)from a.Ax b _ e).2
   ·exact up (a.Ax b u q)
theorem Inv.kf(I:Inv X pins σ H s):KF X.K H:=fun b o e=>(I.bs b o (I.mod.dE b o e)).2
def lF(K:yt)(t:TE):TE:=fun σ H Q=>t σ H fun v H'=>KF K (IV H H')->Q v (IV H H')
theorem bR{e:Expr}{t:TE}(h:PE X e t):PE X e (lF X.K t):=fun pins s σ H Q I q=>
 BK (h pins s σ H _ I q) fun u d ⟨v,f,a,b,c⟩=>have J:=I.lD a;⟨v,_,J,b,c J.kf⟩
end
variable{G:Hp}{t:Pt}{v:V}
section
variable{K:yt} [BR K]
theorem Bg.one{K:yt}{G:Hp}(kf:KF K G){a:Addr}{xs ys:List V}(h:Bg K G a xs)(h':Bg K G a ys):xs=ys:=by
 rcases h with h|⟨o,f,n,e,_,g,_,r⟩<;>rcases h' with h'|⟨j,d,k,c,_,b,_,i⟩
 ·have z:=Rd.one h h' (fun o z e=>by cases e) (fun o z e=>by cases e);cases z;rfl
 ·have:=kf _ _ c;rcases h with r|⟨_,r⟩<;>rw[r]at this<;>cases this
 ·have:=kf _ _ e;rcases h' with r|⟨_,r⟩<;>rw[r]at this<;>cases this
 ·rw[e]at c;cases c;rw[g]at b;cases b;exact r.inj i
theorem Rd.ne(kf:KF K G){a:Addr}(h:Rd G a u)(e:K.lookup a=Option.some o):False:=by
 have:=kf _ _ e;rcases h with r|⟨_,r⟩<;>rw[r]at this<;>cases this
theorem Bg.lst{G:Hp}(kf:KF K G){a:Addr}{xs ys:List V}(h:Bg K G a xs)(h':Rd G a (.lst ys)):False:=by
 rcases h with h|⟨o,_,_,e,_⟩
 ·cases Rd.one h h' (fun o z e=>by cases e) (fun o z e=>by cases e)
 ·exact h'.ne kf e
theorem Bg.dK{G:Hp}(kf:KF K G){a:Addr}{xs:List V}{ys:List (Key×V)}(h:Bg K G a xs)(h':Rd G a (.dK ys)):False:=by
 rcases h with h|⟨o,_,_,e,_⟩
 ·cases Rd.one h h' (fun o z e=>by cases e) (fun o z e=>by cases e)
 ·exact h'.ne kf e
theorem Val.bS{a:Addr}(h:Val G (.ref a) t):(∃vs ts,t=.lst ts/\Rd G a (.lst vs)/\AS G vs ts)∨(∃vs ts,t=.tup ts/\Bg K G a vs/\AS G vs ts)∨∃(kvs:List (Key×V))(ks:List Str)(ts:List Pt),t=.Ar ks ts/\Rd G a (.dK kvs)/\kvs.map (·.1)=ks.map Sum.inr/\AS G (kvs.map (·.2)) ts:=by
 cases h with
 |lst h r=>exact .inl ⟨_,_,rfl,h,r⟩
 |tup h r=>exact .inr (.inl ⟨_,_,rfl,h,r⟩)
 |Ar h b r=>exact .inr (.inr ⟨_,_,_,rfl,h,b,r⟩)
mutual
theorem Val.Kf{G:Hp}(kf:KF K G):∀{v:V}{s:Pt},Val G v s->∀{t:Pt},Val G v t->s=t
 |_,_,.int i,_,h=>by cases h;rfl
 |_,_,.str x,_,h=>by cases h;rfl
 |_,_,.bl x,_,h=>by cases h;rfl
 |_,_,.Ah,_,h=>by cases h;rfl
 |_,_,.lst b d,_,h=>by
  rcases h.bS with⟨_,_,rfl,a,c⟩|⟨_,_,rfl,a,c⟩|⟨_,_,_,rfl,a,f,c⟩
  ·cases Rd.one b a (fun o z e=>by cases e) (fun o z e=>by cases e);rw[AS.Kf kf d c]
  ·exact(a.lst kf b).elim
  ·cases Rd.one b a (fun o z e=>by cases e) (fun o z e=>by cases e)
 |_,_,.tup b d,_,h=>by
  rcases h.bS with⟨_,_,rfl,a,c⟩|⟨_,_,rfl,a,c⟩|⟨_,_,_,rfl,a,f,c⟩
  ·exact(b.lst kf a).elim
  ·cases Bg.one kf b a;rw[AS.Kf kf d c]
  ·exact(b.dK kf a).elim
 |_,_,.Ar b g d,_,h=>by
  rcases h.bS with⟨_,_,rfl,a,c⟩|⟨_,_,rfl,a,c⟩|⟨_,_,_,rfl,a,f,c⟩
  ·cases Rd.one b a (fun o z e=>by cases e) (fun o z e=>by cases e)
  ·exact(a.dK kf b).elim
  ·cases Rd.one b a (fun o z e=>by cases e) (fun o z e=>by cases e);rw[AS.Kf kf d c,NB (g.symm.trans f)]
theorem AS.Kf{G:Hp}(kf:KF K G):∀{vs:List V}{ss:List Pt},AS G vs ss->∀{ts:List Pt},AS G vs ts->ss=ts
 |_,_,.nil,_,h=>by cases h;rfl
 |_,_,.cons h r,_,h'=>by
  cases h' with
  |cons g q=>rw[Val.Kf kf h g,AS.Kf kf r q]
end
theorem Val.bU(kf:KF K G)(s:Pt)(h:Val G v s)(h':Val G v t):s=t:=Val.Kf kf h h'
end
variable{i:Nat}
namespace Pt
mutual
noncomputable def JK:Pt->Nat
 |int _|str _|bl _|Ah=>0
 |lst xs=>1+BI xs
 |tup xs=>BI xs
 |Ar _ xs=>BI xs
noncomputable def BI:List Pt->Nat
 |[]=>0
 |x::r=>JK x+BI r
end
mutual
theorem MC:∀t:Pt,t.JK<=t.size
 |int _|str _|bl _|Ah=>by simp only[JK];lia
 |lst xs|tup xs|Ar _ xs=>by have:=Gg xs;simp only[JK,size];lia
theorem Gg:∀xs:List Pt,BI xs<=AI xs
 |[]=>Nat.le_refl _
 |x::r=>by have:=MC x;have:=Gg r;simp only[BI,AI];lia
end
mutual
noncomputable def FO:Pt->Nat
 |int _|str _|bl _|Ah=>0
 |lst xs|tup xs=>1+Fj xs
 |Ar _ xs=>1+Fj xs
noncomputable def Fj:List Pt->Nat
 |[]=>0
 |x::r=>max (FO x) (Fj r)
end
theorem Oz:∀{xs:List Pt}{x:Pt},x∈xs->x.FO<=Fj xs
 |y::r,x,h=>by
  simp only[Fj];rcases List.mem_cons.mp h with rfl|h
  ·lia
  ·have:=Oz h;lia
mutual
theorem O_:∀t:Pt,t.FO<=t.deep
 |int _|str _|bl _|Ah=>by simp only[FO];lia
 |lst xs|tup xs|Ar _ xs=>by have:=MD xs;simp only[FO,deep];lia
theorem MD:∀xs:List Pt,Fj xs<=AJ xs
 |[]=>Nat.le_refl _
 |x::r=>by have:=O_ x;have:=MD r;simp only[Fj,AJ];lia
end
theorem Ha:∀(a b:List Pt),BI (a++b)=BI a+BI b
 |[],b=>by simp[BI]
 |x::a,b=>by simp only[List.cons_append,BI,Ha a b];lia
theorem Dv:∀(xs:List Pt)(i:Nat),BI (xs.take i)<=BI xs
 |[],i=>by simp
 |x::r,0=>by simp[BI]
 |x::r,i+1=>by have:=Dv r i;simp only[List.take_succ_cons,BI];lia
theorem Gh{xs:List Pt}{x:Pt}(h:xs[i]?=some x):BI (xs.take (i+1))=BI (xs.take i)+x.JK:=by
 rw[List.take_add_one,h,Ha];simp[BI]
end Pt
def T_:Key:=Sum.inr "zzzzzzzz"
structure Wd(kvs bV:List (Key×V)):Prop where
 at_:∀(i:Nat) k v,bV[i]?=some (k,v)->kvs[i]?=some (k,v)∨v=.int 77
 keys:bV.map (·.1)=kvs.map (·.1)∨(T_∉kvs.map (·.1)/\bV.map (·.1)=kvs.map (·.1)++[T_])
theorem Wd.refl(kvs:List (Key×V)):Wd kvs kvs:=⟨fun _ _ _ h=>.inl h,.inl rfl⟩
theorem Wd.nd{kvs c:List (Key×V)}(h:Wd kvs c)(nd:(kvs.map (·.1)).Nodup):(c.map (·.1)).Nodup:=by
 rcases h.keys with e|⟨n,e⟩
 ·rw[e];exact nd
 ·rw[e];refine List.nodup_append.mpr ⟨nd,by simp,fun a f b d z=>?_⟩;rw[List.mem_singleton]at d;subst d;subst z;exact n f
theorem Wd.len{kvs a:List (Key×V)}(h:Wd kvs a):a.length<=kvs.length+1:=by
 rcases h.keys with e|⟨n,e⟩
 ·have:=congrArg List.length e;simp at this;lia
 ·have:=congrArg List.length e;simp at this;lia
theorem Wd.put{kvs a:List (Key×V)}(h:Wd kvs a):Wd kvs (putK a T_ (.int 77)):=by
 unfold putK;by_cases c:(a.any fun d=>decide (d.1=T_))=true
 ·rw[if_pos c];refine⟨fun i k v e=>?_,?_⟩
  ·rw[List.getElem?_map]at e;cases g:a[i]? with
   |none=>rw[g]at e;cases e
   |some p=>
    rw[g]at e;simp only[Option.map_some,Option.some.injEq]at e;by_cases z:p.1=T_
    ·rw[if_pos z]at e;cases e;exact .inr rfl
    ·rw[if_neg z]at e;subst e;exact h.at_ i k v g
  ·have e:(a.map fun d=>if d.1=T_ then(d.1,V.int 77)else d).map (·.1)=a.map (·.1):=by
    rw[List.map_map];refine List.map_congr_left fun p _=>?_;show(if p.1=T_ then(p.1,V.int 77)else p).1=p.1;split<;>rfl
   rw[e];exact h.keys
 ·rw[if_neg c];have b:T_∉a.map (·.1):=fun z=>by
   obtain⟨p,j,e⟩:=List.mem_map.mp z;exact c (List.any_eq_true.mpr ⟨p,j,decide_eq_true e⟩)
  rcases h.keys with e|⟨n,e⟩
  ·rw[e]at b;refine⟨fun i k v g=>?_,.inr ⟨b,by rw[List.map_append,e];rfl⟩⟩;rcases Nat.lt_or_ge i a.length with f|f
   ·rw[List.getElem?_append_left f]at g;exact h.at_ i k v g
   ·rw[List.getElem?_append_right f]at g;have:=yr g;rw[List.mem_singleton]at this;cases this;exact .inr rfl
  ·rw[e]at b;exact absurd (List.mem_append_right _ (List.mem_singleton.mpr rfl)) b
inductive Wo(c:Nat):HO->HO->Prop
 |lst (xs:List V) (k:Nat) (b:k<=c):Wo c (.lst xs) (.lst (xs++List.replicate k (.int 77)))
 |tup (xs:List V):Wo c (.tup xs) (.tup xs)
 |Ar (kvs a:List (Key×V)) (h:Wd kvs a):Wo c (.dK kvs) (.dK a)
variable{c:Nat}
theorem Wo.mono{b:Nat}{u':HO}(h:Wo c u u')(l:c<=b):Wo b u u':=by
 cases h with
 |lst a k d=>exact .lst a k (by lia)
 |tup a=>exact .tup a
 |Ar _ _ h=>exact .Ar _ _ h
def Plain:HO->Prop
 | .lst _| .tup _| .dK _=>True
 |_=>False
variable{us:List Pt}{d n:Nat}
section
variable{K:yt} [BR K]
def Wn(G:Hp)(d c:Nat)(H:Hp):Prop:=∀b u t,Plain u->Rd G b u->Val G (.ref b) t->t.FO<=d->∃a,H b=some a/\Wo c u a
def IW(G:Hp)(d:Nat)(H H':Hp):Prop:=∀b o,H b=some o->H' b=some o∨∃u t,Plain u/\Rd G b u/\Val G (.ref b) t/\t.FO<=d
theorem IW.refl:IW G d H H:=fun b o e=>.inl e
theorem IW.of(s:AF H H'):IW G d H H':=fun b o e=>.inl (s b o e)
theorem IW.trans{a H2:Hp}(h:IW G d H a)(h':IW G d a H2):IW G d H H2:=fun b o e=>by
 rcases h b o e with h|h
 ·exact h' b o h
 ·exact .inr h
theorem IW.mono{d':Nat}(h:IW G d H H')(l:d<=d'):IW G d' H H':=fun b o e=>(h b o e).imp id fun⟨u,t,p,r,v,z⟩=>⟨u,t,p,r,v,by lia⟩
theorem Wn.mono{G H:Hp}{d d' c a:Nat}(h:Wn G d c H)(l:d'<=d)(f:c<=a):Wn G d' a H:=fun b u t p r v z=>
 let⟨g,e,w⟩:=h b u t p r v (by lia)
 ⟨g,e,w.mono f⟩
theorem Wn.up(h:Wn G d c H)(s:AF H H'):Wn G d c H':=fun b u t p r v z=>
 let⟨a,e,w⟩:=h b u t p r v z
 ⟨a,s _ _ e,w⟩
theorem Wn.next(kf:KF K G){d' a:Nat}(h:Wn G d c H)(h':Wn G d' a H')(f:IW G d' H H')(l:c<=a):Wn G d a H':=fun b u t p r v z=>by
 rcases Nat.lt_or_ge d' t.FO with g|g
 ·obtain⟨i,e,w⟩:=h b u t p r v z;rcases f b i e with j|⟨_,t2,_,_,k,z2⟩
  ·exact⟨i,j,w.mono l⟩
  ·rw[Val.bU kf t v k]at g;lia
 ·exact h' b u t p r v g
theorem IW.at_(kf:KF K G)(f:IW G d H H'){o:HO}(v:Val G (.ref b) t)(l:d<t.FO)(e:H b=some o):H' b=some o:=by
 rcases f b o e with a|⟨_,t2,_,_,c,z2⟩
 ·exact a
 ·rw[Val.bU kf t v c]at l;lia
def Wt(ts us:List Pt):Prop:=∀(i:Nat) u,us[i]?=some u->ts[i]?=some u∨u=.int 77
theorem Wt.take:∀{ts us:List Pt},Wt ts us->∀i:Nat,Pt.BI (us.take i)<=Pt.BI (ts.take i)
 |ts,[],h,i=>by simp[Pt.BI]
 |ts,u::us,h,0=>by simp[Pt.BI]
 |[],u::us,h,i+1=>by
  have e:u=.int 77:=by
   rcases h 0 u rfl with z|z
   ·simp at z
   ·exact z
  have:=Wt.take (ts:=[]) (us:=us) (fun j x a=>.inr (by
   rcases h (j+1) x (by simpa using a)with z|z
   ·simp at z
   ·exact z)) i
  simp only[List.take_succ_cons,List.take_nil,Pt.BI,e,Pt.JK]at this⊢;lia
 |t::ts,u::us,h,i+1=>by
  have:=Wt.take (ts:=ts) (us:=us) (fun j x a=>by
   have:=h (j+1) x (by simpa using a);simpa using this) i
  simp only[List.take_succ_cons,Pt.BI];rcases h 0 u rfl with z|z
  ·simp at z;rw[z];lia
  ·rw[z];simp only[Pt.JK];lia
theorem Pt.size_take{ts:List Pt}{u:Pt}(h:ts[i]?=some u):u.size+Pt.BI (ts.take i)<=Pt.AI ts:=by
 induction ts generalizing i with
 |nil=>simp at h
 |cons t r a=>
  cases i with
  |zero=>
   simp at h;subst h;simp[Pt.BI,Pt.AI]
  |succ i=>
   have:=a (by simpa using h);have:=Pt.MC t;simp only[List.take_succ_cons,Pt.BI,Pt.AI];lia
theorem Wt.size{ts us:List Pt}(h:Wt ts us){i:Nat}{u:Pt}(b:us[i]?=some u):u.size+Pt.BI (us.take i)<=1+Pt.AI ts:=by
 have a:=h.take i;rcases h i u b with e|rfl
 ·have:=Pt.size_take e;lia
 ·have:=Pt.Dv ts i;have:=Pt.Gg ts;simp only[Pt.size];lia
theorem Wt.FO{ts us:List Pt}(h:Wt ts us){i:Nat}{u:Pt}(a:us[i]?=some u):u.FO<=Pt.Fj ts:=by
 rcases h i u a with e|rfl
 ·exact Pt.Oz (yr e)
 ·simp only[Pt.FO];lia
theorem Pt.Fl:∀{xs:List Pt},Pt.FN xs->∀x∈xs,x.NA
 |y::r,h,x,a=>by
  simp only[Pt.FN]at h;rcases List.mem_cons.mp a with rfl|a
  ·exact h.1
  ·exact Pt.Fl h.2 x a
theorem Wt.NA{ts:List Pt}(h:Wt ts us)(o:Pt.FN ts){u:Pt}(a:us[i]?=some u):u.NA:=by
 rcases h i u a with e|rfl
 ·exact Pt.Fl o u (yr e)
 ·trivial
theorem Wt.lst{G:Hp}{vs:List V}{ts:List Pt}(r:AS G vs ts)(k:Nat):∃us,AS G (vs++List.replicate k (.int 77)) us/\Wt ts us:=by
 refine⟨ts++List.replicate k (.int 77),r.append (.of (by simp) fun i v t b c=>?_),fun i u h=>?_⟩
 ·have d:=List.eq_of_mem_replicate (yr b);have e:=List.eq_of_mem_replicate (yr c);rw[d,e];exact .int 77
 ·rcases Nat.lt_or_ge i ts.length with a|a
  ·rw[List.getElem?_append_left a]at h;exact .inl h
  ·rw[List.getElem?_append_right a]at h;exact .inr (List.eq_of_mem_replicate (yr h))
theorem Wt.Ar{G:Hp}{kvs a:List (Key×V)}{ts:List Pt}(r:AS G (kvs.map (·.2)) ts)(w:Wd kvs a):∃us,AS G (a.map (·.2)) us/\Wt ts us:=by
 suffices gen:∀n,n<=a.length->∃us,AS G ((a.map (·.2)).take n) us/\us.length=n/\Wt ts us by
  obtain⟨us,b,_,c⟩:=gen a.length (Nat.le_refl _);refine⟨us,?_,c⟩;rw[List.take_of_length_le (by simp)]at b;exact b
 intro n
 induction n with
 |zero=>exact fun _=>⟨[],by simp;exact .nil,rfl,fun i u h=>by simp at h⟩
 |succ n k=>
  intro x;obtain⟨us,b,c,l⟩:=k (by lia);obtain⟨p,f⟩:∃p,a[n]?=some p:=⟨_,yn (by lia)⟩;have m:(a.map (·.2))[n]?=some p.2:=by rw[List.getElem?_map,f];rfl
  have g:∀{t:Pt},Val G p.2 t->(ts[n]?=some t∨t=.int 77)->∃us,AS G ((a.map (·.2)).take (n+1)) us/\us.length=n+1/\Wt ts us:=fun{t} o q=>by
   refine⟨us++[t],?_,by simp[c],fun i u h=>?_⟩
   ·rw[List.take_add_one,m];exact b.append (.cons o .nil)
   ·rcases Nat.lt_or_ge i us.length with j|j
    ·rw[List.getElem?_append_left j]at h;exact l i u h
    ·have d:i=us.length:=by
      have:=(yo h).1;simp at this;lia
     subst d;simp at h;subst h;rw[c];exact q
  rcases w.at_ n p.1 p.2 f with e|e
  ·have:(kvs.map (·.2))[n]?=some p.2:=by rw[List.getElem?_map,e];rfl
   obtain⟨t,s,v⟩:=r.get this;exact g v (.inl s)
  ·exact g (t:=.int 77) (by rw[e];exact .int 77) (.inr rfl)
theorem Hb:∀{kvs:List (Key×V)}{i:Nat}{k:Key}{v:V},(kvs.map (·.1)).Nodup->kvs[i]?=some (k,v)->BQ kvs k=some v
 |[],i,k,v,_,h=>by simp at h
 |p::r,0,k,v,nd,h=>by
  simp at h;subst h;exact Bb rfl
 |p::r,i+1,k,v,nd,h=>by
  simp only[List.getElem?_cons_succ]at h;simp only[List.map_cons,List.nodup_cons]at nd;have a:k∈r.map (·.1):=List.mem_map.mpr ⟨_,yr h,rfl⟩;rw[Bc (fun e=>nd.1 (e▸a))];exact Hb nd.2 h
theorem Val.kinds(h:Val G v t):(∃T:String,(∀H,Zf K H v T)/\VJ T "dict"=false/\Vl T=false/\VJ T "list"=false/\t.JK=0)∨(∃a vs ts,v=.ref a/\t=.lst ts/\Rd G a (.lst vs)/\AS G vs ts)∨(∃a vs ts,v=.ref a/\t=.tup ts/\Bg K G a vs/\AS G vs ts)∨∃a kvs ks ts,v=.ref a/\t=.Ar ks ts/\Rd G a (.dK kvs)/\kvs.map (·.1)=ks.map Sum.inr/\AS G (kvs.map (·.2)) ts:=by
 cases h with
 |int i=>exact .inl ⟨"int",fun H=>.n (.int i),rfl,rfl,rfl,rfl⟩
 |str i=>exact .inl ⟨"str",fun H=>.n (.str i),rfl,rfl,rfl,rfl⟩
 |bl i=>exact .inl ⟨"bool",fun H=>.n (.bl i),rfl,rfl,rfl,rfl⟩
 |Ah=>exact .inl ⟨"NoneType",fun H=>.n .Ah,rfl,rfl,rfl,rfl⟩
 |lst h r=>exact .inr (.inl ⟨_,_,_,rfl,rfl,h,r⟩)
 |tup h r=>exact .inr (.inr (.inl ⟨_,_,_,rfl,rfl,h,r⟩))
 |Ar h b r=>exact .inr (.inr (.inr ⟨_,_,_,_,rfl,rfl,h,b,r⟩))
theorem Wn.change(h:Wn G d c H){a:Addr}{u':HO}(p:Plain u)(r:Rd G a u)(w:Wo c u u'):Wn G d c (upd H a u'):=fun b j t f g v z=>by
 by_cases i:b=a
 ·subst i;have nf:∀{x:HO},Plain x->∀o z,x≠.Ba o z:=fun k o z e=>by subst e;exact k
  rw[Rd.one g r (nf f) (nf p)];exact⟨u',AD,w⟩
 ·rw[AH i];exact h b j t f g v z
theorem IW.change(h:IW G d H H'){a:Addr}{u':HO}(p:Plain u)(r:Rd G a u)(v:Val G (.ref a) t)(l:t.FO<=d):IW G d H (upd H' a u'):=fun b o e=>by
 by_cases c:b=a
 ·subst c;exact .inr ⟨u,t,p,r,v,l⟩
 ·rw[AH c];exact h b o e
theorem WI(h:n<=16000100):n<sizeLine:=by rw[sizeLine_eq];lia
inductive YW{K:yt}[BR K](n:Nat)(vs:List V)(H:Hp)(Q:VK)(a:XK):Prop
 |mk(G:Hp)(v:V)(t:Pt)(c:Nat)(b:vs=[v])(d:KF K G)(e:Val G v t)(f:t.NA)(g:t.FO<n)(h:t.size+c<=16000000)(i:Wn G t.FO c H)(j:∀(H':Hp),Wn G t.FO (c+t.JK) H'->IW G t.FO H H'->Q .Ah H')
def JZ(n:Nat):Sp:=fun a H Q E=>YW n a H Q E
end
def oW(K:yt)(a:Addr)(n:Nat):It:=
 ⟨fun i H=>∃b x,As K H a b/\b.length=n/\i<n/\b[n-1-i]?=some x,fun i H x c=>c=H/\∀b,As K H a b->b[n-1-i]?=some x,fun i H=>(∃b,As K H a b)/\i=n⟩
theorem WJ{P:Program}{w:World}{K:yt}{tg:Expr}(a it:Addr)(n:Nat):Turn P w K tg (oW K a n) [it] it (fun i h=>i<=n/\h.IsRevIter it a ((n:Int)-1-(i:Int)))where
 mem:=by simp
 obj:=fun i h st b hb=>by
  have e:b=it:=by simpa using hb
  subst e;obtain⟨_,o,e,c,d⟩:=st;exact⟨o,e,fun v z=>by rw[d]at z;cases z⟩
 keep:=fun i h h' st k=>⟨st.1,st.2.at fun o e=>k it (by simp) o e⟩
 item:=by
  intro X hP hw hK hc i pins s σ H E I hf st hg;subst hP hw hK;obtain⟨xs,x,hq,hn,hi,hx⟩:=hg;obtain⟨its,rv,p,hz⟩:=I.list hq;obtain⟨u,hu,ru⟩:=rv.get hx;obtain⟨f0,f1,f2,f3,f4,f5⟩:=hf it (by simp);have ei:(n:Int)-1-(i:Int)=((n-1-i:Nat):Int):=by lia
  have gD:=st.2;rw[ei]at gD;refine wpAny_pyNext_rev_item gD p.isList (x:=u) (by simpa using hu) fun h' Nm sb=>?_;have I1:Inv X pins σ H {s with heap:=h'}:=I.turned (t':=s.toks) (fun b o hb e=>(sb.2 b hb).trans e) f0 f1 f3 f4 f5;obtain⟨o,e,c,d⟩:=id Nm;have e2:((n-1-i:Nat):Int)-1=(n:Int)-1-((i+1:Nat):Int):=by lia
  rw[e2]at Nm;exact⟨u,rfl,LZ (s:={s with heap:=h'}) e c d (by decide) ⟨x,H,I1,ru,⟨rfl,fun ys hy=>by rw[I.Nx hy hq];exact hx⟩,⟨by lia,Nm⟩,fun b hb=>(hf b hb).1⟩⟩
 done:=by
  intro X hP hw hK hc i pins s σ H E I hf st hg;subst hP hw hK;obtain⟨_,rfl⟩:=hg;obtain⟨f0,f1,f2,f3,f4,f5⟩:=hf it (by simp);have e2:(i:Int)-1-(i:Int)= -1:=by lia
  have gD:=st.2;rw[e2]at gD;exact wpAny_pyNext_rev_end (I.ok.hd hc) gD fun h' eb=>⟨rfl,I.turned (t':=s.toks) (fun b o hb e=>eb b o hb e) f0 f1 f3 f4 f5⟩
 self:=fun _ _ _ _ _ st h=>wpAny_pyIter_revIter st.2 h
section
variable{X:Cx} {tg:Expr}
def lG(K:yt)(d:TA):TI:=fun e H R=>d e H fun f b=>∃a c,f=[.ref a]/\As K b a c/\R (oW K a c.length) b
theorem bW{x:Str}{p pos:Pos}{e:Expr}{k:TA}(l:Gl X x)(m:X.mg x=none)(n:bootBuiltins x=some (.type "reversed"))(r:PA X [e] k)(t:x≠"__name__":=by decide)(g:(x==("__debug__":Str))=false:=by decide)(v:starEach [e] X.env=(false,eval e X.env)::starEach [] X.env:=by rfl)(i:(backTo pos (starEach [] X.env)).any (·.1)=false:=by rfl):PI X tg (.Call (.Name x p) [e] [] pos) (lG X.K k):=by
 intro pins s w H R I h;refine wpAny_Call_Name_kw (El I l m n ?_ t g);refine PyProof.Rows.callWith_type1 (BK (r pos pins s w H _ I h) fun J c y=>y.elim fun L z f A B=>?_) v i;obtain⟨a,j,rfl,C,q⟩:=B;obtain⟨u,rfl,D⟩:=vals1 A;cases D;obtain⟨d,E,pl,M⟩:=f.list C;refine call_reversed_list pl.isList ?_;have F:(d.toArray.size:Int)=(j.length:Int):=by rw[List.size_toArray,<-E.length]
 have st:(c.heap.push (revObj a ((d.toArray.size:Int)-1))).IsRevIter c.heap.objs.size a ((j.length:Int)-1):=by
  rw[F];exact⟨_,Heap.get?_push_size _ rfl,rfl,rfl⟩
 refine wpAny_pyIter_revIter st ?_;refine⟨c.heap.objs.size,[c.heap.objs.size],_,_,z,rfl,f.kept (t':=c.toks) fun b o e=>Heap.get?_push_of_some _ e,WJ a _ j.length,⟨Nat.zero_le _,by simpa using st⟩,fun b G=>?_,q⟩;have e:b=c.heap.objs.size:=by simpa using G
 subst e;exact f.OA (Nat.le_refl _) (f.Ax.fresh (Nat.le_refl _))
end
namespace Ak
mutual
noncomputable def jw:Ak->Nat
 |any=>0
 |Ag d=>d.wide
 |row xs _=>lH xs
 |tab _ xs _ _=>lH xs
noncomputable def lH:List Ak->Nat
 |[]=>0
 |x::r=>max (jw x) (lH r)
end
end Ak
section
variable{K:yt} [BR K]
end
variable{ss:List Str}{cs:List Ak}
namespace Ak
mutual
def Hu:Ak->Prop
 |any=>True
 |Ag _=>True
 |row xs _=>RD xs
 |tab _ xs ls m=>(m=true->ls.length<=60/\ls.Nodup/\sortedS ls=true)/\RD xs
def RD:List Ak->Prop
 |[]=>True
 |x::r=>Hu x/\RD r
end
mutual
theorem WK:∀a:Ak,a.ok->a.Hu
 |any,_=>trivial
 |Ag _,_=>trivial
 |row xs _,o=>by simp only[ok]at o;simp only[Hu];exact NF xs o
 |tab _ xs _ _,o=>by simp only[ok]at o;simp only[Hu];exact⟨fun _=>o.2.2.2.2.1,NF xs o.2.2.2.2.2.2⟩
theorem NF:∀xs:List Ak,DW xs->RD xs
 |[],_=>trivial
 |x::r,o=>by simp only[DW]at o;exact⟨WK x o.1,NF r o.2⟩
end
theorem Fm:∀{xs:List Ak},RD xs->∀x∈xs,Hu x
 |y::r,h,x,a=>by
  simp only[RD]at h;rcases List.mem_cons.mp a with rfl|a
  ·exact h.1
  ·exact Fm h.2 x a
mutual
def SN:Ak->Prop
 |any=>True
 |Ag _=>True
 |row xs m=>(m=true∨Dy xs=none)/\O' xs
 |tab ks xs ls m=>((m=true/\ls.length<=60/\ls.Nodup/\sortedS ls=true)∨(m=false/\ls=[]/\Dy xs=none))/\(∀l∈ls,l∉ks)/\O' xs
def O':List Ak->Prop
 |[]=>True
 |x::r=>SN x/\O' r
end
theorem PB(m:Bool)(h:O' cs):(Be cs m).SN:=by
 unfold Be;cases m with
 |true=>rw[if_pos rfl];exact⟨.inl rfl,h⟩
 |false=>
  rw[if_neg (by decide)];cases e:Dy cs with
  |some a=>trivial
  |none=>exact⟨.inr e,h⟩
theorem PD{ls:List Str}(m:Bool)(s:m=true->ls.length<=60/\ls.Nodup/\sortedS ls=true)(a:∀l∈ls,l∉ss)(h:O' cs):(Bf ss cs ls m).SN:=by
 unfold Bf;cases m with
 |true=>rw[if_pos rfl];exact⟨.inl ⟨rfl,s rfl⟩,a,h⟩
 |false=>
  rw[if_neg (by decide)];cases e:Dy cs with
  |some c=>trivial
  |none=>exact⟨.inr ⟨rfl,rfl,e⟩,fun l b=>(nomatch b),h⟩
mutual
theorem Good.SN:∀{a b:Ak},Good a b->a.CF->a.Hu->b.SN
 |_,_,.any,_,_=>trivial
 |_,_,.Ag _,_,_=>trivial
 |_,_,.row (m:=m) h,o,s=>by
  simp only[Ak.CF]at o;simp only[Ak.Hu]at s;exact PB m (h.SN (Bd o) (Fm s))
 |_,_,.tab (m:=m) d p e h,o,s=>by
  simp only[Ak.CF]at o;simp only[Ak.Hu]at s;obtain⟨g,i,q,r,t,j,k⟩:=o;have f:=CV g i d e;exact PD m s.1 (fun l n w=>j l n (d.mem_iff.mp w)) (h.SN (fun x c=>Bd k x (f.mem_iff.mp c)) (fun x c=>Fm s.2 x (f.mem_iff.mp c)))
theorem DQ.SN:∀{as cs:List Ak},DQ as cs->(∀a∈as,a.CF)->(∀a∈as,a.Hu)->O' cs
 |_,_,.nil,_,_=>trivial
 |_,_,.cons h r,o,s=>⟨h.SN (o _ List.mem_cons_self) (s _ List.mem_cons_self),r.SN (fun x b=>o x (List.mem_cons_of_mem _ b)) (fun x b=>s x (List.mem_cons_of_mem _ b))⟩
end
end Ak
section
variable{K:yt} [BR K]
mutual
theorem Val.bX{G H:Hp}(s:∀b u,Plain u->Rd G b u->Rd H b u):∀{v:V}{t:Pt},Val G v t->Val H v t
 |_,_,.int i=>.int i
 |_,_,.str i=>.str i
 |_,_,.bl i=>.bl i
 |_,_,.Ah=>.Ah
 |_,_,.lst h r=>.lst (s _ _ trivial h) (AS.bX s r)
 |_,_,.tup h r=>.tup (h.imp (s _ _ trivial) id) (AS.bX s r)
 |_,_,.Ar h a r=>.Ar (s _ _ trivial h) a (AS.bX s r)
theorem AS.bX{G H:Hp}(s:∀b u,Plain u->Rd G b u->Rd H b u):∀{vs:List V}{ts:List Pt},AS G vs ts->AS H vs ts
 |_,_,.nil=>.nil
 |_,_,.cons h r=>.cons (Val.bX s h) (AS.bX s r)
end
def XX(G H:Hp):Prop:=∀b u,Plain u->Rd G b u->H b=some u
theorem XX.up(p:XX G H)(s:AF H H'):XX G H':=fun b u a r=>s _ _ (p b u a r)
theorem XX.val(p:XX G H)(h:Val G v t):Val H v t:=h.bX fun b u a r=>.inl (p b u a r)
theorem Plain.nf(h:Plain u):∀o z,u≠.Ba o z:=fun o z e=>by subst e;exact h
theorem XX.IV:XX (nw H H') (L2.IV H H'):=fun b u c r=>by
 cases d:H b with
 |some o=>
  rcases r with r|⟨e,r⟩<;>(rw[Bz d]at r;cases r)
 |none=>
  rcases r with r|⟨e,r⟩<;>rw[AY d]at r
  ·exact Ke r c.nf
  ·exact YU d r fun a z=>by rw[z]at c;exact c
theorem Wn.of(p:XX G H)(d:Nat):Wn G d 0 H:=fun b u t e r v z=>⟨u,p b u e r,by
 cases u with
 |lst a=>have:=Wo.lst (c:=0) a 0 (Nat.le_refl _);simpa using this
 |tup a=>exact .tup a
 |dK kvs=>exact .Ar _ _ (.refl kvs)
 |_=>exact absurd e id⟩
theorem IW.out{a:Hp}(f:IW G d H H')(s:AF a H)(o:∀b x,a b=some x->G b=none):AF a H':=fun b x e=>by
 rcases f b x (s b x e)with h|⟨u,t,_,r,_⟩
 ·exact h
 ·have:=o b x e;rcases r with r|⟨_,r⟩<;>rw[this]at r<;>cases r
end
section
variable{X:Cx}
end
namespace Ak
end Ak
theorem YX(h:L2.IV H H' b=none):H' b=none:=by
 cases e:H' b with
 |none=>rfl
 |some u=>
  unfold L2.IV at h;rw[e]at h;cases a:H b with
  |some o=>rw[a]at h;cases h
  |none=>
   rw[a]at h;cases u with
   |Ba o z=>cases z<;>simp at h
   |_=>simp at h
theorem KF.nw{K:yt}{H H':Hp}(k:KF K (L2.IV H H')):KF K (L2.nw H H'):=fun b o e=>by
 have:=YX (k b o e);unfold L2.nw;cases H b with
 |none=>exact this
 |some _=>rfl
section
variable{K:yt} [BR K]
end
namespace Dc
end Dc
section
variable{X:Cx}
end
structure De(X:Cx)(scope:Scope)(x z:Str)(fv:List Str)(fs:List Nat):Prop where
 kind:scope.kind=.function
 WL:∀p∈scope.names,p.2≠.cell
 names:∀p∈scope.names,p.2=.local->scope.names.lookup p.1=some .local
 tg:scope.names.lookup x=some .local
 tz:scope.names.lookup z=some .local
 free:∀p∈scope.names,p.2=.free->X.env.scope.names.lookup p.1=some .cell
 nd:(x::z::fv).Nodup
 kN:∀(j:Nat) y,fv[j]?=some y->∃i,fs[j]?=some i/\X.N[i]?=some y/\scope.names.lookup y=some .free
 len:fv.length=fs.length
def PF(a:Scope)(N:List Str)(scope:Scope)(x z:Str)(fv:List Str)(fs:List Nat):Bool:=
 scope.kind==.function&&(scope.names.all fun p=>p.2 !=.cell)&&(scope.names.all fun p=>p.2 !=.local||scope.names.lookup p.1==some .local)&&scope.names.lookup x==some .local&&scope.names.lookup z==some .local&&
 (scope.names.all fun p=>p.2 !=.free||a.names.lookup p.1==some .cell)&&decide (x::z::fv).Nodup&&fs.map (N[·]?)==fv.map some&&(fv.all fun y=>scope.names.lookup y==some .free)
theorem De.of{X:Cx}{scope:Scope}{x z:Str}{fv:List Str}{fs:List Nat}(h:PF X.env.scope X.N scope x z fv fs=true):De X scope x z fv fs:=by
 unfold PF at h;simp only[Bool.and_eq_true,List.all_eq_true,Bool.or_eq_true,bne_iff_ne,beq_iff_eq,decide_eq_true_eq]at h;obtain⟨⟨⟨⟨⟨⟨⟨⟨g,i⟩,k⟩,m⟩,n⟩,o⟩,q⟩,f⟩,r⟩:=h;have hlen:fs.length=fv.length:=by
  have:=congrArg List.length f;simpa using this
 refine⟨g,i,fun p b c=>(k p b).resolve_left fun z=>z c,m,n,fun p b c=>(o p b).resolve_left fun z=>z c,q,fun j y e=>?_,hlen.symm⟩;have s:j<fv.length:=(yo e).1;have d:=congrArg (fun l=>l[j]?) f;simp only[List.getElem?_map,e]at d;have a:j<fs.length:=by lia
 rw[yn a]at d;refine⟨fs[j],yn a,?_,r y (yr e)⟩;simpa using d
variable{y:Str}
section
variable{X:Cx} {pins:List (Addr×Obj)} {σ:St} {H H':Hp} {s s':Shared} {scope:Scope} {x z:Str} {fv:List Str} {fs:List Nat} {fp:List Addr}
theorem De.cells(ok:De X scope x z fv fs)(I:Inv X pins σ H s):∀p∈scope.names,p.2=.free->∃c,X.env.cells.lookup p.1=some c:=fun p a b=>I.ok.has p.1 (.inl (ok.free p a b))
theorem De.look(ok:De X scope x z fv fs)(I:Inv X pins σ H s){c:Addr}(h:(Cp X.env.cells scope.names []).lookup y=some c):X.env.cells.lookup y=some c:=
 DZ scope.names [] (ok.cells I) (fun _ _ z=>by cases z) h
theorem PH(ok:De X scope x z fv fs)(I:Inv X pins σ H s)(t:∀b∈fp,FK X pins H b)(w:∀b∈fp,∃o,s.heap.get? b=some o){h:Heap}{m:Str->Option Value}{tk:Nat}(N:h.Ns s.heap.objs.size m)(kept:∀b o,s.heap.get? b=some o->h.get? b=some o):Inv (DV X (x::z::fv) scope s.heap.objs.size s H fp) [] (none::none::Bq σ fs) H {s with heap:=h,toks:=tk}:=by
 have g:=fun{y c}=>ok.look I (y:=y) (c:=c);have A:X.env.scope.kind=.function:=I.ok.kind;refine⟨⟨I.ok.mod,ok.kind,I.ok.glob,I.ok.blt,Nat.le_refl _,fun y z c h O=>I.ok.inj y z c (g h) (g O),fun y d=>?_,fun y c B _=>(by cases B),I.ok.hd,I.ok.frames,.inl rfl,fun b f=>⟨?_,fun y c e z=>(t b f).2.2.2.2.1 y c (g e) z⟩,I.bs,
  Nat.le_trans I.ok.S_ I.sz,fun b o e f=>?_,fun b f C=>?_,I.stack,I.MP⟩,rfl,I.bare,Un.kept kept,⟨m,N,fun i y v D a T=>?_⟩,fun y c e=>?_,I.fresh,fun y c e=>I.DU y c (g e),fun p P=>absurd (show p∈([]:List (Addr×Obj))from P) (by simp),I.Ax.kept kept,?_⟩
 ·have d:(relabel scope X.env).names.lookup y=some .cell∨(relabel scope X.env).names.lookup y=some .free:=d;rw[CL]at d;have E:scope.names.lookup y=some .free:=by
   cases e:scope.names.lookup y with
   |none=>rw[e]at d;rcases d with z|z<;>cases z
   |some k=>
    rw[e]at d;have d:HH X.env y k=.cell∨HH X.env y k=.free:=d.elim (fun z=>.inl (yq z)) fun z=>.inr (yq z);by_cases F:k=.free
    ·rw[F]
    ·have a:HH X.env y k=k:=by
      unfold HH;have:(k==NameKind.free)=false:=by simpa using F
      rw[this];rfl
     rw[a]at d;rcases d with z|z
     ·subst z;exact absurd rfl (ok.WL _ (PySem.mem_of_lookup e))
     ·exact absurd z F
  exact Option.isSome_iff_exists.mp (Dh scope.names [] (.inr (PySem.mem_of_lookup E)))
 ·obtain⟨o,n⟩:=w b f;exact Nat.ne_of_lt (Heap.lt_size n)
 ·rcases(t b f).2.2.2.1 with z|z
  ·exact I.ok.S' b o e z
  ·exact absurd (Nat.lt_of_lt_of_le (Heap.lt_size e) (Nat.le_trans I.ok.S_ z)) (Nat.lt_irrefl _)
 ·rcases List.mem_cons.mp (I.Jh b C)with z|z
  ·exact(t b f).2.1 z
  ·exact(t b f).2.2.1 z
 ·cases i with
  |zero=>
   have a:(some none:Option (Option V))=some (some v):=a;cases a
  |succ j=>
   cases j with
   |zero=>
    have a:(some none:Option (Option V))=some (some v):=a;cases a
   |succ j=>
   have D:fv[j]?=some y:=D;have a:(Bq σ fs)[j]?=some (some v):=a;obtain⟨i,Q,R⟩:=Ll a;obtain⟨U,M,S,G⟩:=ok.kN j y D;rw[Q]at M;cases M;have J:X.env.scope.names.lookup y=some .cell:=ok.free (y,.free) (PySem.mem_of_lookup G) rfl;obtain⟨W,_,K⟩:=I.loc;obtain⟨u,r,l⟩:=K i y v S R (.inr (.inl J));refine⟨u,r,?_⟩;rcases l with⟨k,_⟩|⟨_,c,e,o,n,hd⟩
   ·have k:X.env.scope.names.lookup y=some .local:=k;rw[J]at k;cases k
   ·obtain⟨Y,q⟩:=Option.isSome_iff_exists.mp (Dh (cells:=X.env.cells) scope.names [] (.inr (PySem.mem_of_lookup G)));have:=g q;rw[e]at this;cases this;refine .inr ⟨.inl ?_,c,q,o,kept _ _ n,hd⟩;show(relabel scope X.env).names.lookup y=some .cell;rw[CL,G];show some (HH X.env y .free)=_;have L:X.env.kindOf y=some .cell:=J;unfold HH;rw[A,L];rfl
 ·obtain⟨v,o,n,hd⟩:=I.cell y c (g e);exact⟨v,o,kept _ _ n,hd⟩
 ·show(none::none::Bq σ fs).length=(x::z::fv).length;simp[Bq,ok.len]
end
def NG(K:yt)(J:It)(k:TT)(l:TE)(fs:List Nat)(g:St)(H:Hp)(Q:VK):Prop:=∀D,H D=none->∃W:Nat->Nat->Hp->Prop,(∃m,W 0 m (upd H D (.lst [])))/\∀i m c,W i m c-> (J.stop i c/\Q (.ref D) c)∨(J.go i c/\∀v e,J.N_ i c v e->∃(t:Addr)(a b:V),v=.ref t/\Bg K e t [a,b]/\k (some a::some b::Bq g fs) e fun ok h=>
  if ok=true then l (some a::some b::Bq g fs) h fun y j=>∃f,j D=some (.lst f)/\f.length<sizeLine/\∃d,d<m/\W (i+1) d (upd j D (.lst (f++[y])))else∃d,d<m/\W (i+1) d h)
def bY(K:yt)(b:TI)(c:TT)(d:TE)(fs:List Nat):TE:=fun a H Q=>b a H fun J e=>NG K J c d fs a e Q
section
variable{X:Cx} {elt iter:Expr} {x z:Str} {px pz pt pos:Pos} {kt:Nat} {ifs:List Expr} {scope:Scope} {fv:List Str} {fs:List Nat} {wi:TI} {te:TE} {tc:TT}
theorem UA(hc:X.calm=true)(ok:De X scope x z fv fs)(kO:∀C s0 H0 d,Xy (DV X (x::z::fv) scope C s0 H0 d) ifs tc)(he:∀C s0 H0 d,PE (DV X (x::z::fv) scope C s0 H0 d) elt te){pins:List (Addr×Obj)}{t:St}{s:Shared}{E:Value->Shared->Prop}{it:Addr}{d:List Addr}{L:Nat->Heap->Prop}{J:It}{Q:VK}(I:Inv X pins t H s)(T:Turn X.prog X.w X.K (.Tuple [.Name x px,.Name z pz] kt pt) J d it L)(st:L 0 s.heap)(hf:∀b∈d,FK X pins H b)(rd:NG X.K J tc te fs t H Q){RR:Value->Addr->Result->Shared->Prop}(kQ:∀D C B H',Inv X pins t H' B->FK X pins H' C->(∃m,B.heap.Ns C m)->Q (.ref D) H'->RR (.ref D) C (.ok .next) B):
  wpAny (model X.prog X.w) X.A (newList []) (fun M a=>wpAny (model X.prog X.w) X.A (newFunctionEnv scope X.env.globals (Cp X.env.cells scope.names []) [] X.env.qual none .none (some X.env)) (fun g s4=>
   codeAny (model X.prog X.w) X.A (.compStart (.ListComp elt [⟨.Tuple [.Name x px,.Name z pz] kt pt,iter,ifs,0⟩] scope pos) 0 (.ref it) M {g with scope:=relabel scope X.env}) (RR M g.locals) s4) E a) E s:=by
 obtain⟨W,⟨m0,w0⟩,turn⟩:=rd s.heap.objs.size I.fresh;have Z:Inv X pins t (upd H s.heap.objs.size (.lst [])) {s with heap:=s.heap.push {cls:=.type "list",dict:=none,data:=.seq ([]:List Value).toArray}}:=I.Uz (its:=[]) (ys:=[]) (t':=s.toks) .nil (Nat.zero_le _);refine wpAny_newObj_type ?_;show wpAny _ _ _ _ _ ({s with heap:=s.heap.push {cls:=.type "list",dict:=none,data:=.seq ([]:List Value).toArray}}:Shared);generalize kR:({s with heap:=s.heap.push {cls:=.type "list",dict:=none,data:=.seq ([]:List Value).toArray}}:Shared)=a at Z⊢;refine wpAny_newFunctionEnv ok.WL (fun y hy=>absurd hy (by simp)) (fun h1 kS sP=>?_) ok.kind;have eh:a.heap=s.heap.push {cls:=.type "list",dict:=none,data:=.seq ([]:List Value).toArray}:=by rw[<-kR]
 have N:∀b o,s.heap.get? b=some o->a.heap.get? b=some o:=fun b o e=>by rw[eh];exact Heap.get?_push_of_some _ e
 have kT:∀b∈d,∃o,a.heap.get? b=some o:=fun b c=>let⟨o,ho,_⟩:=T.obj 0 _ st b c;⟨o,N b o ho⟩;have kU:∀b∈d,b≠s.heap.objs.size:=fun b c=>let⟨o,ho,_⟩:=T.obj 0 _ st b c;Nat.ne_of_lt (Heap.lt_size ho);have h:∀b∈d,FK X pins (upd H s.heap.objs.size (.lst [])) b:=fun b c=>⟨by rw[AH (kU b c)];exact(hf b c).1,(hf b c).2⟩;have kept:∀b o,a.heap.get? b=some o->h1.get? b=some o:=fun b o e=>sP.extBut b o (Nat.ne_of_lt (Heap.lt_size e)) (Heap.get?_push_of_some _ e);have I4:=PH (tk:=a.toks+([]:List (Str×Value)).length) ok Z h kT kS kept;have O:L 0 h1:=T.keep 0 _ _ st fun b c o e=>kept b o (N b o e);have f:∀{H':Hp},(∀b∈d,H' b=none)->∀b∈d,FK (DV X (x::z::fv) scope a.heap.objs.size a (upd H s.heap.objs.size (.lst [])) d) [] H' b:=fun hn b c=>
  ⟨hn b c,(I4.ok.dF b c).1,I4.ok.TB b c,.inl c,(I4.ok.dF b c).2,fun p hp=>absurd hp (by simp)⟩
 have hg:PG (DV X (x::z::fv) scope a.heap.objs.size a (upd H s.heap.objs.size (.lst [])) d) (.Tuple [.Name x px,.Name z pz] kt pt) (eJ X.K 2 (Ui (CA 0) (Ui (CA 1) eG))):=Uj hc (Gy (Gx (i:=0) ok.nd rfl (.inl (lookup_relabel_local ok.tg)) (.inr (lookup_relabel_local ok.tg))) (Gy (Gx (i:=1) ok.nd rfl (.inl (lookup_relabel_local ok.tz)) (.inr (lookup_relabel_local ok.tz))) Rg));have loop:codeAny (model X.prog X.w) X.A (.compLoop (.ListComp elt [⟨.Tuple [.Name x px,.Name z pz] kt pt,iter,ifs,0⟩] scope pos) 0 (.ref it) (.ref s.heap.objs.size) (compEnvC scope (Cp X.env.cells scope.names []) a.heap.objs.size X.env)) (RR (.ref s.heap.objs.size) a.heap.objs.size)
   {a with heap:=h1,toks:=a.toks+([]:List (Str×Value)).length}:=by
  refine Js (fun n B=>∃i o o2 H',Inv (DV X (x::z::fv) scope a.heap.objs.size a (upd H s.heap.objs.size (.lst [])) d) [] (o::o2::Bq t fs) H' B/\L i B.heap/\(∀b∈d,H' b=none)/\W i n H') ?_ m0
   ⟨0,none,none,_,I4,O,fun b c=>(h b c).1,w0⟩
  rintro n s5 ⟨i,o,o2,H5,I5,P,R,w5⟩;rcases turn i n H5 w5 with⟨stop,q⟩|⟨go,step⟩
  ·refine BK (T.done (DV X (x::z::fv) scope a.heap.objs.size a (upd H s.heap.objs.size (.lst [])) d) rfl rfl rfl hc i [] s5 _ H5 _ I5 (f R) P stop) fun r s6 ⟨hr,I6⟩=>?_;subst hr;obtain⟨m,hm,_⟩:=I6.loc;exact kQ _ _ s6 H5 (Jv Z h I6) (Z.OA (Nat.le_refl _) I6.free) ⟨m,hm⟩ q
  ·refine BK (T.item (DV X (x::z::fv) scope a.heap.objs.size a (upd H s.heap.objs.size (.lst [])) d) rfl rfl rfl hc i [] s5 _ H5 _ I5 (f R) P go) fun r s6 ⟨u,hr,h6⟩=>?_;subst hr;refine BK h6 fun _ s7 ⟨v,H7,I7,r7,y7,j,kW⟩=>?_;have kX:=I7.pinned (f kW) (T.obj _ _ j);have back:∀{S:St}{F:Hp}{U:Shared},Inv (DV X (x::z::fv) scope a.heap.objs.size a (upd H s.heap.objs.size (.lst [])) d) ([]++H_ d s7.heap) S F U->L (i+1) U.heap/\∀b∈d,F b=none:=fun{S F U} G=>
    ⟨T.keep _ _ _ j fun b c o e=>(G.pin (b,o) (DD c e)).1,fun b c=>by
     obtain⟨o,e,_⟩:=T.obj _ _ j b c;exact(G.pin (b,o) (DD c e)).2.1⟩
   obtain⟨ta,va,vb,rfl,sQ,k⟩:=step v H7 y7;refine BK (hg _ s7 _ H7 (.ref ta) u (fun σ2 H2=>σ2=some va::some vb::Bq t fs/\H2=H7) kX r7 ⟨ta,_,rfl,sQ,rfl,_,_,rfl,_,_,rfl,rfl,rfl,rfl⟩) fun _ s8 ⟨σ8,H8,I8,e8,kY⟩=>?_;subst e8 kY;refine BK (kO _ _ _ _ _ s8 _ H8 _ I8 k) fun ok U ⟨F,G,q9⟩=>?_;cases ok with
   |false=>
    obtain⟨m',l,w9⟩:=q9;obtain⟨b1,b2⟩:=back G;exact⟨m',l,i+1,some va,some vb,F,G.Dk,b1,b2,w9⟩
   |true=>
    refine BK (he _ _ _ _ _ U _ F _ G q9) fun y s10 ⟨yv,V,kZ,r10,ys,hD,hz,m',l,w10⟩=>?_;refine BK (ES _ s10 _ V (.ref s.heap.objs.size) [yv] (.ref s.heap.objs.size) [y] (fun _ H'=>H'=upd V s.heap.objs.size (.lst (ys++[yv]))) kZ rfl (.cons r10 .nil) ⟨_,ys,yv,rfl,rfl,hD,hz,rfl⟩) fun _ s11 ⟨_,rS,Y,_,e11⟩=>?_;subst e11;obtain⟨b1,b2⟩:=back Y;exact⟨m',l,i+1,some va,some vb,_,Y.Dk,b1,b2,w10⟩
 exact codeAny_compStart_list loop (T.self _ 0 _ _ _ O loop)
theorem PJ{c b:Pos}(L:X.calm=true)(ok:De X scope x z fv fs)(M:X.N.Nodup)(k:X.N[i]?=some y)(O:Loc X.env.scope y)(P:PI X (.Tuple [.Name x px,.Name z pz] kt pt) iter wi)(l:∀C n o g,Xy (DV X (x::z::fv) scope C n o g) ifs tc)(R:∀C n o g,PE (DV X (x::z::fv) scope C n o g) elt te)(p:swapsWith (.ListComp elt [⟨.Tuple [.Name x px,.Name z pz] kt pt,iter,ifs,0⟩] scope pos) (some (.Name y c)) b.line X.env=pure true:=by rfl)(r:X.fn y=true∨X.env.scope.names.lookup y=some .local:=by first|exact .inl rfl|exact .inr rfl|assumption)(S:∀x,foldedSetIterable iter X.env x=pure x:=by intro _;rfl):PS X (.Assign [.Name y c] (.ListComp elt [⟨.Tuple [.Name x px,.Name z pz] kt pt,iter,ifs,0⟩] scope pos) b) (fun D d H=>bY X.K wi tc te fs d H fun v f=>D.nx (d.set i (some v)) f):=by
 intro pins s d H D I h;rw[exec_Assign_Name_used _ _ _ _ p];refine wpAny_bind (wpAny_standAt (wpAny_bind ?_));show wpAny _ X.A (comprehension (.ListComp elt [⟨.Tuple [.Name x px,.Name z pz] kt pt,iter,ifs,0⟩] scope pos) scope X.env _ (newList []) false (eval iter X.env) (some (assign (.Name y c) X.env))>>=fun _=>pure ()) _ _ s;refine wpAny_bind (BK (wpAny_comprehension_free (use:=some (assign (.Name y c) X.env)) (Q:=fun _ j=>SP X pins D .next j) rfl S (DE (ok.cells I)) ok.kind ok.names (BK (P pins s d H _ I h) fun xv s1 U=>BK U fun V s2 W=>?_)) fun _ j Y=>wpAny_pure (wpAny_pure Y));obtain⟨it,g,tn,J,H2,rfl,Z,T,t,f2,rd⟩:=W;refine UA (Q:=fun v f=>D.nx (d.set i (some v)) f) L ok l R Z T t f2 rd fun G C j f I' u ⟨m,hm⟩ q=>?_;show wpAny _ X.A (assign (.Name y c) X.env (.ref G)) _ _ j;refine wpAny_assign_Name (Hy I' M k O (v:=.ref G) rfl (fun eY w ⟨a,B,ha⟩=>?_) r);have E:C≠a:=by
  rcases ha with z|z
  ·rw[z];exact u.2.1
  ·exact fun e=>u.2.2.2.2.1 y a z e.symm
 exact⟨m,hm.sameBut B E,fun h' F=>⟨_,f,w.off u F,q⟩⟩
end
theorem RE{K:yt}{J:It}{o:TT}{h:TE}{fs:List Nat}{j:St}{Q:VK}(t:Nat->Addr)(a b g:Nat->V)(p:Nat->Bool)(C:n<=sizeLine)(k:∀i D ys,i<n->H D=none->J.go i (upd H D (.lst ys)))(s:∀i D ys v H',i<n->H D=none->J.N_ i (upd H D (.lst ys)) v H'->v=.ref (t i)/\H'=upd H D (.lst ys))(u:∀i D ys,i<n->H D=none->Bg K (upd H D (.lst ys)) (t i) [a i,b i])(l:∀D ys,H D=none->J.stop n (upd H D (.lst ys)))(w:∀i D ys (R:Bool->Hp->Prop),i<n->H D=none->R (p i) (upd H D (.lst ys))->o (some (a i)::some (b i)::Bq j fs) (upd H D (.lst ys)) R)(x:∀i D ys (R:VK),i<n->H D=none->p i=true->R (g i) (upd H D (.lst ys))->h (some (a i)::some (b i)::Bq j fs) (upd H D (.lst ys)) R)(y:∀D,H D=none->Q (.ref D) (upd H D (.lst (((List.range n).filter p).map g)))):
  NG K J o h fs j H Q:=by
 intro D d;refine⟨fun i m q=>m=n-i/\i<=n/\q=upd H D (.lst (((List.range i).filter p).map g)),⟨n,by simp⟩,?_⟩;rintro i m q ⟨rfl,E,rfl⟩;by_cases c:i<n
 ·refine .inr ⟨k i D _ c d,fun v z A=>?_⟩;obtain⟨rfl,rfl⟩:=s i D _ v z c d A;refine⟨t i,a i,b i,rfl,u i D _ c d,w i D _ _ c d ?_⟩;have r:∀b,p i=b->((List.range (i+1)).filter p).map g=((List.range i).filter p).map g++(if b=true then[g i]else[]):=fun b f=>by
   rw[List.range_succ,List.filter_append,List.map_append];cases b with
   |true=>simp[f]
   |false=>simp[f]
  cases f:p i with
  |false=>
   show∃B,B<n-i/\_;refine⟨n-(i+1),by lia,rfl,c,?_⟩;rw[r false f];simp
  |true=>
   show h _ _ _;refine x i D _ _ c d f ⟨_,AD,?_,n-(i+1),by lia,rfl,c,?_⟩
   ·rw[List.length_map];have:=List.length_filter_le p (List.range i);rw[List.length_range]at this;lia
   ·rw[Rb,r true f];simp
 ·have e:i=n:=by lia
  subst e;exact .inl ⟨l D _ d,y D d⟩
section
variable{prog:Program} {w:World} {A:Around} {s:Shared}
end
section
variable{X:Cx} [BR X.K] {pins:List (Addr×Obj)} {σ:St} {H:Hp} {s:Shared}
end
section
variable{prog:Program} {w:World} {A:Around} {s:Shared}
end
namespace Pt
noncomputable def Fn:Pt->Key->Option Pt
 | .lst xs,.inl i=>if 0<=i then xs[i.toNat]? else none
 | .Ar ks xs,.inr k=>lk ks xs k
 |_,_=>none
noncomputable def sub:Pt->List Key->Option Pt
 |t,[]=>some t
 |t,k::p=>(t.Fn k).bind fun u=>sub u p
theorem YY{u:Pt}{k:Key}(h:t.Fn k=some u):(∃xs,t=.lst xs/\u∈xs)∨∃ks xs,t=.Ar ks xs/\u∈xs:=by
 cases t with
 |lst xs=>
  cases k with
  |inl i=>
   simp only[Fn]at h;by_cases z:0<=i
   ·rw[if_pos z]at h;exact .inl ⟨xs,rfl,yr h⟩
   ·rw[if_neg z]at h;cases h
  |inr x=>cases h
 |Ar ks xs=>
  cases k with
  |inl i=>cases h
  |inr x=>exact .inr ⟨ks,xs,rfl,(Ex h).2⟩
 |int _=>cases k<;>cases h
 |str _=>cases k<;>cases h
 |bl _=>cases k<;>cases h
 |Ah=>cases k<;>cases h
 |tup _=>cases k<;>cases h
theorem Kg{u:Pt}{k:Key}(d:t.doc)(h:t.Fn k=some u):u.doc/\u.size<t.size/\u.deep<t.deep:=by
 rcases YY h with⟨a,rfl,m⟩|⟨b,a,rfl,m⟩
 ·simp only[doc]at d;have:=Cq m;have:=Ap m;simp only[size,deep];exact⟨CN d u m,by lia,by lia⟩
 ·simp only[doc]at d;have:=Cq m;have:=Ap m;simp only[size,deep];exact⟨CN d.2.2.2.2 u m,by lia,by lia⟩
theorem YZ{d e:Pt}{k:Key}(f:d.doc)(h:Pt.Bm d t=true)(b:d.Fn k=some e):∃u,t.Fn k=some u/\Pt.Bm e u=true:=by
 cases d with
 |lst g=>
  cases t with
  |lst c=>
   cases k with
   |inr x=>cases b
   |inl i=>
    simp only[Fn]at b⊢;by_cases z:0<=i
    ·rw[if_pos z]at b⊢;obtain⟨l,a⟩:=Ak.Oy.mp (show Pt.Ca g c=true from h);obtain⟨u,j⟩:∃u,c[i.toNat]?=some u:=⟨_,yn (by have:=(yo b).1;lia)⟩;exact⟨u,j,a _ _ _ b j⟩
    ·rw[if_neg z]at b;cases b
  |_=>simp[Pt.Bm]at h
 |Ar n g=>
  cases t with
  |Ar ls c=>
   cases k with
   |inl i=>cases b
   |inr x=>
    simp only[Fn]at b⊢;simp only[doc]at f;simp only[Pt.Bm,Bool.and_eq_true,beq_iff_eq]at h;have:=h.2;rw[Ls,Mv _ f.1 f.2.1,List.all_eq_true]at this;have:=this x (Ex b).1;rw[b]at this;cases m:lk ls c x with
    |none=>rw[m]at this;cases this
    |some u=>rw[m]at this;exact⟨u,rfl,this⟩
  |_=>simp[Pt.Bm]at h
 |int _=>cases k<;>cases b
 |str _=>cases k<;>cases b
 |bl _=>cases k<;>cases b
 |Ah=>cases k<;>cases b
 |tup _=>cases k<;>cases b
end Pt
variable{xs:List Ak}{a:Ak}{m:Bool}{p:List Key}
namespace Ak
noncomputable def Dj:Ak->Key->Option Ak
 |Ag d,k=>(d.Fn k).map Ag
 |row xs _,.inl i=>if 0<=i then xs[i.toNat]? else none
 |tab ks xs _ _,.inr k=>lk ks xs k
 |_,_=>none
noncomputable def sub:Ak->List Key->Option Ak
 |a,[]=>some a
 |a,k::p=>(a.Dj k).bind fun b=>sub b p
theorem E'{r:List Key}:∀{p:List Key}{a:Ak},a.sub (p++r)=(a.sub p).bind fun b=>b.sub r
 |[],a=>rfl
 |k::p,a=>by
  simp only[List.cons_append,sub];cases a.Dj k with
  |none=>rfl
  |some b=>exact E' (p:=p) (a:=b)
theorem RF{b:Ak}{k:Key}(o:a.CF)(s:a.Hu)(h:a.Dj k=some b):b.CF/\b.Hu/\b.wt<a.wt/\b.dp<a.dp:=by
 cases a with
 |any=>cases k<;>cases h
 |Ag d=>
  simp only[Dj,Option.map_eq_some_iff]at h;obtain⟨u,f,rfl⟩:=h;simp only[CF]at o;obtain⟨g,j,l⟩:=Pt.Kg o f;exact⟨g,trivial,j,l⟩
 |row e m=>
  cases k with
  |inr x=>cases h
  |inl i=>
   simp only[Dj]at h;by_cases z:0<=i
   ·rw[if_pos z]at h;have c:=yr h;simp only[CF]at o;simp only[Hu]at s;have:=HS c;have:=HU c;simp only[wt,dp];exact⟨Bd o b c,Fm s b c,by lia,by lia⟩
   ·rw[if_neg z]at h;cases h
 |tab n e ls m=>
  cases k with
  |inl i=>cases h
  |inr x=>
   have c:=(Ex (show lk n e x=some b from h)).2;simp only[CF]at o;simp only[Hu]at s;have:=HS c;have:=HU c;simp only[wt,dp];exact⟨Bd o.2.2.2.2.2.2 b c,Fm s.2 b c,by lia,by lia⟩
theorem NH:∀{p:List Key}{a b:Ak},a.CF->a.Hu->a.sub p=some b->b.CF/\b.Hu/\b.wt<=a.wt/\p.length+b.dp<=a.dp
 |[],a,b,o,s,h=>by cases h;exact⟨o,s,Nat.le_refl _,by simp⟩
 |k::p,a,b,o,s,h=>by
  simp only[sub]at h;cases d:a.Dj k with
  |none=>rw[d]at h;cases h
  |some c=>
   rw[d]at h;obtain⟨e,f,j,h4⟩:=RF o s d;obtain⟨g,i,l,m⟩:=NH e f h;simp only[List.length_cons];exact⟨g,i,by lia,by lia⟩
theorem WM{b:Ak}{k:Key}(o:a.CF)(d:t.doc)(l:a.lets t=true)(h:a.Dj k=some b):∃u,t.Fn k=some u/\u.doc/\b.lets u=true:=by
 suffices∃u,t.Fn k=some u/\b.lets u=true by
  obtain⟨u,f,n⟩:=this;exact⟨u,f,(Pt.Kg d f).1,n⟩
 cases a with
 |any=>cases k<;>cases h
 |Ag e=>
  simp only[Dj,Option.map_eq_some_iff]at h;obtain⟨u,f,rfl⟩:=h;simp only[CF]at o;exact Pt.YZ o (show Pt.Bm e t=true from l) f
 |row p m=>
  cases k with
  |inr x=>cases h
  |inl i=>
   simp only[Dj]at h;by_cases z:0<=i
   ·rw[if_pos z]at h;cases t with
    |lst g=>
     obtain⟨c,e⟩:=E_.mp l;have:=(yo h).1;obtain⟨u,j⟩:∃u,g[i.toNat]?=some u:=⟨_,yn (by lia)⟩;exact⟨u,by simp only[Pt.Fn];rw[if_pos z];exact j,e _ _ _ h j⟩
    |_=>simp[lets]at l
   ·rw[if_neg z]at h;cases h
 |tab q p ls m=>
  cases k with
  |inl i=>cases h
  |inr x=>
   cases t with
   |Ar r g=>
    simp only[CF]at o;simp only[lets,Bool.and_eq_true]at l;exact(MB o.1 o.2.1).mp l.2 x b h
   |_=>simp[lets]at l
theorem PK:∀{p:List Key}{a b:Ak}{t:Pt},a.CF->a.Hu->t.doc->a.lets t=true->a.sub p=some b->∃u,t.sub p=some u/\u.doc/\u.size<=t.size/\b.lets u=true
 |[],a,b,t,_,_,d,l,h=>by cases h;exact⟨t,rfl,d,Nat.le_refl _,l⟩
 |k::p,a,b,t,o,s,d,l,h=>by
  simp only[sub]at h;cases e:a.Dj k with
  |none=>rw[e]at h;cases h
  |some c=>
   rw[e]at h;obtain⟨u,f,g,i⟩:=WM o d l e;obtain⟨j,m,_,_⟩:=RF o s e;have:=(Pt.Kg d f).2.1;obtain⟨v,n,q,w,r⟩:=PK j m g i h;exact⟨v,by simp only[Pt.sub];rw[f];exact n,q,by lia,r⟩
def nK(n:Nat):List Key:=(List.range n).map fun(j:Nat)=>Sum.inl (j:Int)
theorem SO(n:Nat):nK (n+1)=nK n++[Sum.inl (n:Int)]:=by unfold nK;rw[List.range_succ,List.map_append];rfl
theorem WN{b:Ak}{k:Key}(h:a.sub (p.take i)=some b)(e:p[i]?=some k):a.sub (p.take (i+1))=b.Dj k:=by
 rw[List.take_add_one,e,E',h];show(b.sub [k])=_;simp only[sub];cases b.Dj k<;>rfl
theorem Ya(h:a.sub (p.take i)=none):a.sub p=none:=by
 rw[<-List.take_append_drop i p,E',h];rfl
theorem Yb{k:Key}:(Pt.lst (CO xs)).Fn k=((row xs m).Dj k).map pt:=by
 cases k with
 |inr x=>rfl
 |inl i=>
  simp only[Pt.Fn,Dj,AW];split
  ·rw[List.getElem?_map]
  ·rfl
theorem Yc{ks ls:List Str}{k:Key}:(Pt.Ar ks (CO xs)).Fn k=((tab ks xs ls m).Dj k).map pt:=by
 cases k with
 |inl i=>rfl
 |inr x=>simp only[Pt.Fn,Dj,AW,Ds]
structure Zo(a:Ak)(ks:List Key)(bs:List Ak):Prop where
 e:ks.map a.Dj=bs.map some
 w:1+Ee bs<=a.wt
 c:∀k b,a.Dj k=some b->k∈ks
 n:∀i:Int,Sum.inl i∈ks->i<(ks.length:Int)
 h:(∃n:Nat,ks=nK n)∨∃ss:List Str,ks=ss.map Sum.inr
theorem Gi:∀{a b:List Ak},Ee (a++b)=Ee a+Ee b
 |[],b=>by simp only[List.nil_append,Ee];lia
 |x::r,b=>by simp only[List.cons_append,Ee,Gi (a:=r)];lia
theorem Hd{bs:List Ak}{b:Ak}(h:bs[i]?=some b):Ee (bs.take (i+1))=Ee (bs.take i)+b.wt/\Ee (bs.take (i+1))<=Ee bs:=by
 constructor
 ·rw[List.take_add_one,h,Gi];simp only[Option.toList,Ee];lia
 ·conv=>rhs;rw[<-List.take_append_drop (i+1) bs,Gi]
  lia
theorem Kh:∀{xs:List Pt},Ee (xs.map Ag)=Pt.AI xs
 |[]=>rfl
 |x::r=>by simp only[List.map_cons,Ee,wt,Pt.AI,Kh (xs:=r)]
theorem UB{b:Type}(f:Key->Option b){xs:List b}(h:∀i:Nat,f (Sum.inl (i:Int))=xs[i]?):(nK xs.length).map f=xs.map some:=by
 unfold nK;apply List.ext_getElem?;intro i;rw[List.getElem?_map,List.getElem?_map,List.getElem?_map];by_cases a:i<xs.length
 ·rw[List.getElem?_range a,yn a];simp only[Option.map_some,h,yn a]
 ·rw[List.getElem?_eq_none (by simpa using a),List.getElem?_eq_none (by simpa using a)];rfl
theorem Zo.list(w:1+Ee xs<=a.wt)(h:∀i:Int,a.Dj (.inl i)=if 0<=i then xs[i.toNat]? else .none)(g:∀x,a.Dj (.inr x)=.none):Zo a (nK xs.length) xs:=by
 refine⟨UB _ fun i=>?_,w,fun k b e=>?_,fun i c=>?_,.inl ⟨_,rfl⟩⟩
 ·rw[h,if_pos (by lia),Int.toNat_natCast]
 ·cases k with
  |inr x=>rw[g]at e;cases e
  |inl i=>
   rw[h]at e;by_cases z:0<=i
   ·rw[if_pos z]at e;exact List.mem_map.mpr ⟨i.toNat,List.mem_range.mpr (yo e).1,by rw[Int.toNat_of_nonneg z]⟩
   ·rw[if_neg z]at e;cases e
 ·obtain⟨j,d,f⟩:=List.mem_map.mp c;have:=List.mem_range.mp d;have l:(j:Int)=i:=Sum.inl.inj f;unfold nK;rw[List.length_map,List.length_range];lia
theorem Zo.gE{ks:List Str}{as:List Ak}(l:ks.length=xs.length)(nd:ks.Nodup)(w:1+Ee xs<=a.wt)(pm:ss.Perm ks)(e:ss.map (lk ks xs)=as.map some)(h:∀x,a.Dj (.inr x)=lk ks xs x)(g:∀i,a.Dj (.inl i)=.none):Zo a (ss.map Sum.inr) as:=by
 refine⟨?_,by rw[HV (CV l nd pm e)];exact w,fun k b c=>?_,fun i d=>?_,.inr ⟨_,rfl⟩⟩
 ·rw[<-e,List.map_map];exact List.map_congr_left fun x _=>h x
 ·cases k with
  |inl i=>rw[g]at c;cases c
  |inr x=>rw[h]at c;exact List.mem_map.mpr ⟨x,pm.mem_iff.mpr (Ex c).1,rfl⟩
 ·obtain⟨j,m,f⟩:=List.mem_map.mp d;cases f
end Ak
inductive WO(x y:V)(H:Hp)(Q:VK):Prop
 |mk(a b xs ys:_)(c:x=.ref a)(d:y=.ref b)(e:H a=some (.tup xs))(f:H b=some (.tup ys))(g:xs.length+ys.length<=sizeLine)(h:∀p H',AF H H'->H' p=some (.tup (xs++ys))->((ys=[]/\p=a)∨p=b∨H p=none)->Q (.ref p) H')
theorem ED{X:Cx}:Ek X (binaryOp .Add) WO:=by
 intro pins s E H x y v u Q I r t h;obtain⟨a,b,w,G,rfl,rfl,j,k,J,q⟩:=h;by_cases l:w=[]
 ·cases r;cases t;obtain⟨c,K,L,_⟩:=I.tuple (Bg.of j);obtain⟨d,T,M,_⟩:=I.tuple (Bg.of k);obtain⟨⟨N,O,data,P⟩,z,A,n,B⟩:=id L;obtain⟨⟨C,m,data2,o⟩,f,g,R,i⟩:=id M;simp only at A B g i;subst A B g i;have S:c=[]:=K.JP.mpr l;refine concat_meets ⟨_,z,rfl⟩ ⟨_,f,rfl⟩ noFill_tuple_add seq_tuple_add PySem.F.slot_tuple_add PySem.F.entry_tuple_add (PySem.F.args_tuple_add_2 _ _) (tuple_addW0 a b c.toArray d.toArray n R O m P o (by simp[S])) ⟨z,f,?_⟩;refine⟨.ref b,H,I.tok s.toks,rfl,q b H (AF.refl H) ?_ (.inr (.inl rfl))⟩;rw[l];exact k
 ·refine Xp pins s E H (.ref a) (.ref b) v u Q I r t ⟨a,b,w,G,rfl,rfl,Bg.of j,Bg.of k,l,J,fun e=>?_,fun e p D=>q p _ (AF.new D) AD (.inr (.inr D))⟩;refine q a H (AF.refl H) ?_ (.inl ⟨e,rfl⟩);rw[e,List.append_nil];exact j
namespace Ak
def LP(xs:List Ak)(us:List Pt):Prop:=∀(j:Nat) x y,xs[j]?=some x->us[j]?=some y->lets x y=true
theorem LP.snoc(h:LP xs us)(d:us.length=i)(f:xs[i]?=some a)(l:a.lets t=true):LP xs (us++[t]):=fun j x y c b=>by
 by_cases z:j<us.length
 ·rw[List.getElem?_append_left z]at b;exact h j x y c b
 ·by_cases e:j=us.length
  ·subst e;rw[List.getElem?_append_right (Nat.le_refl _),Nat.sub_self]at b;rw[d,f]at c;cases c;cases b;exact l
  ·rw[List.getElem?_eq_none (by rw[List.length_append,List.length_singleton];lia)]at b;cases b
theorem LP.row{xs:List Ak}{us a:List Pt}{m:Bool}(h:LP xs us)(d:us.length=xs.length)(e:a=[]∨m=true):lets (.row xs m) (.lst (us++a))=true:=by
 refine E_.mpr ⟨?_,fun j x y b c=>?_⟩
 ·rw[List.length_append];rcases e with rfl|e
  ·exact .inl (by simp[d])
  ·by_cases z:a.length=0
   ·exact .inl (by lia)
   ·exact .inr ⟨e,by lia⟩
 ·have z:=(yo b).1;rw[List.getElem?_append_left (by lia)]at c;exact h j x y b c
structure LT(ks:List Str)(xs:List Ak)(ls:List Str)(m:Bool)(ns:List Str)(us:List Pt):Prop where
 a:∀k∈ls,k∉ns
 l:ns.length=ks.length∨(m=true/\ks.length<ns.length)
 e:∀k x,lk ks xs k=some x->∃y,lk ns us k=some y/\lets x y=true
theorem LT.lets{ks ls b:List Str}(h:LT ks xs ls m b us)(l:ks.length=xs.length)(nd:ks.Nodup):Ak.lets (.tab ks xs ls m) (.Ar b us)=true:= (ND l nd).mpr ⟨fun k c=>by
  obtain⟨x,d⟩:=GC l c;obtain⟨y,f,_⟩:=h.e k x d;exact(Ex f).1,h.a,h.l,h.e⟩
theorem LT.of{ks ls:List Str}{as:List Ak}(l:ks.length=xs.length)(nd:ks.Nodup)(pm:ss.Perm ks)(e:ss.map (lk ks xs)=as.map some)(p:us.length=as.length)(h:LP as us)(dj:∀k∈ls,k∉ks):LT ks xs ls m ss us:=by
 have f:as.length=ss.length:=by have:=congrArg List.length e;simpa using this.symm
 refine⟨fun k g z=>dj k g (pm.mem_iff.mp z),.inl pm.length_eq,fun k x b=>?_⟩;obtain⟨j,a⟩:=List.getElem?_of_mem (pm.mem_iff.mpr (Ex b).1);have i:=(yo a).1;obtain⟨y,c⟩:∃y,us[j]?=some y:=⟨_,yn (by lia)⟩;have n:as[j]?=some x:=by
  have:=congrArg (fun z=>z[j]?) e;simp only[List.getElem?_map,a,Option.map_some,b]at this;cases d:as[j]? with
  |none=>rw[d]at this;cases this
  |some w=>rw[d]at this;cases this;rfl
 have o:lk ss us k=some y:=by
  have:=congrArg (fun z=>z[j]?) (Mw (ks:=ss) (xs:=us) (by lia) (pm.nodup_iff.mpr nd));simp only[List.getElem?_map,a,c,Option.map_some]at this;exact yq this
 exact⟨y,o,h j x y n c⟩
theorem LT.put{ks ls d b:List Str}{c:List Pt}(h:LT ks xs ls m d us)(f:m=true)(j:y∉ks)(hl:y∉ls)(n:∀k∈b,k∈d∨k=y)(p:d.length<=b.length)(o:∀k,k≠y->lk b c k=lk d us k):LT ks xs ls m b c:=by
 refine⟨fun k g z=>?_,?_,fun k x i=>?_⟩
 ·rcases n k z with z|e
  ·exact h.a k g z
  ·exact hl (by rw[<-e];exact g)
 ·rcases h.l with z|⟨_,z⟩
  ·by_cases w:b.length=ks.length
   ·exact .inl w
   ·exact .inr ⟨f,by lia⟩
  ·exact .inr ⟨f,by lia⟩
 ·rw[o k (fun z=>j (by rw[<-z];exact(Ex i).1))];exact h.e k x i
end Ak
variable{ks:List Key}{D:Addr}
section
variable{K:yt} [BR K]
def UC(H:Hp)(p:Addr)(ks:List Key):Prop:=H p=some (.tup (ks.map kV))
theorem UC.up{p:Addr}(h:UC H p ks)(s:AF H H'):UC H' p ks:=s _ _ h
inductive bZ(H:Hp)(v:V)(k:Key)(w:V):Prop
 |pl (a:Addr) (xs:List V) (j:Nat) (b:v=.ref a) (c:Rd H a (.lst xs)) (e:kV k=.int (j:Int)) (d:xs[j]?=some w):bZ H v k w
 |nm (a:Addr) (kvs:List (Key×V)) (b:v=.ref a) (c:Rd H a (.dK kvs)) (d:BQ kvs k=some w):bZ H v k w
theorem Val.WQ{u:Pt}{k:Key}(h:Val H v t)(e:t.Fn k=some u):∃w,Val H w u/\bZ H v k w:=by
 cases t with
 |lst g=>
  cases k with
  |inr x=>cases e
  |inl i=>
   simp only[Pt.Fn]at e;by_cases z:0<=i
   ·rw[if_pos z]at e;obtain⟨a,d,rfl,b,r⟩:=h.KJ;obtain⟨w,hw⟩:∃w,d[i.toNat]?=some w:=⟨_,yn (by have:=(yo e).1;have:=r.length;lia)⟩;obtain⟨p,f,j⟩:=r.get hw;rw[e]at f;cases f;exact⟨w,j,.pl a d i.toNat rfl b (by show V.int i=_;rw[Int.toNat_of_nonneg z]) hw⟩
   ·rw[if_neg z]at e;cases e
 |Ar q g=>
  cases k with
  |inl i=>cases e
  |inr x=>
   obtain⟨a,kvs,rfl,b,l,r⟩:=h.Oj;rcases Val.Dd l r x with⟨w,m,n,c,o⟩|⟨_,c⟩
   ·have:m=u:=yq (c.symm.trans e);subst this;exact⟨w,o,.nm a kvs rfl b n⟩
   ·exact absurd (c.symm.trans e) (fun z=>nomatch z)
 |int _=>cases k<;>cases e
 |str _=>cases k<;>cases e
 |bl _=>cases k<;>cases e
 |Ah=>cases k<;>cases e
 |tup _=>cases k<;>cases e
inductive UD(vs:List V)(H:Hp)(Q:VK):Prop
 |mk(v:V)(t:Pt)(k:Key)(a:vs=[v,kV k])(b:Val H v t)(c:Dr t)(d:Q (.bl (t.Fn k).isSome) H)
def He:Sp:=fun a H Q _=>UD a H Q
inductive XY(H:Hp)(a:Ak)(ks:List Key)(w:V):Prop
 |mk(t p:Addr)(u:V)(r:List Key)(b:Ak)(c:w=.ref t)(d:H t=some (.tup [.ref p,u]))(e:UC H p (ks++r))(f:a.sub r=some b)(g:Val H u b.pt)
theorem XY.up{H H':Hp}{a:Ak}{ks:List Key}{w:V}(h:XY (K:=K) H a ks w)(s:AF H H'):XY (K:=K) H' a ks w:=by
 obtain⟨t,p,u,r,b,c,d,e,f,g⟩:=h;exact⟨t,p,u,r,b,c,s _ _ d,e.up s,f,g.up s⟩
theorem XY.into{b:Ak}{k:Key}{w:V}(h:XY (K:=K) H b (ks++[k]) w)(e:a.Dj k=some b):XY (K:=K) H a ks w:=by
 obtain⟨t,p,u,r,c,f,g,d,i,j⟩:=h;exact⟨t,p,u,k::r,c,f,g,by rw[List.append_assoc]at d;exact d,by simp only[Ak.sub];rw[e];exact i,j⟩
theorem Fo(s:AF G H)(h:H b=none):ov G H H' b=H' b:=by
 unfold ov;rw[s.free h,AY h]
theorem WR{a:Hp}(l:AF G H)(s:AF H a)(j:AF a H')(k:a D≠none):AF (ov (Cs D (ov G H a)) a H') (Cs D (ov G H H')):=fun b o e=>by
 by_cases d:b=D
 ·subst d;unfold ov at e;unfold Cs at e;rw[if_pos rfl]at e;cases h:a b with
  |none=>exact absurd h k
  |some z=>simp only at e;rw[Bz h]at e;cases e
 ·rw[CI d];unfold ov at e;rw[CI d]at e;unfold ov;cases g:G b with
  |some z=>rw[g]at e;exact e
  |none=>
   rw[g]at e;simp only at e⊢;cases c:nw H a b with
   |some z=>
    rw[c]at e;cases i:H b with
    |some y=>rw[Bz i]at c;cases c
    |none=>rw[AY i]at c⊢;cases e;exact j _ _ c
   |none=>
    rw[c]at e;simp only at e;cases f:a b with
    |some y=>rw[Bz f]at e;cases e
    |none=>rw[AY f]at e;rw[AY (s.free f)];exact e
theorem EE{a:Hp}(s:AF a H'):AF (ov G H a) (ov G H H'):=fun b o e=>by
 unfold ov at e⊢;cases c:G b with
 |some z=>rw[c]at e;exact e
 |none=>
  rw[c]at e;simp only at e⊢;cases d:H b with
  |some y=>rw[Bz d]at e;cases e
  |none=>rw[AY d]at e⊢;exact s _ _ e
theorem Ei(s:AF H H'):AF (Cs D H) (Cs D H'):=fun b o e=>by
 by_cases a:b=D
 ·subst a;unfold Cs at e;rw[if_pos rfl]at e;cases e
 ·rw[CI a]at e⊢;exact s _ _ e
theorem Ja{o:HO}:AF (Cs D (ov G H H')) (Cs D (ov G H (upd H' D o))):=fun b u e=>by
 by_cases a:b=D
 ·subst a;unfold Cs at e;rw[if_pos rfl]at e;cases e
 ·rw[CI a]at e⊢;unfold ov at e⊢;cases c:G b with
  |some z=>rw[c]at e;exact e
  |none=>
   rw[c]at e;simp only at e⊢;cases d:H b with
   |some y=>rw[Bz d]at e;cases e
   |none=>rw[AY d]at e⊢;rw[AH a];exact e
end
inductive AL where
 |IX (p:List Key)
 |JL (d:Pt)
 |row (xs:List AL) (t:Option (List Key))
 |tab (ks:List Str) (xs:List AL) (t:Option (List Key))
noncomputable def dS:Key->Pt
 | .inl i=>.int i
 | .inr x=>.str x
def Dw(ks:List Key):Pt:=.tup (ks.map dS)
noncomputable def FP:Option (List Key)->Pt
 |none=>.Ah
 |some ks=>Dw ks
namespace AL
mutual
noncomputable def pt:AL->Pt
 |IX p=>.tup [.str "from",Dw p]
 |JL d=>.tup [.str "just",d]
 |row xs t=>.tup [.str "row",.lst (CO xs),FP t]
 |tab ks xs t=>.tup [.str "table",.Ar ks (CO xs),FP t]
noncomputable def CO:List AL->List Pt
 |[]=>[]
 |x::r=>pt x::CO r
end
theorem AW:∀xs:List AL,CO xs=xs.map pt
 |[]=>rfl
 |x::r=>by simp only[CO,List.map_cons,AW r]
mutual
noncomputable def size:AL->Nat
 |IX _=>1
 |JL _=>1
 |row xs _=>1+AI xs
 |tab _ xs _=>1+AI xs
noncomputable def AI:List AL->Nat
 |[]=>0
 |x::r=>size x+AI r
end
mutual
noncomputable def deep:AL->Nat
 |IX _=>1
 |JL _=>1
 |row xs _=>1+AJ xs
 |tab _ xs _=>1+AJ xs
noncomputable def AJ:List AL->Nat
 |[]=>0
 |x::r=>max (deep x) (AJ r)
end
def lI:Option (List Key)->Prop
 |none=>True
 |some p=>p.length<=200
mutual
def ok:AL->Prop
 |IX p=>p.length<=200
 |JL d=>d.doc/\d.size<=900/\d.deep<=30
 |row xs t=>xs.length<=900/\lI t/\DW xs
 |tab ks xs t=>ks.length=xs.length/\ks.Nodup/\ks.length<64/\lI t/\DW xs
def DW:List AL->Prop
 |[]=>True
 |x::r=>ok x/\DW r
end
def LV(A:Ak)(p:List Key):Bool:=match A.sub p with
 |some (.row _ m)=>m
 |_=>false
def FI(ks ls:List Str)(n:Str):Bool:=decide (n∈ks)||decide (n∈ls)
def LW(A:Ak)(a:List Str)(p:List Key):Bool:=match A.sub p with
 |some (.tab b _ ls m)=>m&&a.all (FI b ls)
 |_=>false
noncomputable def one(A:Ak):AL->Bool
 |IX p=>(A.sub p).isSome
 |JL _=>true
 |row _ none=>true
 |row _ (some p)=>LV A p
 |tab _ _ none=>true
 |tab ks _ (some p)=>LW A ks p
mutual
noncomputable def good(A:Ak):AL->Bool
 |IX p=>(A.sub p).isSome
 |JL _=>true
 |row xs t=>one A (row [] t)&&FJ A xs
 |tab ks xs t=>one A (tab ks [] t)&&FJ A xs
noncomputable def FJ(A:Ak):List AL->Bool
 |[]=>true
 |x::r=>good A x&&FJ A r
end
noncomputable def kids:AL->List AL
 |row xs _=>xs
 |tab _ xs _=>xs
 |_=>[]
theorem Bw(A:Ak):∀xs:List AL,FJ A xs=xs.all (good A)
 |[]=>rfl
 |x::r=>by simp only[FJ,List.all_cons,Bw A r]
theorem Jb(A:Ak)(m:AL):good A m=(one A m&&m.kids.all (good A)):=by
 cases m with
 |IX p=>simp[good,one,kids]
 |JL d=>simp[good,one,kids]
 |row a t=>
  simp only[good,kids,Bw];cases t<;>rfl
 |tab b a t=>
  simp only[good,kids,Bw];cases t<;>rfl
theorem Cz:∀{xs:List AL},DW xs->∀x∈xs,ok x
 |y::r,h,x,a=>by
  simp only[DW]at h;rcases List.mem_cons.mp a with rfl|a
  ·exact h.1
  ·exact Cz h.2 x a
theorem Fe:∀{xs:List AL},(∀x∈xs,ok x)->DW xs
 |[],_=>trivial
 |x::r,h=>⟨h x List.mem_cons_self,Fe fun y a=>h y (List.mem_cons_of_mem _ a)⟩
theorem Cm{a b:List AL}(h:DW a)(g:DW b):DW (a++b):=Fe fun x c=>(List.mem_append.mp c).elim (Cz h x) (Cz g x)
theorem Yd{m:AL}(o:m.ok):DW m.kids:=by
 cases m with
 |IX p=>trivial
 |JL d=>trivial
 |row a t=>simp only[ok]at o;exact o.2.2
 |tab b a t=>simp only[ok]at o;exact o.2.2.2.2
theorem Ab(xs ys:List AL):AI (xs++ys)=AI xs+AI ys:=by
 induction xs with
 |nil=>simp[AI]
 |cons x r a=>simp only[List.cons_append,AI,a];lia
theorem Az(a b:List AL):AJ (a++b)=max (AJ a) (AJ b):=by
 induction a with
 |nil=>simp[AJ]
 |cons x r c=>simp only[List.cons_append,AJ,c];lia
theorem Ck(a b:List AL):CO (a++b)=CO a++CO b:=by rw[AW,AW,AW,List.map_append]
theorem Cq:∀{xs:List AL}{x:AL},x∈xs->x.size<=AI xs
 |y::r,x,h=>by
  simp only[AI];rcases List.mem_cons.mp h with rfl|h
  ·lia
  ·have:=Cq h;lia
theorem Ap:∀{xs:List AL}{x:AL},x∈xs->x.deep<=AJ xs
 |y::r,x,h=>by
  simp only[AJ];rcases List.mem_cons.mp h with rfl|h
  ·lia
  ·have:=Ap h;lia
theorem Ce{n:Nat}:∀{us:List AL},(∀u∈us,u.deep<=n)->AJ us<=n
 |[],_=>by simp[AJ]
 |x::r,h=>by
  have b:=h x List.mem_cons_self;have c:=Ce (us:=r) fun y a=>h y (List.mem_cons_of_mem _ a);simp only[AJ];lia
mutual
theorem nd:∀m:AL,m.ok->Ly m.size m.pt
 |IX p,_=>.leaf (by decide) (by decide)
 |JL d,_=>.leaf (by decide) (by decide)
 |row xs t,o=>by
  simp only[ok]at o;simp only[size,pt];rw[Nat.add_comm];exact .row (by rw[AW,List.length_map];exact o.1) (bO xs o.2.2)
 |tab ks xs t,o=>by
  simp only[ok]at o;simp only[size,pt];rw[Nat.add_comm];exact .tab (by rw[AW,List.length_map];exact o.1) o.2.1 o.2.2.1 (bO xs o.2.2.2.2)
theorem bO:∀xs:List AL,DW xs->EL (AI xs) (CO xs)
 |[],_=>.nil
 |x::r,o=>by
  simp only[DW]at o;exact .cons (nd x o.1) (bO r o.2)
end
theorem SF{m:AL}(o:m.ok)(k:EJ m.pt.hold us):∃ms:List AL,us=ms.map pt/\ms.Perm m.kids:=by
 cases m with
 |IX p=>
  have e:(AL.IX p).pt.hold=.lst []:=by simp only[pt,Pt.hold];exact if_neg (by decide)
  rw[e]at k;exact⟨[],show us=[]from k,.refl _⟩
 |JL d=>
  have e:(AL.JL d).pt.hold=.lst []:=by simp only[pt,Pt.hold];exact if_neg (by decide)
  rw[e]at k;exact⟨[],show us=[]from k,.refl _⟩
 |row xs t=>exact⟨xs,by rw[<-AW];exact k,.refl _⟩
 |tab b xs t=>
  simp only[ok]at o;obtain⟨a,c,i,e⟩:=(show∃a:List Str,a.Perm b/\sortedS a=true/\a.map (lk b (CO xs))=us.map some from k);obtain⟨g,f⟩:=GZ (xs:=xs) o.1 fun k h=>c.mem_iff.mp h;refine⟨g,?_,(CV o.1 o.2.1 c f)⟩;refine some_inj (e.symm.trans ?_);rw[AW,List.map_map];have:a.map (lk b (xs.map pt))=(a.map (lk b xs)).map (Option.map pt):=by
   rw[List.map_map];exact List.map_congr_left fun k _=>Ds pt
  rw[this,f,List.map_map];rfl
end AL
section
variable{K:yt} [BR K]
theorem IY{H:Hp}:∀{ks:List Key}{vs:List V},AS H vs (ks.map dS)->vs=ks.map kV
 |[],_,h=>h.Vo
 | .inl i::r,_,h=>by
  obtain⟨v,vs,rfl,a,b⟩:=h.Fd;cases a;rw[IY b];rfl
 | .inr x::r,_,h=>by
  obtain⟨v,vs,rfl,a,b⟩:=h.Fd;cases a;rw[IY b];rfl
theorem IZ{H:Hp}:∀ks:List Key,AS (K:=K) H (ks.map kV) (ks.map dS)
 |[]=>.nil
 | .inl i::r=>.cons (.int i) (IZ r)
 | .inr x::r=>.cons (.str x) (IZ r)
theorem Val.path(h:Val H v (Dw ks)):∃p,v=.ref p/\Bg K H p (ks.map kV):=by
 obtain⟨p,c,rfl,a,b⟩:=Val.tupI h;rw[IY b]at a;exact⟨p,rfl,a⟩
theorem Ej{p:Addr}(h:Bg K H p (ks.map kV)):Val H (.ref p) (Dw ks):=.tup h (IZ ks)
theorem Val.lJ{m:AL}(h:Val H v m.pt):∃(t:Addr)(w:Str)(rest:List V),v=.ref t/\Bg K H t (.str w::rest)/\ ((∃p u,m=.IX p/\w="from"/\rest=[u]/\Val H u (Dw p))∨(∃d u,m=.JL d/\w="just"/\rest=[u]/\Val H u d)∨(∃xs o u z,m=.row xs o/\w="row"/\rest=[u,z]/\Val H u (.lst (AL.CO xs))/\Val H z (FP o))∨
   ∃ks xs o u z,m=.tab ks xs o/\w="table"/\rest=[u,z]/\Val H u (.Ar ks (AL.CO xs))/\Val H z (FP o)):=by
 cases m with
 |IX p=>
  obtain⟨t,u,e,h,g⟩:=Val.t2 (p:=Dw p) h;exact⟨t,_,_,e,h,.inl ⟨p,u,rfl,rfl,rfl,g⟩⟩
 |JL p=>
  obtain⟨t,u,e,h,g⟩:=Val.t2 (p:=p) h;exact⟨t,_,_,e,h,.inr (.inl ⟨p,u,rfl,rfl,rfl,g⟩)⟩
 |row xs o=>
  obtain⟨t,u,z,e,h,g,a⟩:=Val.t3 (q:=FP o) h;exact⟨t,_,_,e,h,.inr (.inr (.inl ⟨xs,o,u,z,rfl,rfl,rfl,g,a⟩))⟩
 |tab ks xs o=>
  obtain⟨t,u,z,e,h,g,a⟩:=Val.t3 (q:=FP o) h;exact⟨t,_,_,e,h,.inr (.inr (.inr ⟨ks,xs,o,u,z,rfl,rfl,rfl,g,a⟩))⟩
inductive WS(vs:List V)(H:Hp)(Q:VK):Prop
 |mk(v:V)(ks:List Str)(xs:List Ak)(ls:List Str)(m:Bool)(n:Str)(a:vs=[v,.str n])(b:Val H v (Ak.tab ks xs ls m).pt)(c:(Ak.tab ks xs ls m).CF)(d:Q (.bl (AL.FI ks ls n)) H)
def SQ:Sp:=fun a H Q _=>WS (K:=K) a H Q
end
section
variable{K:yt} [BR K]
def Zp(X:Hp)(ks:List Key)(ws:List V)(r:List Key):Prop:=∃w∈ws,∃t p u,w=V.ref t/\X t=some (.tup [.ref p,u])/\UC X p (ks++r)
theorem Zp.up{X Y:Hp}{ks r:List Key}{ws vs:List V}(h:Zp X ks ws r)(s:AF X Y)(l:∀w∈ws,w∈vs):Zp Y ks vs r:=let⟨w,m,t,p,u,e,a,b⟩:=h;⟨w,l w m,t,p,u,e,s _ _ a,b.up s⟩
inductive WT(n:Nat)(vs:List V)(H:Hp)(Q:VK):Prop
 |mk(G:Hp)(v:V)(a:Ak)(p:Addr)(ks:List Key)(c:vs=[v,.ref p])(s:AF G H)(d:Val G v a.pt)(e:a.CF)(f:a.Hu)(g:a.wt<=900)(h:UC G p ks)(i:ks.length+a.dp<=100)(j:a.dp+3<=n)(k:∀(D:Addr) (ws:List V) (H':Hp),AF H H'->H D=none->H' D=some (.lst ws)->ws≠[]->ws.length<=a.wt->(∀w∈ws,XY (K:=K) (ov G H H') a ks w)->(∀r b,a.sub r=some b->Zp (ov G H H') ks ws r)->Q (.ref D) H')
def Hg(n:Nat):Sp:=fun a H Q _=>WT (K:=K) n a H Q
structure Fp(G H:Hp)(a:Ak)(ks:List Key)(D:Addr)(ws:List V)(dn:List Key)(Hi:Hp):Prop where
 si:AF H Hi
 hD:Hi D=some (.lst ws)
 ne:ws≠[]
 ta:∀w∈ws,XY (K:=K) (Cs D (ov G H Hi)) a ks w
 cv:∀r b,a.sub r=some b->(∀k r',r=k::r'->k∈dn)->Zp (Cs D (ov G H Hi)) ks ws r
theorem Fp.up{G H c H':Hp}{a:Ak}{ks:List Key}{D:Addr}{ws:List V}{d:List Key}(T:Fp (K:=K) G H a ks D ws d c)(s:AF c H'):Fp (K:=K) G H a ks D ws d H':=⟨T.si.trans s,s _ _ T.hD,T.ne,fun w hw=>(T.ta w hw).up (Ei (EE s)),fun r b e h=>(T.cv r b e h).up (Ei (EE s)) fun _ m=>m⟩
theorem Hh{Hi j:Hp}{b:Ak}{k:Key}{p pk:Addr}{ws:List V}{w:V}{N:List Key}(A:AF G H)(HD:H D=none)(hp:UC G p ks)(T:Fp (K:=K) G H a ks D ws N Hi)(eb:a.Dj k=some b)(s4:AF Hi j)(vw:Val (Cs D (ov G H j)) w b.pt)(bG:b.CF)(bs:b.Hu)(lk:ks.length+1+b.dp<=100)(O:b.dp+3<=n)(B:j pk=none)(lw:ws.length+b.wt<=900){R:Hp->Prop}(go:∀C E,Fp (K:=K) G H a ks D E (N++[k]) C->E.length<=ws.length+b.wt->(∀x o,x≠D->j x=some o->C x=some o)->R C):WO (.ref p) (.ref pk) (upd j pk (.tup [kV k])) fun x d=>Hg (K:=K) n [w,x] d (fun v F=>Ro (.ref D) [v] F fun _ C=>R C) E0:=by
 have si:=T.si;have l:=T.hD;have q:=si.trans s4;have P:H p=some (.tup (ks.map kV)):=A _ _ hp;have L:=AF.new (o:=.tup [kV k]) B;have f5:upd j pk (.tup [kV k]) pk=some (.tup [kV k]):=AD;generalize upd j pk (.tup [kV k])=H5 at L f5⊢;refine⟨p,pk,_,_,rfl,rfl,(q.trans L) _ _ P,f5,An (by simp only[List.length_map,List.length_singleton];lia),fun I d s6 Q n6=>?_⟩;have s:=L.trans s6;have f:=s4.trans s;have y:=si.trans f;have S:I≠D:=fun z=>by rw[z,f _ _ l]at Q;cases Q
 have U:H I=none:=by
  rcases n6 with⟨h,_⟩|rfl|h
  ·cases h
  ·exact q.free B
  ·exact q.free (L.free h)
 have D6:=f _ _ l;have J:d D≠none:=by rw[D6];exact fun z=>nomatch z
 have X:AF (Cs D (ov G H d)) d:=fun b o e=>Gb A y _ _ (Bs _ _ e);have Y:Val (Cs D (ov G H d)) w b.pt:=vw.up (Ei (EE s));have Z:UC (Cs D (ov G H d)) I (ks++[k]):=by
  show Cs D (ov G H d) I=_;rw[CI S,Fo A U,Q,List.map_append];rfl
 refine⟨Cs D (ov G H d),w,b,I,ks++[k],rfl,X,Y,bG,bs,by lia,Z,by rw[List.length_append,List.length_singleton];lia,O,fun D7 g F M xn f7 xo xp sR sS=>?_⟩;have i:=f.trans M;have sU:=i _ _ l;refine⟨D,D7,_,_,rfl,rfl,sU,f7,An (by lia),go _ (ws++g) ⟨?_,AD,?_,?_,?_⟩ (by rw[List.length_append];lia) ?_⟩
 ·exact fun b o e=>by rw[AH (fun z=>by rw[z,HD]at e;cases e)];exact(si.trans i) _ _ e
 ·intro z;exact T.ne (List.append_eq_nil_iff.mp z).1
 ·intro w hw;rcases List.mem_append.mp hw with hw|hw
  ·exact(T.ta w hw).up fun b o e=>Ja _ _ (Ei (EE i) _ _ e)
  ·exact((sR w hw).into eb).up fun b o e=>Ja _ _ (WR A y M J _ _ e)
 ·intro r c e hd;have old:(∀k r',r=k::r'->k∈N)->Zp (Cs D (ov G H (upd F D (.lst (ws++g))))) ks (ws++g) r:=fun h=>(T.cv r c e h).up (fun b o e=>Ja _ _ (Ei (EE i) _ _ e)) fun _ m=>List.mem_append_left _ m;cases r with
  |nil=>exact old fun k r' z=>nomatch z
  |cons k2 r2=>
   rcases List.mem_append.mp (hd k2 r2 rfl)with h|h
   ·exact old fun k r' z=>by cases z;exact h
   ·rw[List.mem_singleton.mp h]at e⊢;simp only[Ak.sub]at e;rw[eb]at e;obtain⟨w2,m2,t,p2,u,e1,h1,h2⟩:=sS r2 c e;have sm:AF (ov (Cs D (ov G H d)) d F) (Cs D (ov G H (upd F D (.lst (ws++g))))):=fun b o e=>Ja _ _ (WR A y M J _ _ e);exact⟨w2,List.mem_append_right _ m2,t,p2,u,e1,sm _ _ h1,by rw[List.append_assoc]at h2;exact h2.up sm⟩
 ·exact fun x o hx e=>by rw[AH hx];exact(s.trans M) _ _ e
end
end L2
namespace PySem
open PyProof.Rows PySem.F PySem.Spec L2
abbrev TK(prog:Program)(w:World):=tupleKind (Al prog w)
def Bu(l:List (List Key×Addr×Value)):List (List Key×Addr×Value):=l.foldl (fun a x=>storedH a x.1 x.2.1 x.2.2) []
theorem Dg(l:List (List Key×Addr×Value))(x:List Key×Addr×Value):Bu (l++[x])=storedH (Bu l) x.1 x.2.1 x.2.2:=by unfold Bu;rw[List.foldl_append];rfl
theorem PL(xs:List (List Key×Addr×Value))(k:List Key)(a:Addr)(v:Value):(storedH xs k a v).length<=xs.length+1:=by
 unfold storedH;split
 ·rw[List.length_map];lia
 ·rw[List.length_append,List.length_singleton];exact Nat.le_refl _
theorem PM{xs:List (List Key×Addr×Value)}{k:List Key}{a:Addr}{v:Value}{x:List Key×Addr×Value}(h:x∈storedH xs k a v):x.2.1=a∨∃y∈xs,y.2.1=x.2.1:=by
 unfold storedH at h;split at h
 ·obtain⟨y,b,rfl⟩:=List.mem_map.mp h;refine .inr ⟨y,b,?_⟩;unfold putAt;split<;>rfl
 ·rcases List.mem_append.mp h with h|h
  ·exact .inr ⟨x,h,rfl⟩
  ·rw[List.mem_singleton.mp h];exact .inl rfl
theorem snoc_ind{a:Type}{P:List a->Prop}(b:P [])(c:∀l x,P l->P (l++[x]))(l:List a):P l:=by
 rw[<-l.reverse_reverse]
 induction l.reverse with
 |nil=>exact b
 |cons x r d=>rw[List.reverse_cons];exact c _ _ d
theorem PN:∀l:List (List Key×Addr×Value),(Bu l).length<=l.length:=by
 refine snoc_ind (Nat.le_refl _) fun l x a=>?_;rw[Dg];have:=PL (Bu l) x.1 x.2.1 x.2.2;rw[List.length_append,List.length_singleton];lia
theorem Iu:∀(l:List (List Key×Addr×Value)) x,x∈Bu l->∃y∈l,y.2.1=x.2.1:=by
 refine snoc_ind (fun x h=>nomatch h) fun l x b z a=>?_;rw[Dg]at a;rcases PM a with e|⟨y,c,e⟩
 ·exact⟨x,by simp,e.symm⟩
 ·obtain⟨d,f,g⟩:=b y c;exact⟨d,List.mem_append_left _ f,g.trans e⟩
section
variable{prog:Program} {w:World} {A:Around} {R:Result->Shared->Prop}
theorem Jc{h h':Heap}{k:List Key}{a:Addr}(i:(TK prog w).is h k a)(kp:∀o,h.get? a=some o->h'.get? a=some o):(TK prog w).is h' k a:=by
 obtain⟨o,b,n,c,r⟩:=i;exact⟨o,b,n,kp _ c,r⟩
theorem RG{I l d:Addr}{items:Array Value}{more:List (List Key×Addr×Value)}(hu:A.units+1<cLine)(hh:A.handled=none)(M:l≠I)(h:d≠I)(N:d≠l)(hlen:items.size=more.length)(hsz:more.length<=100000):
  ∀(k i:Nat)(s:Shared),more.length-i=k->i<=more.length->s.heap.IsListIter I l i->s.heap.IsList l items->s.heap.DictOfH (TK prog w) d (Bu (more.take i))-> (∀(j:Nat) m a f,more[j]?=some (m,a,f)->∃t,items[j]?=some (.ref t)/\t≠d/\t≠I/\a≠d/\a≠I/\IsTup s.heap t #[.ref a,f]/\(TK prog w).is s.heap m a)-> (∀h' tk,h'.DictOfH (TK prog w) d (Bu more)->(∀b o,b≠d->b≠I->s.heap.get? b=some o->h'.get? b=some o)->R (.ok (.ret .none)) {s with heap:=h',toks:=tk})->
   codeAny (model prog w) A (.builtin "dict.update.loop" ⟨[.ref d,.ref I,rawInt (i:Int),.none],[]⟩) R s:=by
 have W:=Walks.list (prog:=prog) (w:=w) (A:=A.in1) hh I l M items;intro k
 induction k with
 |zero=>
  intro i s hk hi n O K C P;have Q:i=more.length:=by lia
  subst Q;refine codeAny_builtin Bk ?_;rw[Around.under_plainId Ai _];show wpAny _ A.in1 (pyNext (.ref I)>>=_) _ _ s;refine wpAny_bind (W.done s _ _ (by rw[hlen];exact⟨n,O⟩) fun h' tk kept=>?_);rw[List.take_length]at K;obtain⟨o,S,T,U,V,X,Y,q,Z⟩:=K;have c:∀x∈Bu more,(TK prog w).is h' x.1 x.2.1:=fun x D=>by
   obtain⟨y,hy,e⟩:=Iu more x D;obtain⟨j,E⟩:=List.getElem?_of_mem hy;obtain⟨t,_,_,_,_,nI,_⟩:=C j y.1 y.2.1 y.2.2 E;exact Jc (q x D) fun o e'=>kept _ _ (by rw[<-e];simp[nI]) e'
  show wpAny _ A.in1 (Builtin.Dict.addKeywords d []>>=_) _ _ _;exact wpAny_bind (wpAny_pure (wpAny_pure (P h' tk ⟨o,S,T,kept _ _ (by simp[h]) U,V,X,Y,c,Z⟩ fun b o _ hb e=>kept b o (by simp[hb]) e)))
 |succ k ih=>
  intro i s hk hi n O K C P;have r:i<more.length:=by lia
  obtain⟨⟨m,a,f⟩,hm⟩:∃p,more[i]?=some p:=⟨_,yn r⟩;obtain⟨t,ht,td,tI,ad,aI,tup,F⟩:=C i m a f hm;refine codeAny_builtin Bk ?_;rw[Around.under_plainId Ai _];show wpAny _ A.in1 (pyNext (.ref I)>>=_) _ _ s;refine wpAny_bind (W.item i s _ _ (by rw[hlen];exact r) ⟨n,O⟩ fun v h' tk hv G kept=>?_);rw[ht]at hv;cases hv;obtain⟨ot,sV,u,nt,H⟩:=tup;have g:h'.get? t=some ot:=kept _ _ (by simp[tI]) sV;have hT:({s with heap:=h',toks:=tk}:Shared).TypeIs (.ref t) "tuple":=⟨_,g,u⟩;obtain⟨ct,dt,dat,slt⟩:=ot;simp only at u H;subst u H;obtain⟨o,S,T,U,V,X,Y,q,Z⟩:=id K;have c:∀x∈Bu (more.take i),(TK prog w).is h' x.1 x.2.1:=fun x D=>by
   obtain⟨y,hy,e⟩:=Iu (more.take i) x D;obtain⟨j,E⟩:=List.getElem?_of_mem (List.mem_of_mem_take hy);obtain⟨t,_,_,_,_,nI,_⟩:=C j y.1 y.2.1 y.2.2 E;exact Jc (q x D) fun o e'=>kept _ _ (by rw[<-e];simp[nI]) e'
  have gF:h'.DictOfH (TK prog w) d (Bu (more.take i)):=⟨o,S,T,kept _ _ (by simp[h]) U,V,X,Y,c,Z⟩;have z:(TK prog w).is h' m a:=Jc F fun o e=>kept _ _ (by simp[aI]) e;have sW:(Bu (more.take i)).length<=sizeLine:=by
   have:=PN (more.take i);rw[List.length_take]at this;have e:sizeLine=16777216:=sizeLine_eq;lia
  show wpAny _ A.in1 (holding [Value.ref t] _>>=_) _ _ _;refine wpAny_bind (wpAny_holding (wpAny_bind (wpAny_tryCatch ?_)));unfold Builtin.Dict.pairItems;refine wpAny_bind (wpAny_typeOf hT ?_);rw[if_pos (by decide)];unfold seqItems?;refine wpAny_bind ?_;refine wpAny_bind (wpAny_load g ?_);refine wpAny_pure (wpAny_pure ?_);show wpAny _ A.in1 (holding [Value.ref a,f] (dictSet d (.ref a) f)) _ _ _;refine wpAny_holding ?_;refine wpAny_dictSet_heap (hsz:=sW) (tupleKind_room_in1 hu) z gF fun h2 J B=>?_;have e1:storedH (Bu (more.take i)) m a f=Bu (more.take (i+1)):=by
   rw[List.take_add_one,hm];exact(Dg _ (m,a,f)).symm
  rw[e1]at J;have kp:∀b o,b≠d->b≠I->s.heap.get? b=some o->h2.get? b=some o:=fun b o L h3 e=>by
   rw[B.2 b L];exact kept b o (by simp[h3]) e
  have ic:((i:Int)+1)=((i+1:Nat):Int):=by simp
  refine wpAny_pure ⟨plainId_quiet Ai _,?_⟩;rw[ic];refine ih (i+1) _ (by lia) r (G.1.at fun o e=>by rw[B.2 I (Ne.symm h)];exact e) (G.2.at fun o e=>by rw[B.2 l (Ne.symm N)];exact e) J (fun j k2 a2 v2 E=>?_) (fun h3 sY sZ sd=>P h3 sY sZ fun b o L h4 e=>sd b o L h4 (kp b o L h4 e));obtain⟨t2,c1,c2,c3,c4,c5,⟨sf,b1,b2⟩,c7⟩:=C j k2 a2 v2 E;exact⟨t2,c1,c2,c3,c4,c5,⟨sf,kp _ _ c2 c3 b1,b2⟩,Jc c7 fun o e=>kp _ _ c4 c5 e⟩
end
end PySem
namespace L2
open PySem PySem.Spec PyProof.Rows
def DS(l:List (List Key×Addr×V)):List (List Key×V):=l.foldl (fun a x=>putK a x.1 x.2.2) []
theorem Fq(l:List (List Key×Addr×V))(x:List Key×Addr×V):DS (l++[x])=putK (DS l) x.1 x.2.2:=by unfold DS;rw[List.foldl_append];rfl
theorem RH:∀l:List (List Key×Addr×V),(DS l).length<=l.length:=by
 refine snoc_ind (Nat.le_refl _) fun l x a=>?_;rw[Fq];have:=D_ (DS l) x.1 x.2.2;rw[List.length_append,List.length_singleton];lia
variable{H:Hp}{pins:List (Addr×Obj)}{s:Shared}
section
variable{X:Cx}
inductive Ye(K:yt)(xs:List V)(H:Hp)(Q:VK):Prop
 |mk(l:Addr)(ts:List Addr)(kvs:List (List Key×Addr×V))(b:xs=[.ref l])(c:As K H l (ts.map V.ref))(d:ts.length=kvs.length)(e:∀(j:Nat) k a v,kvs[j]?=some (k,a,v)->∃t,ts[j]?=some t/\H t=some (.tup [.ref a,v])/\H a=some (.tup (k.map kV)))(f:kvs.length<=1000)(g:∀p,H p=none->Q (.ref p) (upd H p (.dT (DS kvs))))
def WU(K:yt):List V->Hp->VK->Prop:=fun a H Q=>Ye K a H Q
theorem bc{g:St}(I:Inv X pins g H s):∀(kvs:List (List Key×Addr×V))(ts:List Addr),(∀(j:Nat) k a v,kvs[j]?=some (k,a,v)->∃t,ts[j]?=some t/\H t=some (.tup [.ref a,v])/\H a=some (.tup (k.map kV)))->
  ∃more:List (List Key×Addr×Value),more.length=kvs.length/\(∀(j:Nat) k a v,kvs[j]?=some (k,a,v)->∃b,more[j]?=some (k,a,b)/\RelV v b)/\∀(j:Nat) k a b,more[j]?=some (k,a,b)->∃t,ts[j]?=some t/\IsTup s.heap t #[.ref a,b]/\(TK X.prog X.w).is s.heap k a:=by
 intro kvs
 induction kvs with
 |nil=>exact fun ts _=>⟨[],rfl,fun j k a v e=>by simp at e,fun j k a v e=>by simp at e⟩
 |cons p r i=>
  intro ts h;obtain⟨k,a,v⟩:=p;obtain⟨t,l,m,n⟩:=h 0 k a v rfl;obtain⟨z,o,q,_⟩:=I.tuple (Bg.of m);obtain⟨more,u,x,y⟩:=i ts.tail (fun j k a v e=>by
   obtain⟨t,c1,c2⟩:=h (j+1) k a v (by simpa using e);exact⟨t,by rw[List.getElem?_tail];exact c1,c2⟩)
  cases o with
  |cons A f=>
   cases f with
   |@cons _ b _ _ B f=>
    cases f;cases A;refine⟨(k,a,b)::more,by rw[List.length_cons,List.length_cons,u],fun j c a2 d e=>?_,fun j c a2 d e=>?_⟩
    ·cases j with
     |zero=>
      have e:(k,a,v)=(c,a2,d):=by simpa using e
      cases e;exact⟨b,rfl,B⟩
     |succ j=>
      obtain⟨w,c1,c2⟩:=x j c a2 d (by simpa using e);exact⟨w,by simpa using c1,c2⟩
    ·cases j with
     |zero=>
      have e:(k,a,b)=(c,a2,d):=by simpa using e
      cases e;exact⟨t,l,q,IF I.Ax n⟩
     |succ j=>
      obtain⟨t2,c1,c2⟩:=y j c a2 d (by simpa using e);exact⟨t2,by rw[List.getElem?_tail]at c1;exact c1,c2⟩
theorem WV:∀(kvs:List (List Key×Addr×V))(more:List (List Key×Addr×Value)),more.length=kvs.length->(∀(j:Nat) k a v,kvs[j]?=some (k,a,v)->H a=some (.tup (k.map kV))/\∃c,more[j]?=some (k,a,c)/\RelV v c)->KT H (DS kvs) (Bu more):=by
 refine snoc_ind (fun more l _=>?_) fun kvs p e more l h=>?_
 ·rw[List.length_eq_zero_iff.mp l];exact .nil
 ·obtain⟨k,a,v⟩:=p;obtain⟨f,c,g,m⟩:=h kvs.length k a v (by simp);have n:more=more.take kvs.length++[(k,a,c)]:=by
   rw[List.length_append,List.length_singleton]at l;have:=List.take_add_one (l:=more) (i:=kvs.length);rw[g,List.take_of_length_le (by lia)]at this;exact this
  rw[n,Fq,Dg];refine KT.put (e (more.take kvs.length) ?_ fun j o a2 q d=>?_) k f m
  ·rw[List.length_take,l,List.length_append,List.length_singleton];lia
  ·have b:=(yo d).1;obtain⟨r,w,s,t⟩:=h j o a2 q (by rw[List.getElem?_append_left b];exact d);exact⟨r,w,by rw[List.getElem?_take_of_lt b];exact s,t⟩
theorem Dx(hc:X.calm=true)(hu:X.A.units+64<cLine):Bh X (.type "dict") (WU X.K):=by
 intro pins s σ H xs us Q I r h;obtain⟨l,N,kvs,rfl,hl,hlen,hp,hz,q⟩:=h;obtain⟨u,rfl,ru⟩:=vals1 r;cases ru;obtain⟨m,rv,pl,_⟩:=I.list hl;obtain⟨O,nl,D,n,P,y⟩:=id pl;have E:X.A.in1.handled=none:=I.ok.hd hc;refine callType_codes (Q₁:=fun G p=>G=.ref s.heap.objs.size/\p={s with heap:=s.heap.push {cls:=.type "dict",data:=.dict #[]}}) F.kt_called_dict (F.kt_typeCall_dict_1 _) F.entry_dict_init (kt_code_dict_new _ ⟨rfl,rfl⟩) ?_;rintro G p ⟨rfl,rfl⟩;have d:(s.heap.push {cls:=.type "dict",data:=.dict #[]}).DictOfH (TK X.prog X.w) s.heap.objs.size []:=Heap.DictOfH.new s.heap;refine⟨d.typeIs,F.args_dict_init_2 _ _,?_⟩;unfold Builtin.«dict.__init__»;refine wpAny_bind ?_;unfold Builtin.Dict.selfAndRest;refine wpAny_bind (wpAny_notOrdered_dict d.typeIs ?_);show wpAny _ _ (pure (s.heap.objs.size,[Value.ref l])) _ _ _;refine wpAny_pure ?_;show wpAny _ _ (Builtin.Dict.updateFrom "dict.__init__" s.heap.objs.size (.ref l) [] .none) _ _ _;unfold Builtin.Dict.updateFrom;have f:(s.heap.push {cls:=.type "dict",data:=.dict #[]}).get? l=some O:=Heap.get?_push_of_some _ D;have R:({s with heap:=s.heap.push {cls:=.type "dict",data:=.dict #[]}}:Shared).TypeIs (.ref l) "list":=⟨_,f,n⟩;refine wpAny_bind (wpAny_typeOf R ?_);rw[if_pos (by decide)];refine wpAny_bind (FX f n y P E fun B oQ e1 S=>?_);rw[if_pos (show(Option.isNone (none:Option Value))=true from rfl)];have g:∀b o,(s.heap.push {cls:=.type "dict",data:=.dict #[]}).get? b=some o->B.get? b=some o:=S.keeps;have C:∀b o,s.heap.get? b=some o->B.get? b=some o:=fun b o e=>g b o (Heap.get?_push_of_some _ e);have T:B.IsList l m.toArray:=⟨O,g _ _ f,n,nl,y⟩;refine wpAny_bind (wpAny_rule ?_);refine wpAny_bind (wpAny_pyIter_list T ?_);refine wpAny_pure ⟨plainId_quiet Ai _,?_⟩;obtain⟨od,es,ep,U,rd⟩:=id d;have i:s.heap.objs.size<B.objs.size:=Heap.lt_size (g _ _ U);have J:l<s.heap.objs.size:=Heap.lt_size D;obtain⟨more,lm,W,hm⟩:=bc I kvs N hp;have L:m.length=N.length:=by rw[<-rv.length,List.length_map]
 have M:∀(j:Nat) t,N[j]?=some t->m.toArray[j]?=some (.ref t):=fun j t e=>by
  obtain⟨u,B,h2⟩:=rv.get (show(N.map V.ref)[j]?=some (.ref t)by rw[List.getElem?_map,e];rfl);cases h2;simpa using B
 have d0:∀(h:Heap),(∀o,(s.heap.push {cls:=.type "dict",data:=.dict #[]}).get? s.heap.objs.size=some o->h.get? s.heap.objs.size=some o)->h.DictOfH (TK X.prog X.w) s.heap.objs.size []:=fun h kp=>by
  obtain⟨o,es,ep,g1,g2,Y,g4,g5,g6⟩:=id d;exact⟨o,es,ep,kp _ g1,g2,Y,g4,fun x hx=>(nomatch hx),g6⟩
 show codeAny _ _ (.builtin "dict.update.loop" ⟨[.ref s.heap.objs.size,.ref B.objs.size,rawInt ((0:Nat):Int),.none],[]⟩) _ _;refine RG (l:=l) (items:=m.toArray) (more:=more) (by show X.A.units+1+1<cLine;lia) E (Nat.ne_of_lt (Nat.lt_trans J i)) (Nat.ne_of_lt i) (Nat.ne_of_gt J) (by rw[List.size_toArray,L,hlen,lm]) (by lia) more.length 0 _ (by simp) (Nat.zero_le _)
  ⟨_,Heap.get?_push_size _ rfl,rfl,rfl⟩ ⟨O,Heap.get?_push_of_some _ (g _ _ f),n,nl,y⟩ (d0 _ fun o e=>Heap.get?_push_of_some _ (g _ _ e)) (fun j k' a' v' e=>?_) (fun h2 Z hd2 fk=>⟨rfl,?_⟩)
 ·obtain⟨t,c1,⟨ot,c2,kh⟩,oa,ia,na,c3,sg⟩:=hm j k' a' v' e;have h5:t<s.heap.objs.size:=Heap.lt_size c2;have h6:a'<s.heap.objs.size:=Heap.lt_size c3;exact⟨t,M j t c1,Nat.ne_of_lt h5,Nat.ne_of_lt (Nat.lt_trans h5 i),Nat.ne_of_lt h6,Nat.ne_of_lt (Nat.lt_trans h6 i),⟨ot,Heap.get?_push_of_some _ (C _ _ c2),kh⟩,oa,ia,na,Heap.get?_push_of_some _ (C _ _ c3),sg⟩
 ·have YF:(DS kvs).length<=sizeLine:=by
   have:=RH kvs;exact An (by lia)
  have kt:KT H (DS kvs) (Bu more):=WV kvs more lm fun j k a v e=>by
   obtain⟨t,g1,g2,Y⟩:=hp j k a v e;exact⟨Y,W j k a v e⟩
  obtain⟨qo,lK,sh,hq,su,sy,s_,_,tD⟩:=hd2;have fr:=I.fresh;refine⟨.ref s.heap.objs.size,_,I.laid (o:=.dT (DS kvs)) (t':=Z) (fun b o e=>?_) (Nat.le_refl _) ⟨YF,beq_eq_false_iff_ne.mpr (Ne.symm (Nat.ne_of_lt I.big)),_,kt.keeps fun c ys ec=>?_,qo,lK,sh,hq,su,sy,s_,tD⟩,rfl,q _ fr⟩
  ·have:=Heap.lt_size e;exact fk b o (Nat.ne_of_lt this) (Nat.ne_of_lt (Nat.lt_trans this i)) (Heap.get?_push_of_some _ (C _ _ e))
  ·rw[AH (fun z=>by rw[z,fr]at ec;cases ec)];exact ec
end
mutual
theorem Pt.ME:∀t:Pt,t.deep<=t.size
 | .int _| .str _| .bl _| .Ah=>by simp only[Pt.deep,Pt.size];lia
 | .lst xs=>by have:=Pt.FC xs;simp only[Pt.deep,Pt.size];lia
 | .tup xs=>by have:=Pt.FC xs;simp only[Pt.deep,Pt.size];lia
 | .Ar a xs=>by have:=Pt.FC xs;simp only[Pt.deep,Pt.size];lia
theorem Pt.FC:∀xs:List Pt,Pt.AJ xs<=Pt.AI xs
 |[]=>Nat.le_refl _
 |x::r=>by have:=Pt.ME x;have:=Pt.FC r;simp only[Pt.AJ,Pt.AI];lia
end
structure UE(A:Ak):Prop where
 ok:A.CF
 sr:A.Hu
 wt:A.wt<=800
 dp:A.dp<=20
 fw:A.Io
noncomputable def Mb:Nat->Nat
 |0=>1
 |d+1=>801+4*Mb d
theorem WW:∀d,1<=Mb d
 |0=>Nat.le_refl _
 |d+1=>by simp only[Mb];lia
def Zq(w:Str)(b:Ak):Prop:=(w="row"/\∃a,b=.row a true)∨(w="table"/\∃c a ls,b=.tab c a ls true)
variable{ks:List Key}{A:Ak}
theorem UE.len{b:Ak}(h:UE A)(e:A.sub ks=some b):ks.length<=20/\b.CF/\b.Hu/\b.wt<=800/\b.dp<=20:=by
 obtain⟨a,c,d,f⟩:=Ak.NH h.ok h.sr e;have:=h.wt;have:=h.dp;exact⟨by lia,a,c,by lia,by lia⟩
namespace AL
def Fs(ks:List Key)(keys:List Key):List AL:=keys.map fun k=>.IX (ks++[k])
theorem sub_snoc{b:Ak}{k:Key}(h:A.sub ks=some b):A.sub (ks++[k])=b.Dj k:=by
 rw[Ak.E',h];show b.sub [k]=_;simp only[Ak.sub];cases b.Dj k<;>rfl
theorem Ia{b:Ak}(h:A.sub ks=some b){keys:List Key}(a:∀k∈keys,(b.Dj k).isSome=true):FJ A (Fs ks keys)=true:=by
 rw[Bw,List.all_eq_true];intro x c;obtain⟨k,d,rfl⟩:=List.mem_map.mp c;simp only[good];rw[sub_snoc h];exact a k d
theorem NI{keys:List Key}(l:ks.length<=100):DW (Fs ks keys):=Fe fun x a=>by
 obtain⟨k,b,rfl⟩:=List.mem_map.mp a;simp only[ok,List.length_append,List.length_singleton];lia
theorem GN(ks:List Key):∀keys:List Key,AI (Fs ks keys)=keys.length
 |[]=>rfl
 |k::r=>by
  have:=GN ks r;simp only[Fs,List.map_cons,AI,size]at this⊢;rw[this,List.length_cons];lia
theorem Ib(ks keys:List Key):AJ (Fs ks keys)<=1:=Ce fun x a=>by
 obtain⟨k,b,rfl⟩:=List.mem_map.mp a;simp only[deep];exact Nat.le_refl _
theorem Ho(ks keys:List Key):(Fs ks keys).length=keys.length:=by unfold Fs;rw[List.length_map]
theorem MF:∀ts:List Pt,AI (ts.map AL.JL)=ts.length
 |[]=>rfl
 |x::r=>by
  have:=MF r;simp only[List.map_cons,AI,size,this,List.length_cons];lia
end AL
variable{o:Option (List Key)}{ws:List V}{G H':Hp}{f c D a:Addr}{us:List Pt}
section
variable{K:yt} [BR K]
theorem BL{a H2 c:Hp}(d:∀b,a b=none->H b=none)(s:∀b o,a b=none->H2 b=some o->c b=some o):AF (ov G a H2) (ov G H c):=fun b o e=>by
 unfold ov at e⊢;cases h:G b with
 |some z=>rw[h]at e;exact e
 |none=>rw[h]at e;exact BB d s b o e
section
variable{J:It} {te:TE} {fs:List Nat} {σ:St} {H:Hp} {Q:VK}
theorem Jd(G:Hp)(o:Option Addr)(n:Nat)(item:Nat->V)(a:Nat->List Pt->Hp->Prop)(S:n<=1000)(E:∀D,H D=none->a 0 [] (upd H D (.lst [])))(F:∀i us H2 D ws,Bt o H H2->H D=none->a i us H2->a i us (upd H2 D (.lst ws)))(hl:∀l,o=some l->H l≠none)(t:∀i us H2,i<n->Bt o H H2->a i us H2->J.go i H2)(I:∀i us H2 v H',i<n->Bt o H H2->a i us H2->J.N_ i H2 v H'->v=item i/\H'=H2)(x:∀us H2,Bt o H H2->a n us H2->J.stop n H2)(L:∀i us H2 (R:VK),i<n->Bt o H H2->a i us H2->us.length=i->(∀w u f,Bt o H2 f->Val (ov G H2 f) w u->a (i+1) (us++[u]) f->R w f)->te (some (item i)::Bq σ fs) H2 R)(M:∀D H2 ws us,H D=none->Bt o H H2->H2 D=some (.lst ws)->us.length=n->AS (ov G H H2) ws us->a n us H2->Q (.ref D) H2):Er J Mg te fs σ H Q:=by
 refine JT n item (fun D i H2=>H D=none/\Bt o H H2/\∃ws us,H2 D=some (.lst ws)/\us.length=i/\AS (ov G (upd H D (.lst [])) H2) ws us/\a i us H2) (fun D c=>⟨c,.new .refl c,[],[],AD,rfl,.nil,E D c⟩) (fun D i H2 g ⟨_,s,ws,us,_,_,_,d⟩=>t i us H2 g s d) (fun D i H2 v H' g ⟨_,s,ws,us,_,_,_,d⟩ y=>I i us H2 v H' g s d y) (fun D H2 ⟨_,s,ws,us,_,_,_,d⟩=>x us H2 s d) (fun D i H2 _ g ⟨c,s,ws,us,j,p,q,d⟩=>?_) (fun D H2 _ ⟨c,s,ws,us,j,p,q,d⟩=>?_)
 ·refine L i us H2 _ g s d p fun w u f r N A=>?_;have O:o≠some D:=fun z=>hl D z c;have P:=r.keep D _ O j;have T:=q.length;have C:∀b,upd H D (.lst []) b=none->b≠D/\H b=none:=fun b h=>Bv h;refine⟨ws,P,Nat.lt_of_le_of_lt (by lia) (Aw (Nat.le_refl 1000)),c,(s.trans r).new c,ws++[w],us++[u],AD,by simp[p],AS.snoc (q.up (BL (fun b h=>h) fun b e k B=>?_)) (N.up (BL (fun b h=>?_) fun b e k B=>?_)),F _ _ _ _ _ (s.trans r) c A⟩
  ·have m:=(C b k).1;rw[AH m];refine r.keep b e (fun z=>?_) B;exact hl b z (C b k).2
  ·have m:b≠D:=fun z=>by rw[z,j]at h;cases h
   rw[AH m];exact s.EC b h
  ·have m:b≠D:=fun z=>by rw[z,j]at k;cases k
   rw[AH m];exact B
 ·exact M D H2 ws us c s j p (q.up (BL (fun b h=>(Bv h).2) fun b e _ h=>h)) d
theorem Ki(G:Hp)(o:Option Addr)(n:Nat)(item:Nat->V)(ks:List Str)(c:Nat->List Pt->Hp->Prop)(hn:n<=1000)(h0:∀D,H D=none->c 0 [] (upd H D (.lst [])))(U:∀i us H2 D e,Bt o H H2->(H D=none)->c i us H2->c i us (upd H2 D e))(hl:∀l,o=some l->H l≠none)(I:∀i us H2,i<n->Bt o H H2->c i us H2->J.go i H2)(hy:∀i us H2 v H',i<n->Bt o H H2->c i us H2->J.N_ i H2 v H'->v=item i/\H'=H2)(L:∀us H2,Bt o H H2->c n us H2->J.stop n H2)(he:∀i us H2 (R:VK),i<n->Bt o H H2->c i us H2->us.length=i->(∀w u k t,Bt o H2 k->Val (ov G H2 k) w u->c (i+1) (us++[u]) k->k t=none->R (.ref t) (upd k t (.tup [.str (ks.getD i ""),w])))->te (some (item i)::Bq σ fs) H2 R)(hQ:∀D H2 (ts:List Addr) ws us,H D=none->Bt o H H2->H2 D=some (.lst (ts.map V.ref))->ts.length=n->us.length=n->(∀(j:Nat) t w,ts[j]?=some t->ws[j]?=some w->H2 t=some (.tup [.str (ks.getD j ""),w])/\H t=none)->AS (ov G H H2) ws us->c n us H2->Q (.ref D) H2):Er J Mg te fs σ H Q:=by
 refine JT n item (fun D i H2=>H D=none/\Bt o H H2/\∃(ts:List Addr)(ws:List V)(us:List Pt),H2 D=some (.lst (ts.map V.ref))/\ts.length=i/\us.length=i/\(∀(j:Nat) t w,ts[j]?=some t->ws[j]?=some w->H2 t=some (.tup [.str (ks.getD j ""),w])/\H t=none)/\AS (ov G (upd H D (.lst [])) H2) ws us/\c i us H2) (fun D d=>⟨d,.new .refl d,[],[],[],AD,rfl,rfl,(fun j t w h=>by simp at h),.nil,h0 D d⟩) (fun D i H2 r ⟨_,s,ts,ws,us,_,_,_,_,_,g⟩=>I i us H2 r s g) (fun D i H2 v H' r ⟨_,s,ts,ws,us,_,_,_,_,_,g⟩ y=>hy i us H2 v H' r s g y) (fun D H2 ⟨_,s,ts,ws,us,_,_,_,_,_,g⟩=>L us H2 s g) (fun D i H2 _ r ⟨d,s,ts,ws,us,x,lt,C,M,E,g⟩=>?_) (fun D H2 _ ⟨d,s,ts,ws,us,x,lt,C,M,E,g⟩=>?_)
 ·refine he i us H2 _ r s g C fun w u k t m vw N p=>?_;have oD:o≠some D:=fun z=>hl D z d;have O:=m.keep D _ oD x;have X:t≠D:=fun z=>by rw[z,O]at p;cases p
  have d4:upd k t (.tup [.str (ks.getD i ""),w]) D=some (.lst (ts.map V.ref)):=by rw[AH (Ne.symm X)];exact O
  have lw:=E.length;have F:H t=none:=(s.trans m).EC t p;have Y:∀b,upd H D (.lst []) b=none->b≠D/\H b=none:=fun b h=>Bv h;refine⟨ts.map V.ref,d4,Nat.lt_of_le_of_lt (by rw[List.length_map];lia) (Aw (Nat.le_refl 1000)),d,((s.trans m).new F).new d,ts++[t],ws++[w],us++[u],by rw[AD,List.map_append];rfl,by simp[lt],by simp[C],fun j q Z a f=>?_,AS.snoc (E.up (BL (fun b h=>h) fun b e a f=>?_)) (vw.up (BL (fun b h=>?_) fun b e a f=>?_)),U _ _ _ _ _ ((s.trans m).new F) d (U _ _ _ _ _ (s.trans m) F N)⟩
  ·by_cases hj:j<ts.length
   ·rw[List.getElem?_append_left hj]at a;rw[List.getElem?_append_left (by lia)]at f;obtain⟨g1,g2⟩:=M j q Z a f;have A:=m.keep q _ (fun z=>hl q z g2) g1;have n1:q≠t:=fun z=>by rw[z,p]at A;cases A
    have n2:q≠D:=fun z=>by rw[z,O]at A;cases A
    exact⟨by rw[AH n2,AH n1];exact A,g2⟩
   ·have P:=(yo a).1;rw[List.length_append,List.length_singleton]at P;have ej:j=i:=by lia
    subst ej;rw[List.getElem?_append_right (by lia),lt,Nat.sub_self]at a;have e1:t=q:=by simpa using a
    subst e1;rw[List.getElem?_append_right (by lia),show j-ws.length=0 by lia]at f;have e2:w=Z:=by simpa using f
    subst e2;exact⟨by rw[AH X,AD],F⟩
  ·have B:=(Y b a).1;have hb:=(Y b a).2;have S:=m.keep b e (fun z=>hl b z hb) f;have T:b≠t:=fun z=>by rw[z,p]at S;cases S
   rw[AH B,AH T];exact S
  ·have B:b≠D:=fun z=>by rw[z,x]at h;cases h
   rw[AH B];exact s.EC b h
  ·have B:b≠D:=fun z=>by rw[z,x]at a;cases a
   have T:b≠t:=fun z=>by rw[z,p]at f;cases f
   rw[AH B,AH T];exact f
 ·exact hQ D H2 ts ws us d s x lt C M (E.up (BL (fun b h=>(Bv h).2) fun b e _ h=>h)) g
end
theorem AS.SR{G:Hp}:∀{vs:List V}{us:List Pt},AS (K:=K) G vs us->∀k:Nat,AS (K:=K) G (vs.drop k) (us.drop k)
 |_,_,.nil,k=>by rw[List.drop_nil,List.drop_nil];exact .nil
 |_,_,.cons h r,0=>.cons h r
 |_,_,.cons h r,k+1=>r.SR k
theorem AL.Yf{N d:Nat}(k:Nat){ms:List AL}(c:AL.DW ms)(b:AL.FJ A ms=true):AL.DW (ms.drop k)/\AL.FJ A (ms.drop k)=true/\AL.AI (ms.drop k)<=AL.AI ms/\AL.AJ (ms.drop k)<=AL.AJ ms:=by
 refine⟨AL.Fe fun x a=>AL.Cz c x (List.mem_of_mem_drop a),?_,?_,AL.Ce fun x a=>AL.Ap (List.mem_of_mem_drop a)⟩
 ·rw[AL.Bw,List.all_eq_true]at b⊢;exact fun x a=>b x (List.mem_of_mem_drop a)
 ·have:=AL.Ab (ms.take k) (ms.drop k);rw[List.take_append_drop]at this;lia
structure FD(G:Hp)(A:Ak)(D:Addr)(ws:List V):Prop where
 at_:G D=some (.lst ws)
 ne:ws≠[]
 len:ws.length<=900
 ta:∀w∈ws,XY (K:=K) G A [] w
 cv:∀r b,A.sub r=some b->Zp G [] ws r
theorem FD.up{G H:Hp}{A:Ak}{D:Addr}{ws:List V}(t:FD (K:=K) G A D ws)(s:AF G H):FD (K:=K) H A D ws:=⟨s _ _ t.at_,t.ne,t.len,fun w hw=>(t.ta w hw).up s,fun r b e=>(t.cv r b e).up s fun _ m=>m⟩
structure UG(G:Hp)(A:Ak)(ws:List V)(p:Addr)(ks:List Key)(b:Ak):Prop where
 mem:∃t u,V.ref t∈ws/\G t=some (.tup [.ref p,u])
 WX:UC G p ks
 sub:A.sub ks=some b
structure WY where
 t:Addr
 p:Addr
 u:V
 ks:List Key
 b:Ak
instance:Inhabited WY:=⟨⟨0,0,.Ah,[],.any⟩⟩
structure iZ(G:Hp)(A:Ak)(e:WY):Prop where
 tp:G e.t=some (.tup [.ref e.p,e.u])
 WX:UC G e.p e.ks
 sub:A.sub e.ks=some e.b
 val:Val (K:=K) G e.u e.b.pt
theorem SS{G:Hp}{A:Ak}:∀ws:List V,(∀w∈ws,XY (K:=K) G A [] w)->∃a:List WY,ws=a.map (fun e=>V.ref e.t)/\∀e∈a,iZ (K:=K) G A e
 |[],_=>⟨[],rfl,fun e h=>nomatch h⟩
 |w::r,h=>by
  obtain⟨a,rfl,c⟩:=SS r fun x f=>h x (List.mem_cons_of_mem _ f);obtain⟨t,p,u,g,b,rfl,i,j,k,l⟩:=h w List.mem_cons_self;refine⟨⟨t,p,u,g,b⟩::a,rfl,fun e d=>?_⟩;rcases List.mem_cons.mp d with rfl|d
  ·exact⟨i,j,k,l⟩
  ·exact c e d
theorem FD.ents(h:FD (K:=K) G A D ws):∃a:List WY,ws=a.map (fun e=>V.ref e.t)/\∀e∈a,iZ (K:=K) G A e:=SS ws h.ta
noncomputable def NJ(w:Str):Ak->Bool
 | .row _ m=>decide (V.str "row"=V.str w)&&m
 | .tab _ _ _ m=>decide (V.str "table"=V.str w)&&m
 |_=>false
theorem UH{w:Str}{b:Ak}(h:NJ w b=true):Zq w b:=by
 cases b with
 |any=>cases h
 |Ag d=>cases h
 |row a m=>
  have h:(decide (V.str "row"=V.str w)&&m)=true:=h;rw[Bool.and_eq_true]at h;have e:=V.str.inj (of_decide_eq_true h.1);exact .inl ⟨e.symm,a,by rw[h.2]⟩
 |tab c a ls m=>
  have h:(decide (V.str "table"=V.str w)&&m)=true:=h;rw[Bool.and_eq_true]at h;have e:=V.str.inj (of_decide_eq_true h.1);exact .inr ⟨e.symm,c,a,ls,by rw[h.2]⟩
structure Md(G H H':Hp)(A:Ak)(v:V)(m:AL)(N d:Nat):Prop where
 val:Val (K:=K) (ov G H H') v m.pt
 ok:m.ok
 gd:m.good A=true
 sz:m.size<=N
 dp:m.deep<=d
theorem PQ{H2 d:Hp}{pk t:Addr}{k:Key}(q:∀b,H2 b=none->G b=none)(e:H2 pk=none)(n:AF (upd H2 pk (.tup [kV k])) d)(g:d c=some (.tup (ks.map kV++[kV k])))(n6:([kV k]=[]/\c=a)∨c=pk∨upd H2 pk (.tup [kV k]) c=none)(i:d t=none):AF H2 (upd d t (.tup [.str "from",.ref c]))/\H2 t=none/\Val (K:=K) (ov G H2 (upd d t (.tup [.str "from",.ref c]))) (.ref t) (AL.IX (ks++[k])).pt:=by
 have j:=AF.new (o:=.tup [kV k]) e;generalize upd H2 pk (.tup [kV k])=r at j n n6;have l:H2 c=none:=by
  rcases n6 with⟨h,_⟩|rfl|h
  ·cases h
  ·exact e
  ·exact j.free h
 have f:=j.trans n;have p:=f.free i;have m:c≠t:=fun z=>by rw[z,i]at g;cases g
 have nw:∀{b:Addr},H2 b=none->ov G H2 (upd d t (.tup [.str "from",.ref c])) b=upd d t (.tup [.str "from",.ref c]) b:=fun{b} h=>by unfold ov;rw[q b h];exact AY h
 refine⟨f.trans (AF.new i),p,.tup (.of (by rw[nw p,AD])) (.cons (.str _) (.cons (Ej (.of ?_)) .nil))⟩;rw[nw l,AH m,g,List.map_append];rfl
theorem Kj{H2:Hp}{p pk:Addr}{k:Key}(d:∀b,H2 b=none->G b=none)(e:H2 p=some (.tup (ks.map kV)))(lk:ks.length<=100)(a:H2 pk=none){R:VK}(go:∀(t:Addr) (H':Hp),AF H2 H'->H2 t=none->Val (K:=K) (ov G H2 H') (.ref t) (AL.IX (ks++[k])).pt->R (.ref t) H'):
  WO (.ref p) (.ref pk) (upd H2 pk (.tup [kV k])) fun x c=>[V.str "from",x].length<=sizeLine/\∀t,c t=none->R (.ref t) (upd c t (.tup [.str "from",x])):=
 ⟨p,pk,_,_,rfl,rfl,(AF.new a) _ _ e,AD,An (by simp only[List.length_map,List.length_singleton];lia),fun n c f g h=>⟨Ac,fun t i=>by
  obtain⟨j,l,m⟩:=PQ (K:=K) d a f g h i;exact go t _ j l m⟩⟩
theorem RI{a:Hp}{t:Addr}{fs:List AL}{z:V}(f:AF G H)(dm:∀b,a b=none->H b=none)(g:H D=none)(c:a D=some (.lst ws))(vl:AS (K:=K) (ov G H a) ws (AL.CO fs))(i:Val (K:=K) (ov G H a) z (FP o))(d:a t=none):Val (K:=K) (ov G H (upd a t (.tup [.str "row",.ref D,z]))) (.ref t) (AL.row fs o).pt:=by
 have up:AF (ov G H a) (ov G H (upd a t (.tup [.str "row",.ref D,z]))):=BL (fun b h=>h) fun b o _ e=>(AF.new d) _ _ e;have j:D≠t:=fun z=>by rw[z,d]at c;cases c
 exact .tup (.of (by rw[Fo f (dm t d),AD])) (.cons (.str _) (.cons (.lst (.inl (by rw[Fo f g,AH j];exact c)) (vl.up up)) (.cons (i.up up) .nil)))
theorem RJ{a:Hp}{t:Addr}{ks:List Str}{fs:List AL}{z:V}(f:AF G H)(dm:∀b,a b=none->H b=none)(g:H D=none)(l:ks.length=ws.length)(c:a D=some (.dK (Cb ks ws)))(vl:AS (K:=K) (ov G H a) ws (AL.CO fs))(i:Val (K:=K) (ov G H a) z (FP o))(d:a t=none):Val (K:=K) (ov G H (upd a t (.tup [.str "table",.ref D,z]))) (.ref t) (AL.tab ks fs o).pt:=by
 have up:AF (ov G H a) (ov G H (upd a t (.tup [.str "table",.ref D,z]))):=BL (fun b h=>h) fun b o _ e=>(AF.new d) _ _ e;have j:D≠t:=fun z=>by rw[z,d]at c;cases c
 exact .tup (.of (by rw[Fo f (dm t d),AD])) (.cons (.str _) (.cons (.Ar (.inl (by rw[Fo f g,AH j];exact c)) (Bn l) (by rw[CP l];exact vl.up up)) (.cons (i.up up) .nil)))
theorem tail_at{p:Addr}(a:UC G p ks)(s:AF G H')(m:Bool):∃z,Lh [V.Ah,.ref p] (if m=true then(1:Int)else 0)=some z/\Val (K:=K) H' z (FP (if m=true then some ks else none)):=by
 cases m with
 |true=>exact⟨.ref p,rfl,Ej (.of (s _ _ a))⟩
 |false=>exact⟨.Ah,rfl,.Ah⟩
theorem UI:∀d:List WY,(∀e∈d,iZ (K:=K) G A e)->∀(ks:List Key)(b:Ak),A.sub ks=some b->(∃e∈d,e.ks=ks)->∃u,BQ (DS (d.map fun e=>(e.ks,e.p,e.u))) ks=some u/\Val (K:=K) G u b.pt:=by
 refine snoc_ind (fun _ ks b _ ⟨e,a,_⟩=>nomatch a) fun d x j h ks b g ⟨e,a,f⟩=>?_;rw[List.map_append];show∃u,BQ (DS (_++[(x.ks,x.p,x.u)])) ks=some u/\_;rw[Fq,VB];by_cases c:ks=x.ks
 ·rw[if_pos c];have i:=h x (by simp);have:=i.sub;rw[<-c,g]at this;cases this;exact⟨x.u,rfl,i.val⟩
 ·rw[if_neg c];refine j (fun e a=>h e (List.mem_append_left _ a)) ks b g ⟨e,?_,f⟩;rcases List.mem_append.mp a with a|a
  ·exact a
  ·rw[List.mem_singleton.mp a]at f;exact absurd f.symm c
structure Known(G H:Hp)(A:Ak)(ws:List V)(D:Addr):Prop where
 ex:∃kvs:List (List Key×V),H D=some (.dT kvs)/\∀p ks b,UG G A ws p ks b->∃u,BQ kvs ks=some u/\Val (K:=K) G u b.pt
theorem Known.up(h:Known (K:=K) G H A ws D)(s:∀o,H D=some o->H' D=some o):Known (K:=K) G H' A ws D:=by
 obtain⟨kvs,a,b⟩:=h;exact⟨kvs,s _ a,b⟩
theorem Gj(h:FD (K:=K) G A D ws)(i:AF G H){Q:VK}(q:∀p l,AF H l->H p=none->Known (K:=K) G l A ws p->Q (.ref p) l):WU K [.ref D] H Q:=by
 obtain⟨f,rfl,c⟩:=h.ents;have len:=h.len;rw[List.length_map]at len;refine⟨D,f.map (·.t),f.map (fun e=>(e.ks,e.p,e.u)),rfl,As.of (by rw[List.map_map];exact i _ _ h.at_),by rw[List.length_map,List.length_map],fun j k a v e=>?_,by rw[List.length_map];lia,fun p n=>q p _ (AF.new n) n ⟨_,AD,fun o ks b pk=>?_⟩⟩
 ·rw[List.getElem?_map]at e;cases g:f[j]? with
  |none=>rw[g]at e;cases e
  |some x=>
   rw[g]at e;cases e;have d:=c x (yr g);exact⟨x.t,by rw[List.getElem?_map,g];rfl,i _ _ d.tp,i _ _ d.WX⟩
 ·obtain⟨⟨t,u,s,w⟩,m,y⟩:=pk;obtain⟨e,r,z⟩:=List.mem_map.mp s;have d:=c e r;cases z;have:=d.tp;rw[w]at this;have B:o=e.p:=by cases this;rfl
  have:G o=_:=m;rw[B,d.WX]at this;refine UI f c ks b y ⟨e,r,?_⟩;exact Rp (HO.tup.inj (yq this))
structure SU(G H:Hp)(A:Ak)(l D nm:Addr)(ws:List V)(ys:List Str)(cs:List Int):Prop where
 sG:AF G H
 nl:G l=none
 as:UE A
 td:FD (K:=K) G A D ws
 nm:Tp G nm ys
 hl:H l=some (.lst (cs.map V.int))
 lc:cs.length<=100
def bg(G:Hp)(A:Ak)(ws:List V)(a:V)(c lt:List Str)(o:Option (List Key)):Prop:=(a=.Ah/\o=none)∨∃p b d,a=.ref p/\o=some b/\UG G A ws p b (.tab c d lt true)
theorem Kk{a:Type}[DecidableEq a]:∀{ks L:List a},ks.Nodup->(∀k∈ks,k∈L)->ks.length<=L.length
 |[],_,_,_=>Nat.zero_le _
 |k::r,L,nd,h=>by
  obtain⟨d,e⟩:=List.nodup_cons.mp nd;have b:=h k List.mem_cons_self;have:=Kk (ks:=r) (L:=L.erase k) e fun x c=>(List.mem_erase_of_ne (fun z=>d (by rw[<-z];exact c))).mpr (h x (List.mem_cons_of_mem _ c));rw[List.length_erase_of_mem b]at this;have:=List.length_pos_of_mem b;rw[List.length_cons];lia
structure lL(H:Hp)(D:Addr)(ks:List Key)(kt lt:List Str):Prop where
 ex:∃(kvs:List (List Key×V))(t1 a1 l1:Addr)(dU:List (Key×V)),H D=some (.dT kvs)/\BQ kvs ks=some (.ref t1)/\Bg K H t1 [.str "table",.ref a1,.ref l1,.bl true]/\Rd H a1 (.dK dU)/\(∀y:Str,(BQ dU (Sum.inr y)).isSome=decide (y∈kt))/\Rd H l1 (.lst (lt.map V.str))
theorem MG{a:List (Key×V)}{b:List Str}(c:a.map (·.1)=b.map Sum.inr)(k:Str):(BQ a (Sum.inr k)).isSome=decide (k∈b):=by
 rw[Bool.eq_iff_iff,decide_eq_true_iff];have d:(Sum.inr k:Key)∈a.map (·.1)↔k∈b:=by
  rw[c];constructor
  ·intro h;obtain⟨y,f,e⟩:=List.mem_map.mp h;rw[<-Sum.inr.inj e];exact f
  ·exact fun h=>List.mem_map_of_mem h
 rw[<-d];cases e:BQ a (Sum.inr k:Key)with
 |none=>simp only[Option.isSome_none];exact⟨(fun h=>nomatch h),fun h=>absurd h (ON e)⟩
 |some z=>simp only[Option.isSome_some];exact⟨fun _=>Mf e,fun _=>trivial⟩
theorem Known.at{G H:Hp}{A:Ak}{ws:List V}{D p:Addr}{ks:List Key}{i lt:List Str}{xs:List Ak}(h:Known (K:=K) G H A ws D)(a:AF G H)(pk:UG G A ws p ks (.tab i xs lt true)):lL (K:=K) H D ks i lt:=by
 obtain⟨kvs,k,l⟩:=h;obtain⟨u,m,v⟩:=l p ks _ pk;obtain⟨t1,B,rest,rfl,n,o⟩:=v.ak;rcases o with⟨e,_⟩|⟨d,u,e,_⟩|⟨b,q,u,e,_⟩|⟨r,b,s,q,u,z,e,rfl,rfl,t,w⟩
 ·cases e
 ·cases e
 ·cases e
 cases e;obtain⟨a1,c,rfl,f,g,C⟩:=t.Oj;obtain⟨l1,E,rfl,j,x⟩:=w.KJ;rw[Ez x]at j;exact⟨kvs,t1,a1,l1,c,k,m,n.up a,f.up (a _),fun y=>MG g y,j.up (a _)⟩
structure XZ(G H6:Hp)(A:Ak)(l p6:Addr)(ys:List Str)(Tl:Str->Prop)(N d n0:Nat)(Hi:Hp)(ks:List Str)(ws:List V)(us:List Pt)(LB:List Int):Prop where
 kp:∀b e,b≠l->b≠p6->H6 b=some e->Hi b=some e
 dm:∀b,Hi b=none->H6 b=none
 e6:Hi p6=some (.dK (Cb ks ws))
 el:Hi l=some (.lst (LB.map V.int))
 le:LB.length<=n0
 lw:ks.length=ws.length
 nk:ks.Nodup
 vl:AS (K:=K) (ov G H6 Hi) ws us
 ms:∀u∈us,∃m:AL,u=m.pt/\m.ok/\m.good A=true/\m.size<=N/\m.deep<=d
 iy:∀k∈ks,k∈ys
 tl:∀k∈ks,Tl k
theorem XZ.up{G c:Hp}{A:Ak}{l f:Addr}{ys:List Str}{g:Str->Prop}{N d i:Nat}{j H':Hp}{ks:List Str}{ws:List V}{us:List Pt}{a:List Int}(T:XZ (K:=K) G c A l f ys g N d i j ks ws us a)(s:AF j H'):XZ (K:=K) G c A l f ys g N d i H' ks ws us a:=
 {T with kp:=fun b e k m n=>s _ _ (T.kp b e k m n),dm:=fun b h=>T.dm b (s.free h),e6:=s _ _ T.e6,el:=s _ _ T.el,vl:=T.vl.up (BL (fun b h=>h) fun b o _ e=>s _ _ e)}
theorem XZ.put{i:Hp}{l:Addr}{ys:List Str}{w:Str->Prop}{N d E:Nat}{r g:Hp}{ks:List Str}{s p:List Int}{y:Str}{v:V}{m:AL}(T:XZ (K:=K) G i A l f ys w N d E r ks ws us s)(l4:ys.length=4)(F:i f≠none)(x:i l≠none)(ne:f≠l)(t:Bt (some l) r g)(el:g l=some (.lst (p.map V.int)))(le:p.length<=s.length)(I:Val (K:=K) (ov G r g) v m.pt)(J:m.ok)(L:m.good A=true)(M:m.size<=N)(O:m.deep<=d)(P:y∈ys)(ty:w y):
  g f=some (.dK (Cb ks ws))/\(Cb ks ws).length<1000/\∃a c q,putK (Cb ks ws) (Sum.inr y) v=Cb a c/\XZ (K:=K) G i A l f ys w N d E (upd g f (.dK (Cb a c))) a c q p:=by
 have k4:=Kk T.nk T.iy;have e6:=t.keep _ _ (fun z=>ne (yq z).symm) T.e6;have Q:r f≠none:=by rw[T.e6];exact fun z=>nomatch z
 have B:∀o,AF (ov G i r) (ov G i (upd g f o)):=fun o=>BL (fun b h=>h) fun b e j n=>by
  rw[AH (fun z=>F (by rw[<-z];exact j))];exact t.keep b e (fun z=>x (by rw[yq z];exact j)) n
 have up1:∀o,AF (ov G r g) (ov G i (upd g f o)):=fun o=>BL (fun b h=>T.dm b h) fun b e j n=>by
  rw[AH (fun z=>Q (by rw[<-z];exact j))];exact n
 obtain⟨a,c,q,R,S,U,X,H,Y,_⟩:=R' (K:=K) (y:=y) (I.up (up1 (.dK []))) T.lw T.nk (T.vl.up (B (.dK [])));have C:AF (ov G i (upd g f (.dK []))) (ov G i (upd g f (.dK (Cb a c)))):=BL (fun b h=>h) fun b e j n=>by
  have Z:b≠f:=fun z=>F (by rw[<-z];exact j);rw[AH Z]at n⊢;exact n
 refine⟨e6,by rw[B_ T.lw];lia,a,c,q,R,?_⟩;exact{
  kp:=fun b e j n h=>by rw[AH n];exact t.keep b e (fun z=>j (yq z).symm) (T.kp b e j n h)
  dm:=fun b h=>T.dm b (t.EC b (Bv h).2)
  e6:=AD
  el:=by rw[AH (Ne.symm ne)];exact el
  le:=Nat.le_trans le T.le
  lw:=S
  nk:=U
  vl:=X.up C
  ms:=fun u hu=>by
   rcases Y u hu with h|rfl
   ·exact T.ms u h
   ·exact⟨m,rfl,J,L,M,O⟩
  iy:=fun k D=>(H k D).elim (T.iy k) fun e=>by rw[e];exact P
  tl:=fun k D=>(H k D).elim (T.tl k) fun e=>by rw[e];exact ty}
theorem WZ{A:Ak}{N d:Nat}:∀us:List Pt,(∀u∈us,∃m:AL,u=m.pt/\m.ok/\m.good A=true/\m.size<=N/\m.deep<=d)->∃ms:List AL,us=AL.CO ms/\AL.DW ms/\AL.FJ A ms=true/\AL.AI ms<=ms.length*N/\AL.AJ ms<=d
 |[],_=>⟨[],rfl,trivial,rfl,by simp[AL.AI],by simp[AL.AJ]⟩
 |u::r,h=>by
  obtain⟨m,rfl,a,b,g,h4⟩:=h u List.mem_cons_self;obtain⟨ms,rfl,c,e,i,j⟩:=WZ r fun x f=>h x (List.mem_cons_of_mem _ f);refine⟨m::ms,rfl,⟨a,c⟩,by simp only[AL.FJ,b,e,Bool.and_self],?_,?_⟩
  ·simp only[AL.AI,List.length_cons,Nat.add_mul,Nat.one_mul];lia
  ·simp only[AL.AJ];lia
inductive Wa(n:Nat)(vs:List V)(H:Hp)(Q:VK):Prop
 |mk(G:Hp)(A:Ak)(l D nm:Addr)(ws:List V)(ys:List Str)(cs:List Int)(c:Int)(d:Nat)(b:vs=[.ref l,.int c,.int ((d+1:Nat):Int),.ref D,.ref nm])(e:SU (K:=K) G H A l D nm ws ys cs)(f:2*d+9<=n)(g:∀(v:V) (m:AL) (a:List Int) (H':Hp),Bt (some l) H H'->H' l=some (.lst (a.map V.int))->a.length<=cs.length->Md (K:=K) G H H' A v m (Mb (d+1)) (d+3)->Q v H')
def NK(n:Nat):Sp:=fun a H Q _=>Wa (K:=K) n a H Q
inductive Wb(n:Nat)(vs:List V)(H:Hp)(Q:VK):Prop
 |mk(G:Hp)(A:Ak)(l D nm:Addr)(ws:List V)(ys:List Str)(cs:List Int)(d:Nat)(b:vs=[.ref l,.int (d:Int),.ref D,.ref nm])(c:SU (K:=K) G H A l D nm ws ys cs)(e:2*d+8<=n)(f:∀(v:V) (m:AL) (a:List Int) (H':Hp),Bt (some l) H H'->H' l=some (.lst (a.map V.int))->a.length<=cs.length->Md (K:=K) G H H' A v m (Mb d) (d+2)->Q v H')
def Hq(n:Nat):Sp:=fun a H Q _=>Wb (K:=K) n a H Q
inductive Yg(vs:List V)(H:Hp)(Q:VK):Prop
 |mk(G:Hp)(p:Addr)(u:V)(A b:Ak)(ks:List Key)(c:vs=[.ref p,u])(s:AF G H)(a:UE A)(d:UC G p ks)(e:A.sub ks=some b)(f:Val G u b.pt)(g:∀(w:V) (m:AL) (H':Hp),AF H H'->Md (K:=K) G H H' A w m 800 2->(∀xs mm,b=.row xs mm->∃fs,m=.row fs (if mm=true then some ks else none)/\fs.length<=799)->Q w H')
def RK:Sp:=fun a H Q _=>Yg (K:=K) a H Q
inductive bh(vs:List V)(H:Hp)(Q:VK):Prop
 |mk(G:Hp)(c:Int)(k:Nat)(D:Addr)(w:Str)(A:Ak)(ws:List V)(d:vs=[.int c,.int (k:Int),.ref D,.str w])(e:k<=10)(s:AF G H)(a:UE A)(f:FD (K:=K) G A D ws)(g:w="row"∨w="table")(h:∀H',AF H H'->Q .Ah H')(i:∀(p:Addr) (ks:List Key) (b:Ak) (H':Hp),AF H H'->UG G A ws p ks b->Zq w b->Q (.ref p) H')
def SV:Sp:=fun a H Q _=>bh (K:=K) a H Q
end
namespace AL
end AL
section
variable{K:yt} [BR K]
theorem GB.but{Hf Hi:Hp}(k:GB G Hf)(nD:∀u,¬Rd G D u)(s:∀b e,b≠D->Hf b=some e->Hi b=some e):GB G Hi where
 rd:=fun b u r=>(k.rd b u r).up fun o e=>s b o (fun z=>nD u (by rw[<-z];exact r)) e
 tp:=fun b xs e=>s b _ (fun z=>nD _ (by rw[<-z];exact .inl e)) (k.tp b xs e)
end
variable{cs:List Ak}
namespace Ak
mutual
theorem SW:∀a:Ak,a.SN->a.Hu
 |any,_=>trivial
 |Ag _,_=>trivial
 |row xs _,o=>by simp only[SN]at o;simp only[Hu];exact Kl xs o.2
 |tab _ xs _ _,o=>by
  simp only[SN]at o;simp only[Hu];refine⟨fun z=>?_,Kl xs o.2.2⟩;rcases o.1 with h|h
  ·exact h.2
  ·rw[z]at h;cases h.1
theorem Kl:∀xs:List Ak,O' xs->RD xs
 |[],_=>trivial
 |x::r,o=>by simp only[O']at o;exact⟨SW x o.1,Kl r o.2⟩
end
theorem PR(m:Bool)(h:IP cs):(Be cs m).Io:=by
 unfold Be;cases m with
 |true=>rw[if_pos rfl];exact h
 |false=>
  rw[if_neg (by decide)];cases e:Dy cs with
  |some a=>trivial
  |none=>exact h
theorem PU{ss:List Str}{ls:List Str}(m:Bool)(l:ss.length+ls.length<=4)(h:IP cs):(Bf ss cs ls m).Io:=by
 unfold Bf;cases m with
 |true=>rw[if_pos rfl];exact⟨l,h⟩
 |false=>
  rw[if_neg (by decide)];cases e:Dy cs with
  |some a=>trivial
  |none=>exact⟨by rw[List.length_nil];lia,h⟩
mutual
theorem Good.Io:∀{a b:Ak},Good a b->a.CF->a.Io->b.Io
 |_,_,.any,_,_=>trivial
 |_,_,.Ag _,_,_=>trivial
 |_,_,.row (m:=m) h,o,s=>by
  simp only[Ak.CF]at o;simp only[Ak.Io]at s;exact PR m (h.Io (Bd o) (KO s))
 |_,_,.tab (m:=m) d k e h,o,s=>by
  simp only[Ak.CF]at o;simp only[Ak.Io]at s;obtain⟨g,i,l,n,p,q,j⟩:=o;have f:=CV g i d e;exact PU m (by rw[d.length_eq];exact s.1) (h.Io (fun x c=>Bd j x (f.mem_iff.mp c)) (fun x c=>KO s.2 x (f.mem_iff.mp c)))
theorem DQ.Io:∀{as cs:List Ak},DQ as cs->(∀a∈as,a.CF)->(∀a∈as,a.Io)->IP cs
 |_,_,.nil,_,_=>trivial
 |_,_,.cons h r,o,s=>⟨h.Io (o _ List.mem_cons_self) (s _ List.mem_cons_self),r.Io (fun x b=>o x (List.mem_cons_of_mem _ b)) (fun x b=>s x (List.mem_cons_of_mem _ b))⟩
end
end Ak
theorem MH(l:ks.length<=200):(Dw ks).nice:=by
 unfold Dw;simp only[Pt.nice];refine⟨by rw[List.length_map];lia,Pt.HP fun x a=>?_⟩;obtain⟨k,_,rfl⟩:=List.mem_map.mp a;cases k<;>trivial
theorem Ic:∀ks:List Key,Pt.AJ (ks.map dS)<=1
 |[]=>by simp[Pt.AJ]
 |k::r=>by
  have:=Ic r;cases k<;>simp only[List.map_cons,dS,Pt.AJ,Pt.deep]<;>lia
theorem PV(h:AL.lI o):(FP o).nice:=by
 cases o with
 |none=>trivial
 |some a=>exact MH h
theorem PX(o:Option (List Key)):(FP o).deep<=2:=by
 cases o with
 |none=>simp only[FP,Pt.deep];lia
 |some a=>have:=Ic a;simp only[FP,Dw,Pt.deep];lia
namespace AL
mutual
theorem nice:∀m:AL,m.ok->m.pt.nice
 |IX p,o=>by
  simp only[ok]at o;simp only[pt,Pt.nice,Pt.CC];exact⟨by simp,trivial,MH o,trivial⟩
 |JL d,o=>by
  simp only[ok]at o;simp only[pt,Pt.nice,Pt.CC];exact⟨by simp,trivial,Pt.Fg d o.1 o.2.1,trivial⟩
 |row xs t,o=>by
  simp only[ok]at o;simp only[pt,Pt.nice,Pt.CC];exact⟨by simp,trivial,⟨by rw[AW,List.length_map];exact o.1,CC xs o.2.2⟩,PV o.2.1,trivial⟩
 |tab ks xs t,o=>by
  simp only[ok]at o;simp only[pt,Pt.nice,Pt.CC];exact⟨by simp,trivial,⟨by rw[AW,List.length_map];exact o.1,o.2.1,by lia,CC xs o.2.2.2.2⟩,PV o.2.2.2.1,trivial⟩
theorem CC:∀xs:List AL,DW xs->Pt.CC (CO xs)
 |[],_=>trivial
 |x::r,o=>by simp only[DW]at o;exact⟨nice x o.1,CC r o.2⟩
end
mutual
theorem SX:∀m:AL,m.ok->m.pt.deep<=2*m.deep+30
 |IX p,o=>by have:=Ic p;simp only[pt,Pt.deep,Pt.AJ,Dw,deep];lia
 |JL d,o=>by simp only[ok]at o;simp only[pt,Pt.deep,Pt.AJ,deep];lia
 |row a t,o=>by simp only[ok]at o;have:=Km a o.2.2;have:=PX t;simp only[pt,Pt.deep,Pt.AJ,deep];lia
 |tab b a t,o=>by simp only[ok]at o;have:=Km a o.2.2.2.2;have:=PX t;simp only[pt,Pt.deep,Pt.AJ,deep];lia
theorem Km:∀xs:List AL,DW xs->Pt.AJ (CO xs)<=2*AJ xs+30
 |[],_=>by simp[CO,Pt.AJ]
 |x::r,o=>by simp only[DW]at o;have:=SX x o.1;have:=Km r o.2;simp only[CO,Pt.AJ,AJ];lia
end
end AL
def DH(Z:List Addr)(H:Hp):Hp:=fun b=>if b∈Z then none else H b
def QF(Z:List Addr)(F H:Hp):Hp:=fun b=>if b∈Z then F b else H b
variable{Z:List Addr}{b:Addr}
theorem Ie(h:b∈Z):DH Z H b=none:=if_pos h
theorem BX(h:b∉Z):DH Z H b=H b:=if_neg h
theorem Iv{F:Hp}(h:b∈Z):QF Z F H b=F b:=if_pos h
theorem CQ{F:Hp}(h:b∉Z):QF Z F H b=H b:=if_neg h
theorem C'(h:H b=none):DH Z H b=none:=by unfold DH;split<;>first|rfl|exact h
theorem PY{o:HO}(h:DH Z H b=some o):b∉Z/\H b=some o:=by
 by_cases z:b∈Z
 ·rw[Ie z]at h;cases h
 ·rw[BX z]at h;exact⟨z,h⟩
def Yh(Z:List Addr)(F:Hp)(h:Heap):Prop:=∀b∈Z,∃o,F b=some (.Ba o (.own 0))/\h.get? b=some o
section
variable{P:Program} {w:World} {H F A B:Hp} {h h':Heap} {Z fs ex:List Addr}
theorem EN.off(ok:EN P w H h)(z:Yh Z H h):EN P w (DH Z H) h:=fun b o e=>by
 obtain⟨d,e⟩:=PY e;have a:∀c u,H c=some u->(∀o,u≠.Ba o (.own 0))->DH Z H c=some u:=fun c u r n=>by
  rw[BX (fun m=>let⟨o,q,_⟩:=z c m;n o (yq (r.symm.trans q)))];exact r
 exact(ok b o e).LF (fun c u _ q=>q) (fun c r=>a c _ r fun o q=>nomatch q) fun c f r=>a c _ r fun o q=>nomatch q
theorem EN.on(ok:EN P w H h)(n:∀b∈Z,H b=none)(z:Yh Z F h):EN P w (QF Z F H) h:=fun b o e=>by
 have d:∀c u,H c=some u->QF Z F H c=some u:=fun c u r=>by
  rw[CQ (fun m=>by rw[n c m]at r;cases r)];exact r
 by_cases a:b∈Z
 ·rw[Iv a]at e;obtain⟨f,q,g⟩:=z b a;rw[q]at e;cases e;exact⟨g,f,g⟩
 ·rw[CQ a]at e;exact(ok b o e).LF (fun c u _ q=>q) (fun c r=>d c _ r) fun c i r=>d c _ r
theorem Un.off(u:Un fs ex (QF Z F A) B h h')(n:∀b∈Z,A b=none)(z:Yh Z F h)(ok:EN P w B h')(zf:∀b∈Z,b∉fs):Un fs ex A (DH Z B) h h' where
 keep b o q nb hb hx:=by
  by_cases hz:b∈Z
  ·obtain⟨ob,q1,g⟩:=z b hz;have:=u.EO b ob _ (by rw[Iv hz];exact q1);rw[g]at q;cases q;exact(ok b _ this).1
  ·exact u.keep b o q (by rw[CQ hz];exact nb) hb hx
 slot b o q nb hb hx:=u.slot b o q (by rw[CQ (fun m=>zf b m hb)];exact nb) hb hx
 free b o q nb hx:=by
  by_cases hz:b∈Z
  ·exact Ie hz
  ·rw[BX hz];exact u.free b o q (by rw[CQ hz];exact nb) hx
 there:=u.there
 GU b xs q:=by
  have hz:b∉Z:=fun m=>by rw[n b m]at q;cases q
  rw[BX hz];exact u.GU b xs (by rw[CQ hz];exact q)
 EO b o v q:=by
  have hz:b∉Z:=fun m=>by rw[n b m]at q;cases q
  rw[BX hz];exact u.EO b o v (by rw[CQ hz];exact q)
 GV b ps q:=by
  have hz:b∉Z:=fun m=>by rw[n b m]at q;cases q
  rw[BX hz];exact u.GV b ps (by rw[CQ hz];exact q)
theorem Un.on(u:Un fs ex (DH Z A) B h h')(z:Yh Z A h)(zf:∀b∈Z,b∉fs)(zx:∀b∈Z,b∉ex):Un fs ex A (QF Z A B) h h' where
 keep b o q nb hb hx:=u.keep b o q (C' nb) hb hx
 slot b o q nb hb hx:=u.slot b o q (C' nb) hb hx
 free b o q nb hx:=by
  have hz:b∉Z:=fun m=>by obtain⟨_,q1,_⟩:=z b m;rw[nb]at q1;cases q1
  rw[CQ hz];exact u.free b o q (C' nb) hx
 there:=u.there
 GU b xs q:=by
  have hz:b∉Z:=fun m=>by obtain⟨_,q1,_⟩:=z b m;rw[q]at q1;cases q1
  rw[CQ hz];exact u.GU b xs (by rw[BX hz];exact q)
 EO b o v q:=by
  by_cases hz:b∈Z
  ·rw[Iv hz];exact q
  ·rw[CQ hz];exact u.EO b o v (by rw[BX hz];exact q)
 GV b ps q:=by
  have hz:b∉Z:=fun m=>by obtain⟨_,q1,_⟩:=z b m;rw[q]at q1;cases q1
  rw[CQ hz];exact u.GV b ps (by rw[BX hz];exact q)
theorem Un.fz(u:Un fs ex (DH Z A) B h h')(z:Yh Z A h)(c:∀b∈Z,b∉fs)(a:∀b∈Z,b∉ex):Yh Z A h'/\∀b∈Z,B b=none:=
 ⟨fun b m=>let⟨o,q,g⟩:=z b m;⟨o,q,u.keep b o g (Ie m) (c b m) (a b m)⟩,fun b m=>let⟨o,q,g⟩:=z b m;u.free b o g (Ie m) (a b m)⟩
end
structure SY(ps fs:List Str)(sc:Scope):Prop where
 kind:sc.kind=.function:=by rfl
 co:sc.isCoroutine=false:=by rfl
 gen:sc.isGenerator=false:=by rfl
 nd:ps.Nodup:=by decide+kernel
 par:∀x∈ps,sc.names.lookup x=some .local:=by decide+kernel
 fr:∀x∈fs,sc.names.lookup x=some .free:=by decide+kernel
 nc:∀y∈sc.names,y.2≠.cell:=by decide+kernel
 af:∀y∈sc.names,y.2=.free->y.1∈fs:=by decide+kernel
structure PZ(H:Hp)(f:Addr)(qual:Str)(params:Arguments)(body:Expr)(scope:Scope)(cl:List (Str×Addr))(pm:Value)(c:Addr)(ctv:Value)(fs:List Str)(ws:List V):Prop where
 fn:∃u,H f=some (.Ba (PySem.W.kla_obj "<lambda>" qual params body scope cl pm c ctv) u)
 code:∃oc u xs t,H c=some (.Ba oc u)/\oc.data=.fields xs/\xs[1]?=some (.str qual t)
 has:∀x∈fs,∃c,cl.lookup x=some c
 inj:∀x y c,cl.lookup x=some c->cl.lookup y=some c->x=y
 fz:∀c∈cl.map (·.2),∃o v,H c=some (.Ba o (.own 0))/\o.data=.cell v
 val:∀(i:Nat) x v,fs[i]?=some x->ws[i]?=some v->∃c o u,cl.lookup x=some c/\H c=some (.Ba o (.own 0))/\o.data=.cell (some u)/\RelV v u
 len:ws.length=fs.length
variable{cl:List (Str×Addr)}{params:Arguments}{scope:Scope}{qual:Str}{body:Expr}{pm ctv:Value}
theorem PZ.up{fs:List Str}(h:PZ H f qual params body scope cl pm c ctv fs ws)(s:AF H H'):PZ H' f qual params body scope cl pm c ctv fs ws:=
 ⟨let⟨u,e⟩:=h.fn;⟨u,s _ _ e⟩,let⟨d,u,g,t,e,r⟩:=h.code;⟨d,u,g,t,s _ _ e,r⟩,h.has,h.inj,fun c m=>let⟨o,v,e,r⟩:=h.fz c m;⟨o,v,s _ _ e,r⟩,
  fun i x v a b=>let⟨c,o,u,j,e,r⟩:=h.val i x v a b;⟨c,o,u,j,s _ _ e,r⟩,h.len⟩
theorem Kn{x:Str}{u:Value}:∀{ps:List Str}{us:List Value}{i:Nat},ps.Nodup->ps[i]?=some x->us[i]?=some u->(ps.zip us).reverse.lookup x=some u
 |[],_,_,_,h,_=>by simp at h
 |_::_,[],_,_,_,h=>by simp at h
 |p::ps,w::us,0,nd,a,b=>by
  simp at a b;subst a;subst b;have c:∀l:List (Str×Value),(∀v,(p,v)∉l)->l.lookup p=none:=fun l=>by
   induction l with
   |nil=>intro _;rfl
   |cons y r d=>
    intro h;rw[List.lookup_cons];have:(p==y.1)=false:=by
     cases e:p==y.1 with
     |false=>rfl
     |true=>exact absurd List.mem_cons_self (by have:=h y.2;rw[eq_of_beq e]at this;exact this)
    rw[this];exact d fun v m=>h v (List.mem_cons_of_mem _ m)
  rw[List.zip_cons_cons,List.reverse_cons,List.lookup_append,c _ fun v m=>(List.nodup_cons.mp nd).1 (List.of_mem_zip (List.mem_reverse.mp m)).1];simp
 |p::ps,w::us,i+1,nd,a,b=>by
  rw[List.zip_cons_cons,List.reverse_cons,List.lookup_append,Kn (i:=i) (List.nodup_cons.mp nd).2 (by simpa using a) (by simpa using b)];rfl
variable{mg:Str->Option Value}{x:Str}{ps:List Str}{P:Program}{K:yt}{w:World}{st:Stmt}{sp:Sp}{base:Heap}
theorem Co.tE{b:FuncData}{N:List Str}{k:Nat}(F:Co K x qual st f b)(i:b.code=.ref c)(S:AZ N ps (AM st))(len:∀vs H Q E,sp vs H Q E->vs.length=ps.length)(a:∀(A:Around) (outer:List Env) (s:Shared) (H:Hp) (vs:List V) (Q:VK) (E:XK),Bi k (A.deeper (envOfC qual (AM st) s.heap.objs.size f (.ref c)))->sp vs H Q E->
   ∃t,QC (MU CK P w K mg base N qual (AM st) f (.ref c) A outer s H E).ZS (Cg st) t/\t {nx:=fun _ j=>Q .Ah j,rt:=Q} (start N vs) H):Au P w K mg base CK (k+1) f b ps sp:=by
 obtain⟨n,o,kV,doc,p,r,d,u,l,rfl,lk,e⟩:=F.ex;cases(show d=.ref c from i);refine ZV lk e S len fun A outer s H vs Q E m g=>?_;obtain⟨t,h,q⟩:=a A outer s H vs Q E m g;exact⟨t,h.ZS,q⟩
def ib(P:Program)(w:World)(K:yt)(mg:Str->Option Value)(base:Heap)(N:List Str)(qual:Str)(scope:Scope)(f:Addr)(cd:Value)(cl:List (Str×Addr))(A:Around)(outer:List Env)(s:Shared)(H:Hp):Cx where
 prog:=P
 w:=w
 K:=K
 mg:=mg
 base:=base
 A:=A.deeper (PySem.W.envX qual scope s.heap.objs.size f cd cl)
 N:=N
 s₀:=s
 H₀:=H
 env:=PySem.W.envX qual scope s.heap.objs.size f cd cl
 outer:=outer
 stack:=PySem.W.envX qual scope s.heap.objs.size f cd cl::outer
 ex:=[]
 calm:=true
 fn:=fun _=>false
 pn:=[]
 xe:=fun _ _=>False
theorem bj{k:Nat}{fs:List Str}(S:SY ps fs scope)(len:∀vs H Q E,sp vs H Q E->vs.length=ps.length)(B:∀vs H Q E,sp vs H Q E->∃ws,PZ H f qual params body scope cl pm c ctv fs ws/\∀(A:Around) (outer:List Env) (s:Shared),Bi k (A.deeper (PySem.W.envX qual scope s.heap.objs.size f (.ref c) cl))->
   ∃t,PE (ib P w K mg base (ps++fs) qual scope f (.ref c) cl A outer s (DH (cl.map (·.2)) H)) body t/\t (vs.map some++ws.map some) (DH (cl.map (·.2)) H) fun v H'=>(∀b∈cl.map (·.2),H' b=none)->Q v (QF (cl.map (·.2)) H H')):
  Au P w K mg base CK (k+1) f (PySem.W.kla_fn "<lambda>" qual params body scope cl pm (.ref c) ctv) ps sp:=by
 refine⟨len,fun A outer s H args us vs Q E N g O r C=>?_⟩;have R:=len _ _ _ _ C;obtain⟨ws,L,hB⟩:=B _ _ _ _ C;have T:s.heap.NoLimit:=g.mod.nolimit.keeps fun b o e=>(g.bs b o e).1;obtain⟨uf,hf⟩:=L.fn;have gf:=(g.Ax f _ hf).1;obtain⟨oc,uc,xs,tt,hc,U,V⟩:=L.code;have gc:=(g.Ax c _ hc).1;have M:Yh (cl.map (·.2)) H s.heap:=fun b m=>let⟨o,v,e,_⟩:=L.fz b m;⟨o,e,(g.Ax b _ e).1⟩;have D:∀b∈cl.map (·.2),b∉Rc outer:=fun b m B=>by
  obtain⟨o,e,_⟩:=M b m;rw[g.Xi b B]at e;cases e
 refine PySem.W.kla_callFunE N.depth gf rfl S.co S.gen rfl ⟨c,oc,xs,tt,rfl,gc,U,V⟩ (O _ _ _ _ ?_);refine wpAny_newFunctionEnv S.nc (fun y n=>S.par y.1 (List.of_mem_zip n).1) (fun j X Y=>?_) S.kind;have F:∀b o,s.heap.get? b=some o->j.get? b=some o:=fun b o e=>Y.extBut b o (Nat.ne_of_lt (Heap.lt_size e)) (Heap.get?_push_of_some _ e);refine⟨T.keeps F,?_⟩;show codeAny _ _ (.expr body (PySem.W.envX qual scope s.heap.objs.size f (.ref c) cl)) _ _;obtain⟨t,ht,hq⟩:=hB A outer s (N.deeper _);have x:∀b:Addr,b∉(ib P w K mg base (ps++fs) qual scope f (.ref c) cl A outer s (DH (cl.map (·.2)) H)).ex:=fun b z=>absurd (show b∈([]:List Addr)from z) (by simp);have I:Inv (ib P w K mg base (ps++fs) qual scope f (.ref c) cl A outer s (DH (cl.map (·.2)) H)) [] (vs.map some++ws.map some) (DH (cl.map (·.2)) H) {s with heap:=j,toks:=s.toks+(ps.zip us).length}:=by
  refine⟨⟨g.mod,S.kind,rfl,rfl,Nat.le_refl _,L.inj,fun y n=>?_,fun y c z=>(nomatch z),fun _=>N.hd,Around.frames_deeper g.frames,.inr ⟨rfl,rfl⟩,fun b z=>absurd z (x b),fun b o e=>⟨(g.bs b o e).1,C' (g.bs b o e).2⟩,g.S_,fun b _ _=>x b,fun b z=>absurd z (x b),g.Gv,fun b B=>C' (g.Xi b B)⟩,
   rfl,g.bare,Un.kept F,⟨_,X,fun i y v j l h3=>?_⟩,fun y c h=>?_,C' (g.Ax.fresh (Nat.le_refl _)),fun y c h=>Ie (List.mem_map.mpr ⟨_,PySem.mem_of_lookup h,rfl⟩),fun p hp=>absurd (show p∈([]:List (Addr×Obj))from hp) (by simp),(g.Ax.off M).kept F,?_⟩
  ·have n:scope.names.lookup y=some .cell∨scope.names.lookup y=some .free:=n;rcases n with n|n
   ·exact absurd rfl (S.nc _ (PySem.mem_of_lookup n))
   ·exact L.has y (S.af _ (PySem.mem_of_lookup n) rfl)
  ·have j:(ps++fs)[i]?=some y:=j;by_cases Z:i<ps.length
   ·rw[List.getElem?_append_left Z]at j;rw[List.getElem?_append_left (by simpa[R]using Z),List.getElem?_map]at l;cases e:vs[i]? with
    |none=>rw[e]at l;cases l
    |some a=>
     rw[e]at l;cases l;obtain⟨u,hu,G⟩:=r.get e;exact⟨u,G,.inl ⟨S.par y (yr j),Kn S.nd j hu⟩⟩
   ·rw[List.getElem?_append_right (by lia)]at j;rw[List.getElem?_append_right (by rw[List.length_map];lia),List.getElem?_map,List.length_map,R]at l;cases e:ws[i-ps.length]? with
    |none=>rw[e]at l;cases l
    |some a=>
     rw[e]at l;cases l;obtain⟨c,o,u,e1,e2,e3,G⟩:=L.val _ _ _ j e;exact⟨u,G,.inr ⟨.inr (S.fr y (yr j)),c,e1,o,F _ _ (g.Ax c _ e2).1,e3⟩⟩
  ·obtain⟨o,v,e,d⟩:=L.fz c (List.mem_map.mpr ⟨_,PySem.mem_of_lookup h,rfl⟩);exact⟨v,o,F _ _ (g.Ax c _ e).1,d⟩
  ·show _=(ps++fs).length;rw[List.length_append,List.length_map,List.length_map,List.length_append,R,L.len]
 refine PySem.W.kla_codeExpr (wpAny_mono (ht [] _ _ _ _ I hq) (fun u s' h=>?_) fun e s' h=>False.elim h);obtain⟨v,H',J,G,q⟩:=h;have un:Un (Rc outer) [] (DH (cl.map (·.2)) H) H' s.heap s'.heap:=J.base;obtain⟨z1,z2⟩:=un.fz M D (fun b _=>by simp);exact⟨v,_,J.os,J.bare,un.on M D (fun b _=>by simp),EN.on J.Ax z2 z1,G,q z2⟩
theorem PZ.ok{k:Nat}{fs:List Str}{us:List V}(_:PZ G f qual params body scope cl pm c ctv fs us)(S:SY ps fs scope)(len:∀vs H Q E,sp vs H Q E->vs.length=ps.length)(a:∀vs H Q E,sp vs H Q E->∃ws,PZ H f qual params body scope cl pm c ctv fs ws/\∀(A:Around) (outer:List Env) (s:Shared),Bi k (A.deeper (PySem.W.envX qual scope s.heap.objs.size f (.ref c) cl))->
   ∃t,PE (ib P w K mg base (ps++fs) qual scope f (.ref c) cl A outer s (DH (cl.map (·.2)) H)) body t/\t (vs.map some++ws.map some) (DH (cl.map (·.2)) H) fun v H'=>(∀b∈cl.map (·.2),H' b=none)->Q v (QF (cl.map (·.2)) H H')):
  Au P w K mg base CK (k+1) f (PySem.W.kla_fn "<lambda>" qual params body scope cl pm (.ref c) ctv) ps sp:=bj S len a
def lM(K:yt)(H:Hp)(f:Addr):Prop:=PySem.W.keepIn K (.ref f)=true∨∃o u a,H f=some (.Ba o u)/\o.data=.func a
variable{X:Cx}
theorem Inv.tF{a:St}(I:Inv X pins a H s)(h:lM X.K X.H₀ f):∃k,(k=Keeper.frame∨k=Keeper.machine∨k=Keeper.boundFrame)/\PySem.W.Looks (model X.prog X.w) s.heap (keeperOf (.ref f)) k:=by
 rcases h with h|⟨o,u,b,e,d⟩
 ·exact PySem.W.keeps_K h _ I.GP
 ·have g:=(I.Ax f _ (I.base.EO f o u e)).1;obtain⟨c,i,j,l⟩:=o;cases d;exact⟨.frame,.inl rfl,(PySem.W.Looks.ld (part:=none) g).andThen .now⟩
section
variable{X:Cx} {CX:Ub} {k:Nat} {f:Addr} {fd:FuncData} {ps:List Str} {sp:Sp} {QD:List V} {ds:List Value} {E:XK} {x:Str} {p pos:Pos} {e:Expr} {es:List Expr} {t:TA} {tf:TE}
theorem Wc(i:PE X (.Name x p) tf)(F:Au X.prog X.w X.K X.mg X.base CX k f fd ps sp)(j:Bi k X.A)(l:lM X.K X.H₀ f)(m:Binds X.K fd ps ds)(n:Vals QD ds)(o:Passes CX X E)(y:PA X (e::es) t)(B:starEach (e::es) X.env=(false,eval e X.env)::starEach es X.env:=by rfl)(c:(backTo pos (starEach es X.env)).any (·.1)=false:=by rfl):
  PE X (.Call (.Name x p) (e::es) [] pos) (fun b H Q=>tf b H fun v d=>v=.ref f/\Lb sp QD E t b d Q):=by
 intro pins s b H Q I h;refine wpAny_Call_Name_kw (BK (i pins s b H _ I h) fun u C ⟨v,D,G,J,L,q⟩=>?_);subst L;cases(show u=Value.ref f from J);have a:=y pos pins C b D _ G q;rw[B]at a⊢;refine PySem.W.callWith_of (P:=fun h=>∃k,(k=Keeper.frame∨k=Keeper.machine∨k=Keeper.boundFrame)/\PySem.W.Looks (model X.prog X.w) h (keeperOf (.ref f)) k) (by show((false||(backTo pos (starEach es X.env)).any (·.1))||false)=false;rw[c];rfl) (fun _ z=>z) (Calls.evalArgs_plain (BK a fun N O M=>M.elim fun R d g r q=>⟨g.tF l,?_⟩));exact QS F j m n o g r q
structure tG(X:Cx)(σ:St)(H F:Hp):Prop where
 iY:∀x c,X.env.cells.lookup x=some c->∃o v,F c=some (.Ba o (.own 0))/\o.data=.cell v
 val:∀(i:Nat) x v c,X.N[i]?=some x->σ[i]?=some (some v)->X.env.kindOf x=some .cell->X.env.cells.lookup x=some c->∃o u,F c=some (.Ba o (.own 0))/\o.data=.cell (some u)/\RelV v u
 Ah:∀x c,X.env.cells.lookup x=some c->H c=none
 inj:∀x y c,X.env.cells.lookup x=some c->X.env.cells.lookup y=some c->x=y
def EM(X:Cx):List Addr:=X.env.cells.filterMap fun p=>if X.env.cells.lookup p.1=some p.2 then some p.2 else none
theorem CS:c∈EM X↔∃x,X.env.cells.lookup x=some c:=by
 unfold EM;rw[List.mem_filterMap];constructor
 ·rintro⟨⟨x,d⟩,_,e⟩;split at e
  ·rename_i h;cases e;exact⟨x,h⟩
  ·cases e
 ·rintro⟨x,h⟩;exact⟨(x,c),PySem.mem_of_lookup h,by rw[if_pos h]⟩
def MI(h:Heap):Hp:=fun b=>(h.get? b).map fun o=>.Ba o (.own 0)
theorem We(F:Au X.prog X.w X.K X.mg X.base CX k f fd ps sp)(hr:Bi k X.A)(hg:Gl X x)(hm:X.mg x=some (.ref f))(hk:PySem.W.keepIn X.K (.ref f)=true)(a:Binds X.K fd ps ds)(hd:Vals QD ds)(g:CX=CK)(ha:PA X (e::es) t)(y:∀x,X.fn x=true:=by intro _;rfl)(O:(x==("__debug__":Str))=false:=by decide)(he:starEach (e::es) X.env=(false,eval e X.env)::starEach es X.env:=by rfl)(P:(backTo pos (starEach es X.env)).any (·.1)=false:=by rfl):
  PE X (.Call (.Name x p) (e::es) [] pos) (fun L H Q=>t L H fun M B=>∀F,tG X L B F->sp (M++QD) (QF (EM X) F B) (fun w H2=>Q w (DH (EM X) H2)) fun _ _ _=>False):=by
 intro pins s L H Q I h;refine wpAny_Call_Name_kw (MQ I hg hm ?_ O);refine PySem.W.callWith_K (h₀:=X.base) I.ok.mod.dE hk (BK (ha pos pins s L H _ I h) fun C n zq=>zq.elim fun M B J r q=>⟨J.GP,?_⟩) he P;have R:Yh (EM X) (MI n.heap) n.heap:=fun b m=>by
  obtain⟨x,g⟩:=CS.mp m;obtain⟨v,o,j,_⟩:=J.cell x b g;exact⟨o,by unfold MI;rw[j];rfl,j⟩
 have Y:∀b∈EM X,B b=none:=fun b m=>let⟨x,g⟩:=CS.mp m;J.DU x b g;have q:=q (MI n.heap) ⟨fun x c S=>by
   obtain⟨v,o,j,d⟩:=J.cell x c S;exact⟨o,v,by unfold MI;rw[j];rfl,d⟩,fun i x v c h1 h2 Z h4=>by
   obtain⟨m,hn,T⟩:=J.loc;obtain⟨u,U,l⟩:=T i x v h1 h2 (.inr (.inl Z));rcases l with⟨l,_⟩|⟨_,c',N,o,j,d⟩
   ·rw[Z]at l;cases l
   ·rw[h4]at N;cases N;exact⟨o,u,by unfold MI;rw[j];rfl,d,U⟩,fun x c S=>J.DU x c S,J.ok.inj⟩
 have D:∀b∈EM X,b∉Rc X.stack:=fun b m a=>by
  obtain⟨x,g⟩:=CS.mp m;rcases List.mem_cons.mp (J.Jh b a)with z|z
  ·exact J.ZR x b g z
  ·obtain⟨_,o,j,_⟩:=J.ok.Gv.mem z;exact absurd (Nat.lt_of_lt_of_le (Heap.lt_size j) (J.ok.aF x b (y x) g)) (Nat.lt_irrefl _)
 have e0:Uu X.prog X.w X.K X.mg X.base X.A X.stack n (QF (EM X) (MI n.heap) B):=by
  have E:=J.eX;refine⟨E.frames,E.mod,fun b o a=>⟨(E.bs b o a).1,?_⟩,E.S_,E.Gv,fun b a=>by rw[CQ (fun m=>D b m a)];exact E.Xi b a,E.Ax.on Y R,E.bare⟩;rw[CQ (fun m=>?_)]
  ·exact(E.bs b o a).2
  ·obtain⟨x,g⟩:=CS.mp m;have:=J.ok.aF x b (y x) g;exact absurd (Nat.lt_of_lt_of_le (Heap.lt_size a) (Nat.le_trans J.ok.S_ this)) (Nat.lt_irrefl _)
 have r2:Vals (M++QD) (C++ds):=r.append hd;have T:(C++ds).length=ps.length:=by rw[<-r2.length];exact F.len _ _ _ _ q
 refine wpAny_call (codeAny_mono (F.run X.A X.stack n _ ⟨C,[]⟩ (C++ds) (M++QD) _ _ hr e0 (a n C J.GP T) r2 q) fun r s' G=>?_);cases r with
 |error e=>subst g;exact False.elim G
 |ok fl=>
  cases fl with
  |ret u=>
   obtain⟨v,H',os,bare,un,Ax,U,q⟩:=(show CE _ _ _ _ _ _ _ _ from G);have zB:Yh (EM X) H' s'.heap:=fun b m=>by
    obtain⟨o,N,_⟩:=R b m;have e2:=un.EO b o _ (by rw[Iv m];exact N);exact⟨o,e2,(Ax b _ e2).1⟩
   exact J.after ⟨v,_,os,bare,un.off Y R Ax D,Ax.off zB,U,q⟩
  |next=>exact False.elim G
  |brk=>exact False.elim G
  |cont=>exact False.elim G
end
def BM(mg:Str->Option Value)(h:Heap):Prop:=∃b a,mg "__builtins__"=some (.ref b)/\b≠builtinsNs/\h.get? b=some a/\a.cls=.type "module"/\a.dict=some builtinsNs/\a.data=.plain
inductive Gm(pos:Pos)(qual:Str)(T:Addr)(H:Hp):Prop
 |new (h:H T=some (.Nl #[]))
 |old (c:Addr) (a:Obj) (xs:Array Value) (t:Tok) (h:H T=some (.Nl #[rawInt pos.line,rawInt pos.col,.ref c])) (b:H c=some (.Ba a (.own 0))) (d:a.data=.fields xs) (n:xs[1]?=some (.str qual t))
variable{T:Addr}
theorem Gm.up{pos:Pos}(h:Gm pos qual T H)(s:AF H H'):Gm pos qual T H':=by
 cases h with
 |new h=>exact .new (s _ _ h)
 |old c a b t h e d n=>exact .old c a b t (s _ _ h) (s _ _ e) d n
inductive gH(T:Addr)(pos:Pos)(qual:Str)(params:Arguments)(body:Expr)(scope:Scope)(cl:List (Str×Addr))(H:Hp)(Q:VK):Prop
 |mk(d:Gm pos qual T H)(e:∀(f c:Addr) (pm ctv:Value) (H':Hp),(∀b o,b≠T->H b=some o->H' b=some o)->H f=none->Gm pos qual T H'->H' f=some (.Ba (PySem.W.kla_obj "<lambda>" qual params body scope cl pm c ctv) (.own 0))->(∃a u xs t,H' c=some (.Ba a u)/\a.data=.fields xs/\xs[1]?=some (.str qual t))->Q (.ref f) H')
def lN(T:Addr)(pos:Pos)(qual:Str)(params:Arguments)(body:Expr)(scope:Scope)(cl:List (Str×Addr)):TE:=fun _ H Q=>gH T pos qual params body scope cl H Q
theorem bq{pos:Pos}(j:X.env.code=.ref c)(hC:PySem.W.codeHdIn X.K c T=true)(hB:BM X.mg X.base)(x:closureFor scope X.env=pure cl)(y:defaultsOf params X.env=([],[])):
  PE X (.Lambda params body scope pos) (lN T pos (X.env.qual++"<lambda>") params body scope cl):=by
 intro pins s σ H Q I ⟨x0,x1⟩;refine PySem.W.kla_eval y ?_;have hT:∃U,H T=some (.Nl U):=by
  cases x0 with
  |new h=>exact⟨_,h⟩
  |old c m A t h V d n=>exact⟨_,h⟩
 have C:=PySem.W.codeHd_of_K I.GP hC;have g:=I.mod.glob.keeps I.bk;have nT:∀b o,X.base.get? b=some o->b≠T:=fun b o e z=>by
  obtain⟨U,N⟩:=hT;rw[<-z,(I.bs b o e).2]at N;cases N
 have gT:mainGlobals≠T:=by
  obtain⟨o,es,ep,e,_⟩:=I.mod.glob;exact nT _ _ e
 have hb:s.heap.BuiltinsAt X.mg T:=by
  obtain⟨bm,ob,b1,b2,O,b4,b5,Y⟩:=hB;refine⟨bm,ob,b1,b2,fun z=>?_,nT _ _ O,I.bk _ _ O,b4,b5,Y⟩;obtain⟨o,es,ep,e,d,_⟩:=I.mod.glob;rw[z,e]at O;cases O;rw[d]at Y;cases Y
 cases x0 with
 |new h=>
  have Z:s.heap.get? T=some (PySem.W.tabObj #[]):=I.Ax T _ h;refine PySem.W.kla_makeFunction (mg:=X.mg) x I.ok.glob g j C Z trivial rfl gT hb fun a f i tk hx p B D E=>?_;obtain⟨c₂,m,vs,t,N,F,hd,hv⟩:=D;cases N;have G:s.heap.objs.size<=i.objs.size:=Nat.le_trans p (Nat.le_of_lt B);have nc:H a=none:=I.Ax.fresh p;have nf:H i.objs.size=none:=I.Ax.fresh G;have cT:a≠T:=fun z=>by rw[z,h]at nc;cases nc
  have fT:i.objs.size≠T:=fun z=>by rw[z,h]at nf;cases nf
  have fc:i.objs.size≠a:=Nat.ne_of_gt B;generalize v:upd (upd (upd H T (.Nl (#[]++ #[rawInt pos.line,rawInt pos.col,.ref a]))) a (.Ba m (.own 0))) i.objs.size (.Ba (PySem.W.kla_obj "<lambda>" (X.env.qual++"<lambda>") params body scope cl ((X.mg "__name__").getD .none) a f) (.own 0))=k;have CD:∀b o,b≠T->H b=some o->k b=some o:=fun b o n e=>by
   rw[<-v,AH (Aj e nf),AH (Aj e nc),AH n];exact e
  have atT:k T=some (.Nl (#[]++ #[rawInt pos.line,rawInt pos.col,.ref a])):=by rw[<-v,AH fT.symm,AH cT.symm,AD]
  have q:k a=some (.Ba m (.own 0)):=by rw[<-v,AH fc.symm,AD]
  have J:k i.objs.size=some (.Ba (PySem.W.kla_obj "<lambda>" (X.env.qual++"<lambda>") params body scope cl ((X.mg "__name__").getD .none) a f) (.own 0)):=by rw[<-v,AD]
  have B':∀b,b<s.heap.objs.size->H b=none->k b=none:=fun b l e=>by
   rw[<-v,AH (Nat.ne_of_lt (Nat.lt_of_lt_of_le l G)),AH (Nat.ne_of_lt (Nat.lt_of_lt_of_le l p)),AH (fun z=>by rw[z,h]at e;cases e)];exact e
  have tH:∀b o,k b=some o->(b≠T/\b≠a/\b≠i.objs.size/\H b=some o)∨b=T∨b=a∨b=i.objs.size:=fun b o e=>by
   by_cases L:b=T
   ·exact .inr (.inl L)
   by_cases P:b=a
   ·exact .inr (.inr (.inl P))
   by_cases R:b=i.objs.size
   ·exact .inr (.inr (.inr R))
   rw[<-v,AH R,AH P,AH L]at e;exact .inl ⟨L,P,R,e⟩
  have keep:∀b o,b≠T->s.heap.get? b=some o->(i.push (PySem.W.kla_obj "<lambda>" (X.env.qual++"<lambda>") params body scope cl ((X.mg "__name__").getD .none) a f)).get? b=some o:=fun b o n e=>Heap.get?_push_of_some _ (hx b o n e);have un:Un X.fs [] H k s.heap (i.push (PySem.W.kla_obj "<lambda>" (X.env.qual++"<lambda>") params body scope cl ((X.mg "__name__").getD .none) a f)):=
   ⟨fun b o e n _ _=>keep b o (fun z=>by rw[z,h]at n;cases n) e,fun b o e n _ _=>⟨o.slots,keep b o (fun z=>by rw[z,h]at n;cases n) e⟩,fun b o e n _=>B' b (Heap.lt_size e) n,fun b o e _=>by
    by_cases z:b=T
    ·exact⟨_,by rw[z];exact Heap.get?_push_of_some _ E⟩
    ·exact⟨o,keep b o z e⟩,fun b A e=>CD b _ (fun z=>by rw[z,h]at e;cases e) e,fun b o u e=>CD b _ (fun z=>by rw[z,h]at e;cases e) e,fun b U e=>by
    by_cases z:b=T
    ·subst z;rw[h]at e;cases e;exact⟨_,atT⟩
    ·exact⟨#[],by rw[CD b _ z e];simp⟩⟩
  have Ax:EN X.prog X.w k (i.push (PySem.W.kla_obj "<lambda>" (X.env.qual++"<lambda>") params body scope cl ((X.mg "__name__").getD .none) a f)):=fun b o e=>by
   rcases tH b o e with⟨L,P,R,e1⟩|rfl|rfl|rfl
   ·refine(I.Ax b o e1).LF (fun d u hd2 r=>keep d u (fun z=>?_) r) (fun d r=>CD d _ (fun z=>by rw[z,h]at r;cases r) r) fun d A r=>CD d _ (fun z=>by rw[z,h]at r;cases r) r;rcases hd2 with w|w
    ·exact L (w▸z)
    ·rw[z,h]at w;cases w
   ·rw[atT]at e;cases e;exact Heap.get?_push_of_some _ E
   ·rw[q]at e;cases e;exact⟨Heap.get?_push_of_some _ F,_,Heap.get?_push_of_some _ F⟩
   ·rw[J]at e;cases e;exact⟨Heap.get?_push_size _ rfl,_,Heap.get?_push_size _ rfl⟩
  refine⟨.ref i.objs.size,k,I.un (t':=tk) un Ax,rfl,x1 _ a _ f k CD nf (.old a m vs t ?_ q hd hv) J ⟨m,_,vs,t,q,hd,hv⟩⟩;rw[atT];simp
 |old a m A t h V d n=>
  have Z:s.heap.get? T=some (PySem.W.tabObj #[rawInt pos.line,rawInt pos.col,.ref a]):=I.Ax T _ h;refine PySem.W.kla_makeFunctionHit (mg:=X.mg) (cv:=.ref a) x I.ok.glob g j C Z trivial (by simp[codeAmong,rawInt]) hb fun f i tk hk M=>?_;have nf:H i.objs.size=none:=I.Ax.fresh M;refine⟨.ref i.objs.size,upd H i.objs.size (.Ba (PySem.W.kla_obj "<lambda>" (X.env.qual++"<lambda>") params body scope cl ((X.mg "__name__").getD .none) a f) (.own 0)),?_,rfl,?_⟩
  ·exact I.laid (t':=tk) (fun b o e=>Heap.get?_push_of_some _ (hk b o e)) M ⟨Heap.get?_push_size _ rfl,_,Heap.get?_push_size _ rfl⟩
  ·have S:=AF.new (o:=.Ba (PySem.W.kla_obj "<lambda>" (X.env.qual++"<lambda>") params body scope cl ((X.mg "__name__").getD .none) a f) (.own 0)) nf;exact x1 _ a _ f _ (fun b o _ e=>S _ _ e) nf (.old a m A t (S _ _ h) (S _ _ V) d n) AD ⟨m,_,A,t,S _ _ V,d,n⟩
def Wf(o:Obj):Bool:=match o.data with
 | .fields a=>a.isEmpty
 |_=>false
def tabOf(o:Obj):Option Addr:=match o.data with
 | .fields a=>(match(a[11]?:Option Value)with|some (.ref T)=>some T|_=>none)
 |_=>none
def LX(K:yt):yt:=K.filter fun p=> !Wf p.2
variable{d:Array (Option Value)}
section
variable{K:yt}
theorem Gn:∀{K:yt}{a:Addr}{o:Obj},K.lookup a=some o->Wf o=false->(LX K).lookup a=some o
 |[],_,_,h,_=>by cases h
 |(b,x)::r,a,o,h,t=>by
  unfold LX;rw[List.lookup_cons]at h;rw[List.filter_cons];cases c:a==b with
  |true=>
   rw[c]at h;cases h;simp only[t,Bool.not_false,if_true,List.lookup_cons,c]
  |false=>
   rw[c]at h;have d:=Gn (K:=r) h t;unfold LX at d;split
   ·rw[List.lookup_cons,c];exact d
   ·exact d
theorem Bj{v:Option Value}(h:PySem.W.nsIn K a x=some v):PySem.W.nsIn (LX K) a x=some v:=by
 unfold PySem.W.nsIn at h⊢;split at h
 ·rename_i e
  rw[Gn e rfl];exact h
 ·cases h
theorem RL{c:Value}{q:Str}(h:PySem.W.codeIn K c q=true):PySem.W.codeIn (LX K) c q=true:=by
 unfold PySem.W.codeIn at h⊢;split at h
 ·split at h
  ·rename_i a _ e
   rw[Gn e (by
    show a.isEmpty=false;cases b:a.isEmpty with
    |false=>rfl
    |true=>
     rw[Array.isEmpty_iff]at b;rw[b]at h;cases h)]
   exact h
  ·cases h
 ·cases h
theorem RM{a:Value}{b:Option Addr}{c:FuncData}(h:K.lookup f=some ⟨a,b,.func c,d⟩):PySem.W.keepIn (LX K) (.ref f)=true:=by
 unfold PySem.W.keepIn;simp only[Gn h rfl]
theorem br{h:Heap}(A:PySem.W.X.AllIn h K):(LX K).In h:=fun a o e=>by
 have m:=PySem.W.mem_of_lookupK e;have b:(a,o)∈K:=(List.mem_filter.mp m).1;clear m e
 induction K with
 |nil=>cases b
 |cons p r c=>
  rcases List.mem_cons.mp b with rfl|b
  ·exact A.1
  ·exact c A.2 b
theorem bu{o:Obj}(e:(LX K).lookup a=some o):Wf o=false:=by
 have m:=(List.mem_filter.mp (PySem.W.mem_of_lookupK e)).2;simpa using m
end
inductive Yi(K:yt)(T:Addr)(vs:List V)(H:Hp)(Q:VK)(c:XK):Prop
 |mk(a:Addr)(b:List Int)(d:vs=[.ref a])(e:As K H a (b.map V.int))(f:b.length<=63)(g:H T=some (.Nl #[]))(h:∀H',Q (.bl true) H')
def Ko(K:yt)(T:Addr):Sp:=fun b H Q a=>Yi K T b H Q a
theorem UJ{X:Str->Option Value}{k:Nat}{fa:Addr}{fd:FuncData}{f:Shared}{vs:List Value}{t:List Int}(Y:K.In f.heap)(G:f.heap.Ns mainGlobals mg)(i:f.heap.Ns builtinsNs X)(Z:∀x:Str,x≠"__name__"->X x=bootBuiltins x)(I:f.heap.NoLimit)(tJ:BM mg f.heap)(hg:f.gens= #[])(D:f.heap.get? a=some {cls:=.type "list",data:=.seq vs.toArray})(hi:IntsAre vs t)(hl:t.length<=63)(hr:Bi k callerA)(E:f.heap.get? T=some (PySem.W.tabObj #[]))(hC:PySem.W.codeHdIn K c T=true)(tK:∀o,K.lookup T≠some o)(F:∀base:Heap,K.In base->base.Ns mainGlobals mg->BM mg base->Au P w K mg base CK k fa fd [x] (Ko K T))(A:∀(s:Shared) (u:Value),BindsTo s fd ⟨[u],[]⟩ [(x,u)]):
  codeAny (model P w) callerA (.call (.ref fa) ⟨[.ref a],[]⟩) (fun r l=>r=.ok (.ret (.bool true))/\OldK f.heap l.heap/\l.os=f.os/\AllBare l.gens) f:=by
 have rv:=TX hi;have J:=hi.length;have L:t.length<=sizeLine:=Nat.le_trans hl (by decide);have aT:a≠T:=fun z=>by rw[z,E]at D;cases D
 have core:∀H:Hp,As K H a (t.map V.int)->EN P w H f.heap->H T=some (.Nl #[])->(∀b,H b=none∨b=T∨(b=a/\∃o u,H b=some (.Ba o u)))->(H a≠none->K.lookup a=none)->
   codeAny (model P w) callerA (.call (.ref fa) ⟨[.ref a],[]⟩) (fun r l=>r=.ok (.ret (.bool true))/\OldK f.heap l.heap/\l.os=f.os/\AllBare l.gens) f:=by
  intro H hS M N hA hK;have g:∀{b:Addr}{o:Obj},f.heap.get? b=some o->H b=none->(LG f.heap H).get? b=some o:=fun e n=>Ue e n;have O:∀{b:Addr}{o:Obj},f.heap.get? b=some o->(∀B n,o.data≠.seq B n)->(∀B,o.data≠.fields B)->H b=none:=fun{b o} e R d2=>by
   rcases hA b with z|rfl|⟨rfl,_⟩
   ·exact z
   ·rw[E]at e;cases e;exact absurd rfl (d2 #[])
   ·rw[D]at e;cases e;exact absurd rfl (R _ _)
  have tP:∀{b:Addr}{o:Obj}{S:Array DictEntry}{U:Nat},f.heap.get? b=some o->o.data=.dict S U->H b=none:=fun{b o S U} e d=>O e (fun B n q=>by rw[d]at q;cases q) fun B q=>by rw[d]at q;cases q
  have p:∀{b:Addr}{m:Str->Option Value},f.heap.Ns b m->(LG f.heap H).Ns b m:=fun{b m} ⟨o,S,U,e,d,r⟩=>⟨o,S,U,g e (tP e d),d,r⟩;have Q:K.In (LG f.heap H):=fun b o e=>g (Y b o e) (by
   rcases hA b with z|rfl|⟨rfl,o2,u2,z⟩
   ·exact z
   ·exact absurd e (tK o)
   ·rw[hK (by rw[z];simp)]at e;cases e)
  have hM:Mod K mg (LG f.heap H):=⟨Q,p G,⟨X,p i,Z⟩,let⟨mc,h1,h2⟩:=I;⟨mc,p h1,h2⟩⟩;have tQ:BM mg (LG f.heap H):=by
   obtain⟨bm,ob,b1,b2,b3,b4,b5,b6⟩:=tJ;exact⟨bm,ob,b1,b2,g b3 (O b3 (fun B n q=>by rw[b6]at q;cases q) fun B q=>by rw[b6]at q;cases q),b4,b5,b6⟩
  have e0:Uu P w K mg (LG f.heap H) callerA [] f H:=⟨rfl,hM,fun b o e=>Xg e,Nat.le_of_eq (Sz _ _),trivial,fun b i=>absurd (show b∈([]:List Addr)from i) (by simp),M,.of_eq hg⟩;refine codeAny_mono ((F _ Q (p G) tQ).run callerA [] f H ⟨[.ref a],[]⟩ [.ref a] [.ref a] (fun v _=>v=.bl true) (fun _ _ _=>False) hr e0 (A f (.ref a)) (.cons rfl .nil) ⟨a,t,rfl,hS,hl,N,fun _=>rfl⟩) fun r l h=>?_;cases r with
  |error e=>exact False.elim h
  |ok fl=>
   cases fl with
   |next=>exact False.elim h
   |brk=>exact False.elim h
   |cont=>exact False.elim h
   |ret u=>
    obtain⟨v,H',os,bare,un,y,r',q⟩:=h;have q':v=.bl true:=q;subst q';obtain rfl:u=Value.bool true:=r';obtain⟨more,eT⟩:=un.GV T #[] N;have gT:l.heap.get? T=some (PySem.W.tabObj (#[]++more)):=y T _ eT;have kp:∀b o,b≠T->f.heap.get? b=some o->l.heap.get? b=some o:=fun b o n e=>by
     rcases hA b with z|z|⟨rfl,ob,u,z⟩
     ·exact un.keep b o e z (by intro z;exact absurd (show b∈([]:List Addr)from z) (by simp)) (by simp)
     ·exact absurd z n
     ·have z2:=un.EO b ob _ z;obtain⟨e1,_⟩:=M b _ z;obtain⟨e2,_⟩:=y b _ z2;rw[e]at e1;cases e1;exact e2
    refine⟨rfl,⟨fun b o e=>?_,fun b o e=>?_⟩,os,bare⟩
    ·by_cases z:b=T
     ·subst z;rw[E]at e;cases e;exact .inr (.inl ⟨((PySem.W.codeHd_of_K Y hC).tab E).isCodeTable,rfl, #[],more,rfl,gT⟩)
     ·exact .inl (kp b o z e)
    ·by_cases z:b=T
     ·exact⟨_,by rw[z];exact gT⟩
     ·exact⟨o,kp b o z e⟩
 cases hk:K.lookup a with
 |some o=>
  have e:=Y a o hk;rw[D]at e;cases e;refine core (fun b=>if b=T then some (.Nl #[])else none) (.inr ⟨_,vs.toArray,_,hk,rfl,rfl,rfl,by rw[List.size_toArray,J];exact L,by simpa using rv⟩) (fun b u z=>?_) (if_pos rfl) (fun b=>?_) fun z=>absurd (if_neg aT) z
  ·by_cases i:b=T
   ·have j:=(if_pos i).symm.trans z;cases j;subst i;exact E
   ·have j:=(if_neg i).symm.trans z;cases j
  ·by_cases i:b=T
   ·exact .inr (.inl i)
   ·exact .inl (if_neg i)
 |none=>
  have R:(fun b=>if b=T then some (.Nl #[])else if b=a then some (HO.Ba {cls:=.type "list",data:=.seq vs.toArray} (.lst (t.map V.int)))else none:Hp) a=some (HO.Ba {cls:=.type "list",data:=.seq vs.toArray} (.lst (t.map V.int))):=by
   show(if a=T then _ else if a=a then _ else _)=_;rw[if_neg aT,if_pos rfl]
  refine core (fun b=>if b=T then some (.Nl #[])else if b=a then some (.Ba {cls:=.type "list",data:=.seq vs.toArray} (.lst (t.map V.int)))else none) (.inl (.inr ⟨{cls:=.type "list",data:=.seq vs.toArray},R⟩)) (fun b u z=>?_) (if_pos rfl) (fun b=>?_) fun _=>hk
  ·by_cases i:b=T
   ·have j:=(if_pos i).symm.trans z;cases j;subst i;exact E
   ·have j:=(if_neg i).symm.trans z;by_cases i:b=a
    ·have j:=(if_pos i).symm.trans j;cases j;subst i;exact⟨D,by rw[List.length_map];exact L,vs,_,rv,D⟩
    ·have j:=(if_neg i).symm.trans j;cases j
  ·by_cases i:b=T
   ·exact .inr (.inl i)
   ·by_cases C:b=a
    ·exact .inr (.inr ⟨C,_,_,by rw[C];exact R⟩)
    ·exact .inl (by show(if b=T then _ else if b=a then _ else _)=_;rw[if_neg i,if_neg C])
variable{n:Nat}
theorem Wg{l:PySem.W.OpenLaw}{k:Nat}{q:Program}{loose:List Str}{M:(Str->Option Value)->Heap->Prop}{d:DefRec}{K:Params->yt}{as:List Addr}{t:Nat}(e:∀P:Params,as=List.map (fun x=>x.fst) (K P))(N:l.most=some 63)(p:d.params.defaults=[])(O:Bi k callerA)(F:∀(w:World) (mg:Str->Option Value) (fa:Addr) (h:Heap),(LX (K w.params)).In h->h.Ns mainGlobals mg->mg d.name=some (.ref fa)->
   ∃(r:FuncData) (c T:Addr),(K w.params).lookup T=some (PySem.W.tabObj #[])/\PySem.W.codeHdIn (LX (K w.params)) c T=true/\(∀(s:Shared) (u:Value),BindsTo s r ⟨[u],[]⟩ [(x,u)])/\
    ∀base:Heap,(LX (K w.params)).In base->base.Ns mainGlobals mg->BM mg base->Au l.prog w (LX (K w.params)) mg base CK k fa r [x] (Ko (LX (K w.params)) T)):
  PySem.W.WalkX q loose M (PySem.W.X.obsZ as) (PySem.W.X.valZ K n t) l.row.toRowW d [] (fun f vs=>PySem.call f vs):=by
 intro w j i mg E G y a o H I doc Q kV R S U V Z h6 args vals v L p1 p2 p3 p4 p5;have AK:=(PySem.W.X.z_facts e y).1;have A:(K w.params).In i.heap:=(show(K w.params).In j.heap from(PySem.W.X.z_facts e y).2.1).keeps L.keeps;have B:(LX (K w.params)).In i.heap:=(br AK).keeps L.keeps;refine oP.OL (l:=l) (YP:=fun w h=>(K w.params).In h/\(LX (K w.params)).In h) N p (fun w j i mg E fa o H I doc a vs ns G Y ho hd oX C m hints hlen hg=>?_) w j i mg E G ⟨A,B⟩ a o H I doc Q kV R S U V Z h6 args vals v p1 p2 p3 p4 p5;obtain⟨KF,D⟩:=Y;obtain⟨r,c,T,hT,hC,hb,hF⟩:=F w mg fa _ D G.T.g C;have J:=KF _ _ hT;exact UJ D G.T.g G.T.b G.T.builtins G.T.nolimit G.T.bmain hg m hints hlen O J hC (fun o z=>by
  have:=D _ _ z;rw[J]at this;cases this;have:=bu z;cases this) hF hb
structure bx(D:Pt->Prop)(root:Pt)(n:Nat)(l:List Pt)(ie:List (List Pt)):Prop where
 len:ie.length=n
 eq:l=root::ie.flatten
 kids:∀(j:Nat) a ks,l[j]?=some a->ie[j]?=some ks->EJ a.hold ks
 ok:∀a∈l,D a
 pos:∀j,j<n->j<=(ie.take j).flatten.length
theorem Zr{D:Pt->Prop}{root:Pt}(d:D root)(Zs:∀t us,D t->EJ t.hold us->∀u∈us,D u):∀{n:Nat}{l:List Pt}{c:List (List Pt)},Tu root n l c->bx D root n l c
 |_,_,_,.start=>⟨rfl,rfl,fun j a ks _ h=>by simp at h,fun x i=>by rw[List.mem_singleton.mp i];exact d,fun j h=>by lia⟩
 |_,_,_,.next (n:=n) (l:=l) (t:=t) (us:=us) b m k=>by
  obtain⟨o,p,v,q,w⟩:=Zr d Zs b;have r:=(yo m).1;refine⟨by simp[o],by rw[p];simp,fun j x s g f=>?_,fun x i=>?_,fun j y=>?_⟩
  ·by_cases y:j<n
   ·rw[List.getElem?_append_left (by lia)]at g f;exact v j x s g f
   ·have:=(yo f).1;rw[List.length_append,List.length_singleton]at this;have e:j=n:=by lia
    subst e;rw[List.getElem?_append_left r,m]at g;rw[List.getElem?_append_right (by lia),o,Nat.sub_self]at f;cases g;have:us=s:=by simpa using f
    subst this;exact k
  ·rcases List.mem_append.mp i with h|h
   ·exact q x h
   ·exact Zs t us (q t (yr m)) k x h
  ·by_cases h:j<n
   ·rw[List.take_append_of_le_length (by lia)];exact w j h
   ·have e:j=n:=by lia
    subst e;rw[List.take_append_of_le_length (by lia),List.take_of_length_le (by lia)];rw[p,List.length_cons]at r;lia
theorem bx.at_{D:Pt->Prop}{root:Pt}{l:List Pt}{a:List (List Pt)}(b:bx D root l.length l a){j:Nat}{ks:List Pt}(c:a[j]?=some ks):j<1+(a.take j).flatten.length/\(l.drop (1+(a.take j).flatten.length)).take ks.length=ks/\1+(a.take (j+1)).flatten.length=1+(a.take j).flatten.length+ks.length/\1+(a.take j).flatten.length+ks.length<=l.length:=by
 have d:=(yo c).1;have f:a=a.take j++ks::a.drop (j+1):=by
  have:a.drop j=ks::a.drop (j+1):=by
   rw[List.drop_eq_getElem_cons d];rw[yn d]at c;rw[yq c]
  rw[<-this,List.take_append_drop]
 have e:l=root::((a.take j).flatten++(ks++(a.drop (j+1)).flatten)):=by
  have:=b.eq;rw[f]at this;rw[this];simp
 have g:a.take (j+1)=a.take j++[ks]:=by rw[List.take_add_one,c];rfl
 refine⟨?_,?_,?_,?_⟩
 ·have:=b.pos j (by rw[<-b.len];exact d);lia
 ·have:l.drop (1+(a.take j).flatten.length)=ks++(a.drop (j+1)).flatten:=by
   rw[show 1+(a.take j).flatten.length=(a.take j).flatten.length+1 by lia]
   conv=>lhs;rw[e]
   rw[List.drop_succ_cons,List.drop_left]
  rw[this,List.take_left'];rfl
 ·rw[g];simp;lia
 ·rw[e];simp;lia
section
variable{K:yt} [BR K] {R:Pt->Pt->Prop}
structure Yj(R:Pt->Pt->Prop)(H0 Hi:Hp)(as:List Pt)(ts:List V)(at_:Nat):Prop where
 len:ts.length=as.length
 val:∀(j:Nat) x,at_<=j->as[j]?=some x->∃w b,ts[j]?=some w/\R x b/\Val (nw H0 Hi) w b
theorem Yj.up{a c d:Hp}{as:List Pt}{ts:List V}{n:Nat}(f:Yj R a c as ts n)(s:∀b o,a b=none->c b=some o->d b=some o):Yj R a d as ts n:=⟨f.len,fun j x e g=>let⟨w,b,i,k,l⟩:=f.val j x e g;⟨w,b,i,k,l.up (BB (fun _ h=>h) s)⟩⟩
theorem Yj.slice{a c:Hp}{as:List Pt}{ts:List V}{n:Nat}(f:Yj R a c as ts n):∀(k s:Nat),n<=s->s+k<=as.length->∃cs,Paired R ((as.drop s).take k) cs/\AS (nw a c) ((ts.drop s).take k) cs
 |0,s,_,_=>⟨[],by rw[List.take_zero];exact .nil,by rw[List.take_zero];exact .nil⟩
 |k+1,s,e,l=>by
  obtain⟨cs,g,h⟩:=f.slice k (s+1) (by lia) (by lia);have l1:s<as.length:=by lia
  have l2:s<ts.length:=by rw[f.len];exact l1
  obtain⟨w,b,d,i,j⟩:=f.val s as[s] e (yn l1);rw[yn l2]at d;refine⟨b::cs,?_,?_⟩
  ·rw[List.drop_eq_getElem_cons l1,List.take_succ_cons];exact .cons i g
  ·rw[List.drop_eq_getElem_cons l2,List.take_succ_cons,yq d];exact .cons j h
theorem Yj.set{a h c:Hp}{as:List Pt}{ts:List V}(f:Yj R a h as ts (n+1))(s:∀b o,a b=none->h b=some o->c b=some o){x:Pt}(i:as[n]?=some x){w:V}{b:Pt}(g:R x b)(hw:Val (nw a c) w b):Yj R a c as (ts.set n w) n:=by
 refine⟨by rw[List.length_set,f.len],fun j y t d=>?_⟩;have k:=(yo i).1;by_cases e:j=n
 ·subst e;rw[i]at d;cases d;exact⟨w,b,by rw[List.getElem?_set_self (by rw[f.len];exact k)],g,hw⟩
 ·obtain⟨l,m,p,q,r⟩:=(f.up s).val j y (by lia) d;exact⟨l,m,by rw[List.getElem?_set_ne (Ne.symm e)];exact p,q,r⟩
noncomputable def NL:HO->Bool
 | .lst _| .tup _| .dK _=>true
 |_=>false
mutual
theorem Val.b_{H H':Hp}(s:∀a u,NL u=true->Rd H a u->Rd H' a u):∀{v:V}{t:Pt},Val H v t->Val H' v t
 |_,_,.int i=>.int i
 |_,_,.str x=>.str x
 |_,_,.bl b=>.bl b
 |_,_,.Ah=>.Ah
 |_,_,.lst h r=>.lst (s _ _ rfl h) (r.b_ s)
 |_,_,.tup h r=>.tup (h.imp (s _ _ rfl) id) (r.b_ s)
 |_,_,.Ar h c r=>.Ar (s _ _ rfl h) c (r.b_ s)
theorem AS.b_{H H':Hp}(s:∀a u,NL u=true->Rd H a u->Rd H' a u):∀{vs:List V}{ts:List Pt},AS H vs ts->AS H' vs ts
 |_,_,.nil=>.nil
 |_,_,.cons h r=>.cons (h.b_ s) (r.b_ s)
end
theorem UK(z:∀b∈Z,∃o,H b=some (.Ba o (.own 0)))(a:Addr)(u:HO)(n:NL u=true)(h:Rd H a u):Rd (DH Z H) a u:=by
 have c:a∉Z:=fun m=>by
  obtain⟨o,e⟩:=z a m;rcases h with h|⟨d,h⟩<;>rw[e]at h<;>cases h<;>cases n
 unfold Rd;rw[BX c];exact h
inductive Yk{K:yt}[BR K](R:Pt->Pt->Prop)(D:Pt->Prop)(G:Hp)(vs:List V)(H:Hp)(Q:VK)(c:XK):Prop
 |mk(a:Hp)(v:V)(t:Pt)(L:Addr)(ws:List V)(us cs:List Pt)(g:vs=[v,.ref L])(h:AF G H)(i:Val G v t)(j:D t)(k:H L=some (.lst ws))(l:a L=none)(m:∀b,H b=none->a b=none)(d:AF G a)(n:EJ t.hold us)(o:Paired R us cs)(e:AS (nw a H) ws cs)(f:∀(w:V) (b:Pt) (H':Hp),AF H H'->Val (nw a H') w b->R t b->Q w H')
def RN(R:Pt->Pt->Prop)(D:Pt->Prop)(G:Hp):Sp:=fun a H Q E=>Yk R D G a H Q E
inductive Wh(P:Program)(w:World)(K:yt)[BR K](mg:Str->Option Value)(base:Heap)(d:Addr)(vs:List V)(H:Hp)(Q:VK)(e:XK):Prop
 |mk(R:Pt->Pt->Prop)(D:Pt->Prop)(v:V)(t:Pt)(c:Addr)(a:FuncData)(ps:List Str)(f:vs=[v,.ref d,.ref c])(g:Val H v t)(h:D t)(i:∀t,D t->∃n,n<=20000/\Ly n t)(j:∀t us,D t->EJ t.hold us->∀u∈us,D u)(k:lM K H c)(l:Binds K a ps [])(m:Au P w K mg base CK 5 c a ps (RN R D H))(o:∀(w:V) (b:Pt) (H':Hp),AF H H'->Val (nw H H') w b->R t b->Q w H')
def NM(P:Program)(w:World)(K:yt)[BR K](mg:Str->Option Value)(base:Heap)(a:Addr):Sp:=fun b H Q E=>Wh P w K mg base a b H Q E
end
variable{t:Pt}
namespace Ak
mutual
theorem Gp:∀(a b:Ak),a.pt=b.pt->a=b
 |any,b,h=>by cases b<;>simp[pt]at h⊢
 |Ag d,b,h=>by cases b<;>simp[pt]at h⊢;exact h
 |row xs m,b,h=>by
  cases b<;>simp[pt]at h⊢;exact⟨FE _ _ h.1,h.2⟩
 |tab ks xs ls m,b,h=>by
  cases b<;>simp[pt]at h⊢;obtain⟨⟨c,f⟩,g,h4⟩:=h;refine⟨c,FE _ _ f,?_,h4⟩;exact(List.map_inj_right fun a b e=>by injection e).mp g
theorem FE:∀(a b:List Ak),CO a=CO b->a=b
 |[],b,h=>by cases b<;>simp[CO]at h⊢
 |x::r,b,h=>by
  cases b<;>simp[CO]at h⊢;exact⟨Gp _ _ h.1,FE _ _ h.2⟩
end
def lO(t b:Pt):Prop:=∃a c:Ak,t=a.pt/\b=c.pt/\Good a c
def cA(t:Pt):Prop:=∃a:Ak,t=a.pt/\a.CF/\a.wt<=900
theorem cA.lP(h:cA t):∃n,n<=20000/\Ly n t:=by
 obtain⟨a,rfl,o,w⟩:=h;have:=a.SD;exact⟨a.size,by lia,a.nd o (by lia)⟩
theorem cA.Zs(h:cA t)(k:EJ t.hold us):∀u∈us,cA u:=by
 obtain⟨a,rfl,o,w⟩:=h;obtain⟨e,b,rfl⟩:=SF o k;intro u d;obtain⟨x,c,rfl⟩:=List.mem_map.mp d;have:=b.wt o x c;exact⟨x,rfl,b.ok o x c,by lia⟩
theorem Sa:∀{as:List Ak}{cs:List Pt},Paired lO (as.map pt) cs->∃bs,cs=bs.map pt/\DQ as bs
 |[],_,.nil=>⟨[],rfl,.nil⟩
 |a::as,_,.cons h t=>by
  obtain⟨x,y,e,rfl,g⟩:=h;have:=Gp _ _ e;subst this;obtain⟨bs,rfl,b⟩:=Sa t;exact⟨y::bs,rfl,.cons g b⟩
end Ak
theorem UL [BR K] {vs:List V} {Q:VK} {E:XK} (h:RN (K:=K) Ak.lO Ak.cA G vs H Q E):Ge (K:=K) vs H Q E:=by
 obtain⟨d,v,t,L,e,A,B,rfl,f,g,⟨a,rfl,o,i⟩,j,k,l,_,m,n,c,q⟩:=h;obtain⟨p,r,rfl⟩:=Ak.SF o m;obtain⟨bs,rfl,u⟩:=Ak.Sa n;exact⟨G,d,v,a,L,e,p,bs,rfl,f,g,o,i,j,k,l,r,u,c,fun w b x s y z=>q w _ x s y ⟨a,b,rfl,rfl,z⟩⟩
open PySem.AutoSeq1 (wpAny_loadPart')
open PySem.MeetsSeq3
section
variable{prog:Program} {w:World} {A:Around} {s:Shared}
def gI(prog:Program)(w:World)(A:Around)(s:Shared)(u v:Value):Prop:=∀(E:Value->Shared->Prop)(Q:Value->Shared->Prop),Q (.bool false) s->wpAny (model prog w) A (richCompare .NotEq u v) Q E s
theorem Wi{l:Addr}{items a:Array Value}{q:Nat}{r m:Option Addr}{t o:Array (Option Value)}(hsz:items.size=a.size)(hl:s.heap.get? l=some {cls:=.type "list",dict:=r,data:=.seq items n,slots:=t})(p:s.heap.get? b=some {cls:=.type "list",dict:=m,data:=.seq a q,slots:=o})(u:∀j (D:j<items.size) (E:j<a.size),SJ prog w A.in1 s items[j] a[j] true){R:Result->Shared->Prop}(v:R (.ok (.ret (.bool false))) s):
  ∀k i:Nat,items.size-i=k->i<=items.size->codeAny (model prog w) A (.builtin "list.__eq__.loop" ⟨[.ref l,.ref b,rawInt i,rawInt 3],[]⟩) R s:=by
 obtain⟨F,g,d,G,os⟩:=s;intro k
 induction k with
 |zero=>
  intro i x y;have z:i=items.size:=by lia
  refine codeAny_builtin entry_eq_loop ?_;rw[Around.under_plainId plain_eq_loop _];wp_walk using wpAny_loadPart' hl,wpAny_loadPart' p;have e:items[((i:Nat):Int).toNat]?=none:=by simp;lia
  have f:a[((i:Nat):Int).toNat]?=none:=by simp;lia
  rw[e,f];wp_walk using wpAny_loadPart' hl,wpAny_loadPart' p;show R (.ok (.ret (.bool (items.size !=a.size)))) _;rw[hsz];simpa using v
 |succ k B=>
  intro i x y;refine codeAny_builtin entry_eq_loop ?_;rw[Around.under_plainId plain_eq_loop _];wp_walk using wpAny_loadPart' hl,wpAny_loadPart' p;have h:i<items.size:=by lia
  have c:i<a.size:=by lia
  have e:items[((i:Nat):Int).toNat]?=some items[i]:=by simp[h]
  have f:a[((i:Nat):Int).toNat]?=some a[i]:=by simp[c]
  have C:((i:Int)+1)=((i+1:Nat):Int):=by push_cast;rfl
  rw[e,f];refine wpAny_bind (u i h c _ _ ?_);wp_walk;rw[C];exact⟨plainId_quiet plain_eq_loop _,B (i+1) (by lia) h⟩
theorem Wj{l:Addr}{items a:Array Value}(hl:s.heap.IsList l items)(p:s.heap.IsList b a)(hsz:items.size=a.size)(q:A.units<cLine)(r:∀j (z:j<items.size) (B:j<a.size),SJ prog w A.in1 s items[j] a[j] true):gI prog w A s (.ref l) (.ref b):=fun E Q h=>by
 obtain⟨⟨t,C,data,D⟩,i,k,n,m⟩:=id hl;obtain⟨⟨o,u,data2,v⟩,c,e,G,f⟩:=id p;simp only at k m e f;subst k m e f;refine wpAny_richCompare_same_room (op:=.NotEq) ⟨_,i,rfl⟩ ⟨_,c,rfl⟩ F.slot_list_ne (call_one F.slot_list_ne ⟨_,i,rfl⟩ F.entry_list_ne (F.args_list_ne_2 _ _) ?_) q;obtain⟨H,g,d,I,os⟩:=s;have J:=AutoSeq1.sub_list_list;have y:¬(items.size !=a.size)=true:=by simp[hsz]
 wp_walk using wpAny_loadPart' i,wpAny_loadPart' c;exact⟨plainId_quiet plain_eq_loop _,Wi hsz i c r (show(Value.bool false≠Value.notImplemented)/\Q (.bool false) _ from⟨(fun x=>nomatch x),h⟩) _ 0 rfl (Nat.zero_le _)⟩
theorem Wk{O:Type}[DecidableEq O]{knd:PySem.KeyKind prog w O}{z D:List (O×Value)}(ha:(a==sysModules)=false)(hb:(b==sysModules)=false)(N:s.heap.DictOf knd a z)(P:s.heap.DictOf knd b D)(ll:z.length=D.length)(hu:A.units<cLine)(he:∀(j:Nat) k u,z[j]?=some (k,u)->∃v,valueAt D k=some v/\SJ prog w A.in1 s u v true):gI prog w A s (.ref a) (.ref b):=fun E Q h=>by
 refine wpAny_richCompare_same_room (op:=.NotEq) N.typeIs P.typeIs PySem.F.slot_dict_ne (wpAny_call_entry PySem.F.slot_dict_ne N.typeIs PySem.F.entry_dict_ne ?_ (PySem.F.args_dict_ne_2 _ _)) hu;show wpAny _ _ (Builtin.Dict.dictSlotArgs "__ne__" ⟨[.ref a,.ref b],[]⟩>>=_) _ _ s;refine wpAny_bind ?_;unfold Builtin.Dict.dictSlotArgs;refine wpAny_bind (wpAny_notOrdered_dict N.typeIs ?_);show wpAny _ _ (pure (Value.ref a,Value.ref b)) _ _ s;refine wpAny_pure ?_;refine wpAny_bind (wpAny_isInstance (T:="dict") P.typeIs PySem.F.sub_dict_dict ?_);simp only[Bool.not_true,Bool.false_eq_true,if_false];refine wpAny_bind (wpAny_pure (wpAny_bind (wpAny_pure ?_)));obtain⟨oa,d,ep,m,_,n,R,G,rx⟩:=N;obtain⟨ob,f,ry,o,_,p,H,B,rz⟩:=P;have I:z.length=d.size:=by rw[<-G.length];exact Array.length_toList
 have J:D.length=f.size:=by rw[<-B.length];exact Array.length_toList
 refine wpAny_bind ?_;unfold Builtin.Dict.samePairs Builtin.Dict.showsAll;rw[if_neg (show¬(a==sysModules)=true by rw[ha];exact Bool.false_ne_true),if_neg (show¬(b==sysModules)=true by rw[hb];exact Bool.false_ne_true)];refine wpAny_bind (wpAny_pure (wpAny_bind (wpAny_pure ?_)));refine wpAny_bind (wpAny_dictEntries m n ?_);dsimp only;refine wpAny_bind (wpAny_dictEntries o p ?_);rw[if_neg (by rw[<-I,<-J,ll];simp)];refine wpAny_bind (wpAny_dictEpoch m n ?_);refine wpAny_bind ?_;rw[Std.Legacy.Range.forIn_eq_forIn_range'];simp only[Std.Legacy.Range.size,Nat.sub_zero,Nat.add_sub_cancel,Nat.div_one];have fin:∃v,Fin.done (Flow.ret (Value.bool (true==false)))=.done (.ret v)/\v≠.notImplemented/\Q v s:=⟨_,rfl,(fun x=>nomatch x),h⟩;refine wpAny_forIn_list _ (fun rest q S=>S=s/\q=(none,())/\∃i,rest=List.range' i (d.size-i)/\i<=d.size) _ ?_ ?_ _ _ ⟨rfl,rfl,0,by simp,Nat.zero_le _⟩
 ·rintro x rest q S ⟨rfl,rfl,i,K,hi⟩;have g:i<d.size:=by
   rcases Nat.lt_or_ge i d.size with h|h
   ·exact h
   ·rw[Nat.sub_eq_zero_of_le h]at K;simp at K
  obtain⟨rfl,C⟩:x=i/\rest=List.range' (i+1) (d.size-(i+1)):=by
   have e:d.size-i=(d.size-(i+1))+1:=by lia
   rw[e,List.range'_succ]at K;injection K with h1 h2;exact⟨h1,h2⟩
  have L:x<z.length:=by rw[I];exact g
  obtain⟨r,u,U⟩:∃k u,z[x]=(k,u):=⟨_,_,rfl⟩;have Z:z[x]?=some (r,u):=by rw[yn L,U]
  obtain⟨v,hv,hq⟩:=he x r u Z;refine wpAny_bind (wpAny_dictEntries m n ?_);rw[Array.getElem?_eq_getElem g];obtain⟨t,M⟩:=G.get? (i:=x) (e:=d[x]) (k:=r) (v:=u) (by rw[Array.getElem?_toList];exact Array.getElem?_eq_getElem g) Z;obtain⟨k2,V,hh⟩:=R d[x] (Array.getElem_mem g);have W:k2=r:=knd.inj _ _ _ V t;rw[W]at hh;show wpAny _ _ (holding [d[x].key,d[x].val] _>>=_) _ _ _;rw[hh];refine wpAny_bind (wpAny_holding (wpAny_bind (wpAny_dictFind_of t o p H ?_)));have c:findBy knd.is f r=valueAt D r:=by
   rw[<-B.find r];clear J B H p o;obtain⟨l⟩:=f;simp[findBy]
  cases X:f.findIdx? fun e=>knd.is r e.key with
  |none=>
   rw[findBy_of_findIdx?,X,hv]at c;exact nomatch c
  |some j=>
   obtain⟨y,_,_⟩:=Array.findIdx?_eq_some_iff_getElem.mp X;have Y:f[j].val=v:=by
    rw[findBy_of_findIdx?,X,hv]at c;simpa[Array.getElem?_eq_getElem y]using c
   refine wpAny_bind (wpAny_dictEntries o p ?_);rw[Array.getElem?_eq_getElem y];refine wpAny_holding ?_;rw[Y,M];refine hq _ _ ?_;show wpAny _ _ (if(!true)=true then _ else _) _ _ _;rw[if_neg (by decide)];refine wpAny_bind (wpAny_dictEpoch m n ?_);rw[if_neg (by simp)];exact wpAny_pure ⟨rfl,rfl,x+1,C,g⟩
 ·rintro q S ⟨rfl,rfl,i,K,hi⟩;exact wpAny_pure (wpAny_pure fin)
end
noncomputable def Pt.top:Pt->Bool
 | .int _| .str _| .lst _| .Ar _ _=>true
 |_=>false
theorem Pt.Sb(d:t.doc):t.top=true:=by
 cases t with
 |int _=>rfl
 |str _=>rfl
 |lst _=>rfl
 |Ar _ _=>rfl
 |_=>simp[Pt.doc]at d
inductive gJ{K:yt}[BR K](x y:V)(H:Hp)(Q:VK):Prop
 |mk(p t:Pt)(a:Val H x p)(b:Val H y t)(e:p.top=true)(c:Pt.Bm p t=true)(d:p.deep<=60)(q:Q (.bl false) H)
theorem cB(hu:X.A.units+64<cLine):Ek X (compareOp .NotEq) (@gJ X.K ⟨trivial⟩):=by
 haveI:BR X.K:=⟨trivial⟩;intro pins s σ H x y v u Q I U W h;obtain⟨p,t,Y,Z,dx,c,d,q⟩:=h;have E:∀{F t':Pt}{x y:V}{u v:Value},F.deep<p.deep->Val H x F->Val H y t'->Pt.Bm F t'=true->RelV x u->RelV y v->SJ X.prog X.w X.A.in1 s u v true:=fun{F t' x y u v} l n h2 e r1 r2=>by
  have:=WH I _ F (Nat.le_refl _) t' (.inr e) n h2 (A:=X.A.in1) (by show X.A.units+1+_<cLine;lia) r1 r2;rw[e]at this;exact this
 cases p with
 |int i=>
  cases t with
  |int j=>
   cases Y;cases Z;have e:i=j:=by simpa[Pt.Bm]using c
   exact Uq pins s σ H _ _ v u Q I U W ⟨rfl,by rw[e];simpa using q⟩
  |_=>simp[Pt.Bm]at c
 |str i=>
  cases t with
  |str j=>
   cases Y;cases Z;have e:i=j:=by simpa[Pt.Bm]using c
   exact Uq pins s σ H _ _ v u Q I U W ⟨rfl,by rw[e];simpa using q⟩
  |_=>simp[Pt.Bm]at c
 |lst C=>
  cases t with
  |lst D=>
   have G:Pt.Ca C D=true:=c;have l:C.length=D.length:=by
    rcases Nat.lt_trichotomy C.length D.length with z|z|z
    ·rw[DO (by lia)]at G;cases G
    ·exact z
    ·rw[DO (by lia)]at G;cases G
   cases Y with
   |@lst a J _ ha ra=>
    cases Z with
    |@lst b ws _ hb rb=>
     cases(show v=Value.ref a from U);cases(show u=Value.ref b from W);obtain⟨its,r1,p1,_⟩:=I.list (.inl ha);obtain⟨L,r2,p2,_⟩:=I.list (.inl hb);have e1:its.toArray.size=C.length:=by rw[List.size_toArray,<-r1.length,ra.length]
     have e2:L.toArray.size=D.length:=by rw[List.size_toArray,<-r2.length,rb.length]
     refine Wj p1.isList p2.isList (by rw[e1,e2,l]) (by lia) (fun j n h2=>?_) _ _ ⟨.bl false,H,I,rfl,q⟩;obtain⟨v1,t1,g1,M,o,f⟩:=ra.at r1 n;obtain⟨v2,t2,g3,g4,r,gB⟩:=rb.at r2 h2;have dl:=Pt.Ap (yr M);have e:pairE C D j=Pt.Bm t1 t2:=by simp[pairE,M,g4]
     exact E (by simp only[Pt.deep];lia) o r (by rw[<-e];exact(Eh l).mp G j (by rw[<-e1];exact n)) f gB
  |_=>simp[Pt.Bm]at c
 |Ar ks C=>
  cases t with
  |Ar ls D=>
   simp only[Pt.Bm,Bool.and_eq_true,beq_iff_eq]at c;cases Y with
   |@Ar a kvs _ _ ha N ra=>
    cases Z with
    |@Ar b j_ _ _ hb O rb=>
     cases(show v=Value.ref a from U);cases(show u=Value.ref b from W);obtain⟨z,hm,J,P,dd⟩:=EV I.Ax ha;obtain⟨z',lA,B,m,lC⟩:=EV I.Ax hb;have k1:J.map (·.1)=kvs.map (·.1):=(KV.keys P).symm;have k2:B.map (·.1)=j_.map (·.1):=(KV.keys m).symm;have l1:J.length=ks.length:=by have:=congrArg List.length (k1.trans N);simpa using this
     have l2:B.length=ls.length:=by have:=congrArg List.length (k2.trans O);simpa using this
     refine Wk hm lA dd lC (by lia) (by lia) (fun j k x g=>?_) _ _ ⟨.bl false,H,I,rfl,q⟩;have gv:(J.map (·.2))[j]?=some x:=by rw[List.getElem?_map,g];rfl
     have n:j<(J.map (·.2)).toArray.size:=by rw[List.size_toArray];exact(yo gv).1
     obtain⟨v1,t1,g1,M,o,f⟩:=ra.at (Ry P) n;rw[Qn gv n]at f;obtain⟨nm,R⟩:∃nm,ks[j]?=some nm:=⟨_,yn (by have:=(yo g).1;lia)⟩;have ek:k=Sum.inr nm:=by
      have:=congrArg (fun z=>z[j]?) (k1.trans N);simp only[List.getElem?_map,g,R]at this;simpa using this
     subst ek;obtain⟨y,y1,y2⟩:=Pt.Ef.mp c.2 j nm t1 R M;have S:=m.val (Sum.inr nm);rcases Val.Dd O rb nm with⟨w1,t2,q1,q2,r⟩|⟨q1,q2⟩
     ·rw[q2]at y1;cases y1;rw[q1]at S;cases T:valueAt B (Sum.inr nm)with
      |none=>rw[T]at S;exact S.elim
      |some u2=>
       rw[T]at S;have dl:=Pt.Ap (yr M);exact⟨u2,rfl,E (by simp only[Pt.deep];lia) o r y2 f S⟩
     ·rw[q2]at y1;cases y1
  |_=>simp[Pt.Bm]at c
 |_=>simp[Pt.top]at dx
namespace Ak
mutual
noncomputable def GO:Ak->Nat
 |any=>4
 |Ag d=>d.size
 |row xs _=>9+Cn xs
 |tab _ xs _ _=>9+Cn xs
noncomputable def Cn:List Ak->Nat
 |[]=>0
 |x::r=>GO x+Cn r
end
mutual
theorem Wl:∀a:Ak,a.ok->a.GO<=10*a.size
 |any,_=>by simp[GO,size]
 |Ag d,h=>by simp only[ok]at h;simp only[GO,size];lia
 |row xs m,h=>by simp only[ok]at h;have:=NN xs h;simp only[GO,size];lia
 |tab b xs ls m,h=>by simp only[ok]at h;have:=NN xs h.2.2.2.2.2.2;simp only[GO,size];lia
theorem NN:∀xs:List Ak,DW xs->Cn xs<=10*AI xs
 |[],_=>Nat.le_refl _
 |x::r,h=>by simp only[DW]at h;have:=Wl x h.1;have:=NN r h.2;simp only[Cn,AI];lia
end
theorem Kp:∀{xs:List Ak}{x:Ak},x∈xs->x.GO<=Cn xs
 |y::r,x,h=>by
  simp only[Cn];rcases List.mem_cons.mp h with rfl|h
  ·lia
  ·have:=Kp h;lia
theorem Yl(a:Ak):1<=a.GO:=by
 cases a with
 |Ag d=>exact Pt.size_pos d
 |_=>simp only[GO];lia
theorem NO:∀xs:List Ak,xs.length<=Cn xs
 |[]=>Nat.le_refl _
 |x::r=>by have:=Yl x;have:=NO r;simp only[List.length_cons,Cn];lia
theorem Ft:∀{a b:List Ak},Cn (a++b)=Cn a+Cn b
 |[],b=>by simp only[List.nil_append,Cn];lia
 |x::r,b=>by simp only[List.cons_append,Cn,Ft (a:=r)];lia
theorem MJ{a b:List Ak}(p:a.Perm b):Cn a=Cn b:=by
 induction p with
 |nil=>rfl
 |cons x _ c=>simp only[Cn,c]
 |swap x y l=>simp only[Cn];lia
 |trans _ _ d e=>exact d.trans e
theorem Ig:∀a:List Pt,Cn (a.map Ag)=Pt.AI a
 |[]=>rfl
 |d::r=>by simp only[List.map_cons,Cn,GO,Pt.AI,Ig r]
theorem Pa(cs:List Ak)(m:Bool):(Be cs m).GO<=9+Cn cs:=by
 unfold Be;split
 ·exact Nat.le_refl _
 ·split
  ·rename_i a e
   rw[CG e,Ig];simp only[GO,Pt.size];lia
  ·exact Nat.le_refl _
theorem Pb(ss:List Str)(cs:List Ak)(ls:List Str)(m:Bool):(Bf ss cs ls m).GO<=9+Cn cs:=by
 unfold Bf;split
 ·exact Nat.le_refl _
 ·split
  ·rename_i a e
   rw[CG e,Ig];simp only[GO,Pt.size];lia
  ·exact Nat.le_refl _
mutual
theorem Good.GO:∀{a b:Ak},Good a b->a.CF->b.GO<=a.GO
 |_,_,.any,_=>Nat.le_refl _
 |_,_,.Ag d,_=>Nat.le_refl _
 |_,_,.row (m:=m) (cs:=cs) h,o=>by
  have:=h.GO (Bd o);have:=Pa cs m;simp only[Ak.GO];lia
 |_,_,.tab (ss:=ss) (cs:=cs) (ls:=ls) (m:=m) f i e h,o=>by
  simp only[CF]at o;have c:=CV o.1 o.2.1 f e;have:=h.GO fun x g=>Bd o.2.2.2.2.2.2 x (c.mem_iff.mp g);have:=Pb ss cs ls m;have:=MJ c;simp only[Ak.GO];lia
theorem DQ.GO:∀{as bs:List Ak},DQ as bs->(∀a∈as,a.CF)->Cn bs<=Cn as
 |_,_,.nil,_=>Nat.le_refl _
 |_,_,.cons h r,o=>by
  have:=h.GO (o _ List.mem_cons_self);have:=r.GO fun x b=>o x (List.mem_cons_of_mem _ b);simp only[Cn];lia
end
end Ak
theorem Pt.Pc:∀{p:List Key}{t u:Pt},t.doc->t.sub p=some u->u.deep<=t.deep
 |[],t,u,_,h=>by cases h;exact Nat.le_refl _
 |k::p,t,u,d,h=>by
  simp only[Pt.sub]at h;cases e:t.Fn k with
  |none=>rw[e]at h;cases h
  |some c=>
   rw[e]at h;obtain⟨a,_,b⟩:=Pt.Kg d e;have:=Pt.Pc a h;lia
theorem Pd{a:Type}{k:Str}{x:a}:∀{ks ls:List Str}{xs ys:List a},lk ks xs k=some x->lk (ks++ls) (xs++ys) k=some x
 |[],_,_,_,h=>by simp[lk]at h
 |y::r,_,[],_,h=>by simp[lk]at h
 |y::r,ls,z::zs,ys,h=>by
  rw[BW]at h;rw[List.cons_append,List.cons_append,BW];split at h
  ·rename_i e;rw[if_pos e];exact h
  ·rename_i e;rw[if_neg e];exact Pd h
theorem Pe{a:Type}{k:Str}:∀{ks ls:List Str}{xs ys:List a},ks.length=xs.length->k∉ks->lk (ks++ls) (xs++ys) k=lk ls ys k
 |[],_,[],_,_,_=>rfl
 |[],_,_::_,_,l,_=>by simp at l
 |_::_,_,[],_,l,_=>by simp at l
 |y::r,ls,z::zs,ys,l,n=>by
  rw[List.cons_append,List.cons_append,BW,if_neg (fun e=>n (by rw[e];exact List.mem_cons_self))];exact Pe (by simpa using l) fun h=>n (List.mem_cons_of_mem _ h)
theorem Pt.Pf:∀{a b c d:List Pt},Pt.Ca a b=true->Pt.Ca c d=true->Pt.Ca (a++c) (b++d)=true
 |[],[],_,_,_,h=>h
 |[],_::_,_,_,h,_=>by simp[Pt.Ca]at h
 |_::_,[],_,_,h,_=>by simp[Pt.Ca]at h
 |x::r,y::s,_,_,h,g=>by
  simp only[Pt.Ca,Bool.and_eq_true]at h;simp only[List.cons_append,Pt.Ca,Bool.and_eq_true];exact⟨h.1,Pt.Pf h.2 g⟩
theorem Pt.Kq:∀{a b:List Pt},Pt.FN a->Pt.FN b->Pt.FN (a++b)
 |[],_,_,h=>h
 |x::r,b,h,g=>by simp only[Pt.FN]at h;exact⟨h.1,Pt.Kq h.2 g⟩
theorem Pt.NP:∀{a:List Pt},(∀x∈a,x.NA)->Pt.FN a
 |[],_=>trivial
 |x::r,h=>⟨h x List.mem_cons_self,Pt.NP fun y b=>h y (List.mem_cons_of_mem _ b)⟩
structure Lt(A:Ak)(t:Pt):Prop where
 ok:A.CF
 sr:A.Hu
 wt:A.wt<=900
 dc:t.doc
 sz:t.size<=800
 dp:t.deep<=25
 lt:A.lets t=true
variable{p:List Key}
theorem Lt.sub{b:Ak}(h:Lt A t)(e:A.sub p=some b):∃u,t.sub p=some u/\u.doc/\u.size<=800/\u.deep<=25/\b.lets u=true/\b.CF:=by
 obtain⟨u,a,c,f,d⟩:=Ak.PK h.ok h.sr h.dc h.lt e;have:=Pt.Pc h.dc a;have:=h.sz;have:=h.dp;exact⟨u,a,c,by lia,by lia,d,(Ak.NH h.ok h.sr e).1⟩
namespace AL
noncomputable def GR(A:Ak)(t:Pt):Option (List Key)->List Pt
 |none=>[]
 |some p=>match A.sub p,t.sub p with
  |some (.row cs _),some (.lst xs)=>xs.drop cs.length
  |_,_=>[]
noncomputable def DR(A:Ak)(t:Pt):Option (List Key)->List (Str×Pt)
 |none=>[]
 |some p=>match A.sub p,t.sub p with
  |some (.tab ks _ _ _),some (.Ar a ys)=>(a.zip ys).filter fun q=>decide (q.1∉ks)
  |_,_=>[]
mutual
noncomputable def made(A:Ak)(t:Pt):AL->Pt
 |IX p=>(t.sub p).getD .Ah
 |JL d=>d
 |row xs o=>.lst (EF A t xs++GR A t o)
 |tab ks xs o=>.Ar (ks++(DR A t o).map (·.1)) (EF A t xs++(DR A t o).map (·.2))
noncomputable def EF(A:Ak)(t:Pt):List AL->List Pt
 |[]=>[]
 |x::r=>made A t x::EF A t r
end
theorem DI{A:Ak}{t:Pt}:∀xs:List AL,EF A t xs=xs.map (made A t)
 |[]=>rfl
 |x::r=>by simp only[EF,List.map_cons,DI r]
theorem RO(h:Lt A t)(g:LV A p=true):∃cs ys,A.sub p=some (.row cs true)/\t.sub p=some (.lst ys)/\cs.length<=ys.length/\(Pt.lst ys).doc/\(Pt.lst ys).size<=800/\(Pt.lst ys).deep<=25/\GR A t (some p)=ys.drop cs.length:=by
 unfold LV at g;split at g
 ·rename_i cs m e
  subst g;obtain⟨u,a,d,f,i,b,_⟩:=h.sub e;cases u with
  |lst ys=>
   obtain⟨c,_⟩:=Ak.E_.mp b;exact⟨cs,ys,e,a,by lia,d,f,i,by simp only[GR,e,a]⟩
  |_=>simp[Ak.lets]at b
 ·cases g
theorem RP{b:List Str}(h:Lt A t)(g:LW A b p=true):∃ks xs ls ms ys,A.sub p=some (.tab ks xs ls true)/\t.sub p=some (.Ar ms ys)/\(Pt.Ar ms ys).doc/\(Pt.Ar ms ys).size<=800/\(Pt.Ar ms ys).deep<=25/\(∀n∈ms,n∉ls)/\b.all (FI ks ls)=true/\(Ak.tab ks xs ls true).CF/\DR A t (some p)=(ms.zip ys).filter fun q=>decide (q.1∉ks):=by
 unfold LW at g;split at g
 ·rename_i ks xs ls m e
  simp only[Bool.and_eq_true]at g;obtain⟨f,i⟩:=g;subst f;obtain⟨u,c,j,k,l,a,o⟩:=h.sub e;cases u with
  |Ar ms ys=>
   refine⟨ks,xs,ls,ms,ys,e,c,j,k,l,fun n r=>?_,i,o,by simp only[DR,e,c]⟩;simp only[Ak.lets,Bool.and_eq_true]at a;have d:=a.1.1.2;simp only[Bool.not_eq_true',List.any_eq_false,decide_eq_true_eq]at d;exact fun s=>d n s r
  |_=>simp[Ak.lets]at a
 ·cases g
end AL
theorem Pg:∀{a b:List Key},Dw a=Dw b->a=b:=fun{a b} h=>by
 unfold Dw at h;injection h with h;exact(List.map_inj_right fun x y e=>by cases x<;>cases y<;>simp[dS]at e⊢<;>exact e).mp h
theorem Sd{a b:Option (List Key)}(h:FP a=FP b):a=b:=by
 cases a<;>cases b<;>simp[FP,Dw]at h⊢;exact Pg (by unfold Dw;rw[h])
theorem Ph{a b:List AL}(p:a.Perm b):AL.AI a=AL.AI b:=by
 induction p with
 |nil=>rfl
 |cons x _ c=>simp only[AL.AI,c]
 |swap x y l=>simp only[AL.AI];lia
 |trans _ _ d e=>exact d.trans e
variable{xs:List AL}
namespace AL
mutual
theorem Gp:∀(a b:AL),a.pt=b.pt->a=b
 |IX p,b,h=>by
  cases b<;>simp[pt]at h⊢
  ·exact Pg h
  ·exact absurd h.1 (by decide)
 |JL d,b,h=>by
  cases b<;>simp[pt]at h⊢
  ·exact absurd h.1 (by decide)
  ·exact h
 |row xs o,b,h=>by
  cases b<;>simp[pt]at h⊢
  ·exact⟨FE _ _ h.1,Sd h.2⟩
 |tab ks xs o,b,h=>by
  cases b<;>simp[pt]at h⊢
  ·exact⟨h.1.1,FE _ _ h.1.2,Sd h.2⟩
theorem FE:∀(a b:List AL),CO a=CO b->a=b
 |[],b,h=>by cases b<;>simp[CO]at h⊢
 |x::r,b,h=>by
  cases b<;>simp[CO]at h⊢;exact⟨Gp _ _ h.1,FE _ _ h.2⟩
end
theorem cC{ks:List Str}(l:ks.length=xs.length)(k:EJ (.Ar ks (CO xs)) us):∃(ss:List Str)(ms:List AL),ss.Perm ks/\sortedS ss=true/\ss.map (lk ks xs)=ms.map some/\us=ms.map pt:=by
 obtain⟨ss,a,c,e⟩:=k;obtain⟨d,b⟩:=GZ (xs:=xs) l fun k f=>a.mem_iff.mp f;refine⟨ss,d,a,c,b,some_inj (e.symm.trans ?_)⟩;have:ss.map (lk ks (CO xs))=(ss.map (lk ks xs)).map (Option.map pt):=by
  rw[List.map_map,AW];exact List.map_congr_left fun k _=>Ds pt
 rw[this,b,List.map_map,List.map_map];rfl
structure Wm(A:Ak)(t:Pt)(m:AL)(b:Pt):Prop where
 eq:Pt.Bm b (m.made A t)=true
 ok:b.NA
 dp:b.deep<=m.deep+30
 sz:b.size<=901*m.size
 top:b.top=true
def ig(A:Ak)(t x b:Pt):Prop:=∃m:AL,x=m.pt/\Wm A t m b
def cD(A:Ak)(x:Pt):Prop:=∃m:AL,x=m.pt/\m.ok/\m.good A=true/\m.size<=20000
theorem cD.lP{x:Pt}(h:cD A x):∃n,n<=20000/\Ly n x:=by
 obtain⟨m,rfl,o,_,z⟩:=h;exact⟨m.size,z,m.nd o⟩
theorem UM{m x:AL}(h:x∈m.kids):x.size<=m.size:=by
 cases m with
 |IX p=>cases h
 |JL d=>cases h
 |row a o=>have:=Cq (show x∈a from h);simp only[size];lia
 |tab b a o=>have:=Cq (show x∈a from h);simp only[size];lia
theorem cD.Zs{x:Pt}(h:cD A x)(k:EJ x.hold us):∀u∈us,cD A u:=by
 obtain⟨m,rfl,o,g,z⟩:=h;obtain⟨e,rfl,b⟩:=SF o k;intro u c;obtain⟨y,d,rfl⟩:=List.mem_map.mp c;have a:=b.mem_iff.mp d;have:=UM a;rw[Jb,Bool.and_eq_true,List.all_eq_true]at g;exact⟨y,rfl,Cz (Yd o) y a,g.2 y a,by lia⟩
theorem NQ{A:Ak}{t:Pt}:∀{xs:List AL}{cs:List Pt},Paired (ig A t) (xs.map pt) cs->Paired (Wm A t) xs cs
 |[],_,.nil=>.nil
 |x::xs,_,.cons h r=>by
  obtain⟨y,e,g⟩:=h;have:=Gp _ _ e;subst this;exact .cons g (NQ r)
structure lQ(A:Ak)(t:Pt)(xs:List AL)(cs:List Pt):Prop where
 len:cs.length=xs.length
 eq:Pt.Ca cs (EF A t xs)=true
 at_:∀(i:Nat) x c,xs[i]?=some x->cs[i]?=some c->Pt.Bm c (made A t x)=true
 ok:Pt.FN cs
 dp:Pt.AJ cs<=AJ xs+30
 sz:Pt.AI cs<=901*AI xs
theorem RQ{A:Ak}{t:Pt}:∀{xs:List AL}{cs:List Pt},Paired (Wm A t) xs cs->lQ A t xs cs
 |[],_,.nil=>⟨rfl,rfl,fun i x c h=>(by simp at h),trivial,by simp[Pt.AJ],by simp[Pt.AI]⟩
 |x::xs,_,.cons (b:=c) h r=>by
  obtain⟨f,g,j,k,l,m⟩:=RQ r;refine⟨by simp[f],by simp only[EF,Pt.Ca,Bool.and_eq_true];exact⟨h.eq,g⟩,fun i y d a e=>?_,⟨h.ok,k⟩,?_,?_⟩
  ·cases i with
   |zero=>simp at a e;subst a e;exact h.eq
   |succ i=>exact j i y d (by simpa using a) (by simpa using e)
  ·have:=h.dp;simp only[Pt.AJ,AJ];lia
  ·have:=h.sz;simp only[Pt.AI,AI];lia
theorem Ym(ys:List Pt)(n:Nat):Pt.AI (ys.drop n)<=Pt.AI ys/\Pt.AJ (ys.drop n)<=Pt.AJ ys:=by
 induction ys generalizing n with
 |nil=>simp
 |cons x r a=>
  cases n with
  |zero=>simp
  |succ n=>have:=a n;simp only[List.drop_succ_cons,Pt.AI,Pt.AJ];lia
theorem Yn(h:Lt A t)(g:one A (.row xs o)=true):Pt.FN (GR A t o)/\Pt.AI (GR A t o)<=800/\Pt.AJ (GR A t o)<=25:=by
 cases o with
 |none=>exact⟨trivial,by simp[GR,Pt.AI],by simp[GR,Pt.AJ]⟩
 |some p=>
  obtain⟨c,a,_,_,_,b,d,f,e⟩:=RO h (show LV A p=true from g);rw[e];simp only[Pt.doc]at b;simp only[Pt.size]at d;simp only[Pt.deep]at f;have:=Ym a c.length;exact⟨Pt.NP fun x i=>Pt.Fl (Pt.Ka a b) x (List.mem_of_mem_drop i),by lia,by lia⟩
theorem Wm.row{A:Ak}{t:Pt}{xs:List AL}{cs:List Pt}{o:Option (List Key)}(h:Lt A t)(g:one A (.row xs o)=true)(m:lQ A t xs cs):Wm A t (.row xs o) (.lst (cs++GR A t o)):=by
 obtain⟨t1,t2,t3⟩:=Yn h g;have:=m.dp;have:=m.sz;refine⟨by simp only[made,Pt.Bm];exact Pt.Pf m.eq (Pt.Eg _ t1),Pt.Kq m.ok t1,?_,?_,rfl⟩
 ·simp only[Pt.deep,deep];rw[Pt.Az];lia
 ·simp only[Pt.size,size];rw[Pt.Ab];lia
theorem Yo{p:Str×Pt->Bool}:∀{ms:List Str}{ys:List Pt},ms.Nodup->(((ms.zip ys).filter p).map (·.1)).Nodup:=fun{ms ys} nd=>by
 refine List.Nodup.sublist (List.Sublist.map _ List.filter_sublist) ?_;refine List.Nodup.sublist ?_ nd
 induction ms generalizing ys with
 |nil=>simp
 |cons m r a=>
  cases ys with
  |nil=>simp
  |cons y s=>simp only[List.zip_cons_cons,List.map_cons];exact(a (List.nodup_cons.mp nd).2).cons₂ _
theorem Pj{p:Str×Pt->Bool}:∀{ms:List Str}{ys:List Pt},Pt.AI (((ms.zip ys).filter p).map (·.2))<=Pt.AI ys/\Pt.AJ (((ms.zip ys).filter p).map (·.2))<=Pt.AJ ys
 |[],ys=>by simp[Pt.AI,Pt.AJ]
 |_::_,[]=>by simp
 |m::ms,y::ys=>by
  have:=Pj (p:=p) (ms:=ms) (ys:=ys);rw[List.zip_cons_cons,List.filter_cons];split
  ·simp only[List.map_cons,Pt.AI,Pt.AJ];lia
  ·simp only[Pt.AI,Pt.AJ];lia
structure tR(A:Ak)(t:Pt)(ns:List Str)(o:Option (List Key)):Prop where
 nd:((DR A t o).map (·.1)).Nodup
 ap:∀k∈(DR A t o).map (·.1),k∉ns
 ok:Pt.FN ((DR A t o).map (·.2))
 sz:Pt.AI ((DR A t o).map (·.2))<=800
 dp:Pt.AJ ((DR A t o).map (·.2))<=25
theorem NR{d:List Str}(h:Lt A t)(g:one A (.tab d xs o)=true):tR A t d o:=by
 cases o with
 |none=>exact⟨.nil,fun k c=>(nomatch c),trivial,by simp[DR,Pt.AI],by simp[DR,Pt.AJ]⟩
 |some p=>
  obtain⟨j,B,ls,ms,ys,_,_,f,l,m,n,r,C,e⟩:=RP h (show LW A d p=true from g);simp only[Pt.doc]at f;simp only[Pt.size]at l;simp only[Pt.deep]at m;have fs:=Pj (p:=fun q:Str×Pt=>decide (q.1∉j)) (ms:=ms) (ys:=ys);refine⟨by rw[e];exact Yo f.2.1,fun k c s=>?_,?_,by rw[e];lia,by rw[e];lia⟩
  ·rw[e]at c;obtain⟨q,i,rfl⟩:=List.mem_map.mp c;obtain⟨u,v⟩:=List.mem_filter.mp i;have w:=(List.of_mem_zip (a:=q.1) (b:=q.2) u).1;have:=List.all_eq_true.mp r _ s;simp only[FI,Bool.or_eq_true,decide_eq_true_eq]at this;rcases this with z|z
   ·exact(of_decide_eq_true v) z
   ·exact n _ w z
  ·rw[e];refine Pt.NP fun x y=>?_;obtain⟨q,i,rfl⟩:=List.mem_map.mp y;exact Pt.Fl (Pt.Ka ys f.2.2.2.2) _ (List.of_mem_zip (a:=q.1) (b:=q.2) (List.mem_filter.mp i).1).2
theorem Wm.tab{A:Ak}{t:Pt}{ks ss:List Str}{xs ms:List AL}{cs:List Pt}{o:Option (List Key)}(h:Lt A t)(g:one A (.tab ks xs o)=true)(l:ks.length=xs.length)(nd:ks.Nodup)(pm:ss.Perm ks)(e:ss.map (lk ks xs)=ms.map some)(m:lQ A t ms cs):
  Wm A t (.tab ks xs o) (.Ar (ss++(DR A t o).map (·.1)) (cs++(DR A t o).map (·.2))):=by
 have R:=NR h g;have i:=CV l nd pm e;have p:=pm.length_eq;have w:ms.length=ss.length:=by have:=congrArg List.length e;simpa using this.symm
 have y:=m.len;have B:AL.AJ ms=AL.AJ xs:=Nat.le_antisymm (AL.Ce fun x c=>AL.Ap (i.mem_iff.mp c)) (AL.Ce fun x c=>AL.Ap (i.mem_iff.mpr c));have C:AL.AI ms=AL.AI xs:=Ph i;have D:=R.sz;have E:=R.dp;have F:=m.dp;have G:=m.sz;refine⟨?_,⟨?_,Pt.Kq m.ok R.ok⟩,?_,?_,rfl⟩
 ·simp only[made,Pt.Bm,Bool.and_eq_true,beq_iff_eq];refine⟨by rw[List.length_append,List.length_append,p],Pt.Ef.mpr fun j k x d c=>?_⟩;by_cases q:j<ss.length
  ·rw[List.getElem?_append_left q]at d;rw[List.getElem?_append_left (by lia)]at c;obtain⟨f,n⟩:∃f,ms[j]?=some f:=⟨_,yn (by lia)⟩;have r:lk ks xs k=some f:=by
    have:=congrArg (fun z=>z[j]?) e;simp only[List.getElem?_map,d,n]at this;exact yq this
   refine⟨made A t f,?_,m.at_ j f x n c⟩;exact Pd (by rw[DI,Ds,r];rfl)
  ·rw[List.getElem?_append_right (by lia)]at d;rw[List.getElem?_append_right (by lia)]at c;rw[show j-cs.length=j-ss.length by lia]at c;have s:=yr d;refine⟨x,?_,?_⟩
   ·show lk _ _ k=_;rw[Pe (by rw[DI,List.length_map];exact l) (R.ap k s)];exact Pt.M' R.nd d c
   ·exact Pt.Du x (Pt.Fl R.ok x (yr c))
 ·refine List.nodup_append.mpr ⟨pm.nodup_iff.mpr nd,R.nd,fun a u b v z=>R.ap b v ?_⟩;rw[<-z];exact pm.mem_iff.mp u
 ·simp only[Pt.deep,deep];rw[Pt.Az];lia
 ·simp only[Pt.size,size];rw[Pt.Ab];lia
end AL
def gK:TS:=fun _ _ _=>False
theorem Yp:PS X st gK:=fun _ _ _ _ _ _ h=>h.elim
inductive tS(K:yt)(x y:V)(H:Hp)(Q:VK):Prop
 |mk(a b:Addr)(kvs:List (List Key×V))(k:List Key)(v:V)(e:x=.ref a)(c:y=.ref b)(h:H a=some (.dT kvs))(d:Bg K H b (k.map kV))(g:BQ kvs k=some v)(q:Q v H)
def RS(K:yt)(b ty:TE):TE:=fun a H Q=>b a H fun x c=>ty a c fun y d=>tS K x y d Q
theorem Pk{o i:Expr}{m ty:TE}{pos:Pos}(w:X.A.units+1<cLine)(B:PE X o m)(C:PE X i ty)(D:Xv i):PE X (.Subscript o i pos) (RS X.K m ty):=by
 intro pins s q H Q I h;refine Rq PySem.F.slot_dict_getitem.lookup D (BK (B pins s q H _ I h) fun u E G=>G.elim fun x J L M N=>BK (C pins E q J _ L N) fun O s2 ⟨y,P,c,R,a,b,kvs,k,v,S,T,e,U,g,V⟩=>?_);subst S T;obtain rfl:u=Value.ref a:=M;obtain rfl:O=Value.ref b:=R;obtain⟨z,hd,W,d,t⟩:=Jo c.Ax (.inl e);obtain⟨f,r,⟨Y,Z,h2,n,h3⟩,_⟩:=c.tuple U;obtain⟨w',hw,j⟩:=Hv.some_of (v:=v) (o:=(atKey W k).map (·.2)) (by rw[<-g];exact d.val k);obtain⟨p,hp,l⟩:=Option.map_eq_some_iff.mp hw;refine⟨?_,wpAny_getItem_heap (tupleKind_room_in1 w) ⟨Y,f.toArray,n,Z,h2,h3,by simpa using IE r⟩ t hp ?_⟩
 ·obtain⟨od,_,_,d1,d2,_⟩:=t;exact⟨od,d1,d2.1⟩
 ·rw[l];exact⟨v,P,c.tok _,j,V⟩
section
variable{K:yt} [BR K]
theorem GB.free(k:GB G H)(h:H b=none):G b=none:=by
 cases e:G b with
 |none=>rfl
 |some o=>rcases k.rd b o (.inl e)with z|⟨_,z⟩<;>rw[h]at z<;>cases z
theorem NS(k:GB G H)(h:H b=none):ov G H H' b=H' b:=by
 unfold ov;rw[k.free h,AY h]
inductive Wq(vs:List V)(H:Hp)(Q:VK):Prop
 |mk(G:Hp)(v:V)(t u:Pt)(p:Addr)(ks:List Key)(a:vs=[v,.ref p])(s:GB G H)(b:Val G v t)(c:Bg K H p (ks.map kV))(d:t.sub ks=some u)(e:∀w,Val G w u->Q w H)
def NT:Sp:=fun a H Q _=>Wq (K:=K) a H Q
inductive UN(vs:List V)(H:Hp)(Q:VK):Prop
 |mk(v:V)(t u:Pt)(p:Addr)(ks:List Key)(a:vs=[v,.ref p])(b:Val H v t)(c:Bg K H p (ks.map kV))(d:t.sub ks=some u)(e:t.doc)(f:t.size<=900)(g:∀w,Val H w u->Q w H)
def Pl:Sp:=fun a H Q _=>UN (K:=K) a H Q
inductive UO(vs:List V)(H:Hp)(Q:VK):Prop
 |mk(v:V)(t u:Pt)(p:Addr)(ks:List Key)(a:vs=[v,.ref p])(b:Val H v t)(c:Bg K H p (ks.map kV))(d:t.sub ks=some u)(e:t.doc)(f:t.size<=900)(g:u.doc)(h:u.size<=900)(i:∀w H',AF H H'->Val (nw H H') w u->Q w H')
def Pm:Sp:=fun a H Q _=>UO (K:=K) a H Q
inductive UP(vs:List V)(H:Hp)(Q:VK):Prop
 |mk(G:Hp)(v:V)(a:Ak)(p:Addr)(ks:List Key)(c:vs=[v,.ref p])(s:AF G H)(d:Val G v a.pt)(e:a.CF)(f:a.Hu)(g:a.wt<=900)(h:Bg K H p (ks.map kV))(i:∀w b H',a.sub ks=some b->AF H H'->Val (ov G H H') w b.pt->Q w H')(j:a.sub ks=none->∀H',AF H H'->Q .Ah H')
def Pn:Sp:=fun a H Q _=>UP (K:=K) a H Q
inductive Wr(vs:List V)(H:Hp)(Q:VK):Prop
 |mk(G a:Hp)(v:V)(m:AL)(L:Addr)(ws:List V)(us cs:List Pt)(u d:V)(A:Ak)(t:Pt)(i:vs=[v,.ref L,u,d])(j:AF G H)(k:Val G v m.pt)(l:m.ok)(n:m.good A=true)(o:H L=some (.lst ws))(p:a L=none)(q:∀b,H b=none->a b=none)(r:EJ m.pt.hold us)(s:Paired (AL.ig A t) us cs)(c:AS (nw a H) ws cs)(e:Val G u A.pt)(f:Val G d t)(g:Lt A t)(h:∀(w:V) (b:Pt) (H':Hp),AF H H'->Val (nw a H') w b->AL.Wm A t m b->Q w H')
def Se:Sp:=fun a H Q _=>Wr (K:=K) a H Q
inductive Yq(T:Addr)(a:Pos)(c:Str)(vs:List V)(H:Hp)(Q:VK):Prop
 |mk(G:Hp)(v u d:V)(m:AL)(A:Ak)(t:Pt)(g:vs=[v,u,d])(h:AF G H)(i:G T=none)(j:Val G v m.pt)(k:m.ok)(l:m.good A=true)(n:m.size<=20000)(p:Val G u A.pt)(q:Val G d t)(r:Lt A t)(e:Gm a c T H)(f:∀(w:V) (b:Pt) (H':Hp),(∀b o,b≠T->H b=some o->H' b=some o)->Gm a c T H'->Val (nw H H') w b->AL.Wm A t m b->Q w H')
def Ws(T:Addr)(a:Pos)(b:Str):Sp:=fun c H Q _=>Yq (K:=K) T a b c H Q
inductive Wu(n:Nat)(vs:List V)(H:Hp)(Q:VK):Prop
 |mk(G:Hp)(v d:V)(a:Addr)(ws:List V)(m:AL)(A:Ak)(t:Pt)(e:vs=[v,.ref a,d])(f:GB G H)(g:Val G v m.pt)(h:m.ok)(i:m.good A=true)(j:Known (K:=K) G H A ws a)(k:∀r b,A.sub r=some b->Zp G [] ws r)(l:Val G d t)(o:Lt A t)(p:m.deep+2<=n)(c:∀(w:V) (H':Hp),AF H H'->Val (ov G H H') w (m.made A t)->Q w H')
def Je(n:Nat):Sp:=fun a H Q _=>Wu (K:=K) n a H Q
inductive Yr(n:Nat)(vs:List V)(H:Hp)(Q:VK):Prop
 |mk(w:V)(a:Ak)(l nm:Addr)(cs:List Int)(ys:List Str)(d:vs=[w,.ref l,.ref nm])(e:Val (Cs l H) w a.pt)(f:a.CF)(g:a.dp+23<=n)(c:a.dp<=22)(h:a.GO<=800)(i:H l=some (.lst (cs.map V.int)))(j:cs.length<=100)(k:nm≠l)(m:Tp H nm ys)(o:∀(v:V) (t:Pt) (b:List Int) (H':Hp),Bt (some l) H H'->H' l=some (.lst (b.map V.int))->b.length<=cs.length->Val (nw H H') v t->t.doc->t.size<=a.GO->t.deep<=a.dp+2->a.lets t=true->Q v H')
def NU(n:Nat):Sp:=fun a H Q _=>Yr (K:=K) n a H Q
theorem Gm.IV{a:Pos}{b:Str}(f:Gm a b T H')(g:H T≠none):Gm a b T (L2.IV H H'):=by
 obtain⟨o,e⟩:=Option.ne_none_iff_exists'.mp g;cases f with
 |new h=>exact .new (by rw[JY e];exact h)
 |old c i j t h k d n=>exact .old c i j t (by rw[JY e];exact h) (YV k) d n
theorem Gm.lR{a:Pos}{g:Str}{d:Nat}(j:Gm a g T H)(f:IW G d H H')(p:XX G H):Gm a g T H':=by
 have st:∀b o,H b=some o->(¬Plain o)->H' b=some o:=fun b o e k=>by
  rcases f b o e with h|⟨u,t,i,r,_⟩
  ·exact h
  ·have:=p b u i r;rw[e]at this;cases this;exact absurd i k
 cases j with
 |new h=>exact .new (st _ _ h fun z=>z)
 |old c l m t h q d n=>exact .old c l m t (st _ _ h fun z=>z) (st _ _ q fun z=>z) d n
theorem Bo(s:AF H H'):AF (Cs T H) (Cs T H'):=Ei s
theorem Ys(s:AF H H')(g:AF G (Cs T H'))(c:H T≠none):AF (ov G H H') (Cs T H'):=fun b o e=>by
 unfold ov at e;cases h:G b with
 |some z=>rw[h]at e;cases e;exact g _ _ h
 |none=>
  rw[h]at e;cases a:H b with
  |some z=>simp only at e;rw[Bz a]at e;cases e
  |none=>
   simp only at e;rw[AY a]at e;rw[CI (fun z=>c (by rw[<-z];exact a))];exact e
theorem Jf(c:H T≠none):AF (nw H H') (Cs T H'):=fun b o e=>by
 cases a:H b with
 |some z=>rw[Bz a]at e;cases e
 |none=>
  rw[AY a]at e;rw[CI (fun z=>c (by rw[<-z];exact a))];exact e
end
theorem DA{p:Addr}{o:HO}(h:H p=none):∃H',upd H p o=H'/\AF H H'/\H' p=some o:=⟨_,rfl,AF.new h,AD⟩
theorem Bi.mm{j k:Nat}{A:Around}(r:Bi k A)(h:j<=k:=by first|decide|omega):Bi j A:=r.mono h
theorem Br(K:yt){j:Int}(i:Nat){y:_}{b c pos:Pos}(d:X.N[i]?=some x:=by rfl)(f:iQ X.env.scope x:=by first|exact Or.inl rfl|exact Or.inr (Or.inl rfl)|exact Or.inr (Or.inr rfl))(g:(x==("__debug__":Str))=false:=by decide)(a:(x==("__classdict__":Str))=false:=by decide)(e:X.K=K:=by rfl):PE X (.Subscript (.Name x b) (.Constant (.int j) y c) pos) (aN (MX K) (aG i) (tC (.int j))):=by
 subst e;exact FG FR (pv i d f g a) AE (fun _ _=>rfl)
variable{e:Expr}
theorem Ae(i:Nat){a:TE}{pos pos':Pos}(b:X.N.Nodup)(c:PE X e a)(d:X.N[i]?=some x:=by rfl)(f:Loc X.env.scope x:=by exact Or.inl rfl)(g:swapsWith e (some (.Name x pos')) pos.line X.env=pure false:=by rfl)(h:X.fn x=true∨X.env.scope.names.lookup x=some .local:=by first|exact .inl rfl|exact .inr rfl|assumption):
  PS X (.Assign [.Name x pos'] e pos) (QL a (CA i)):=EG b d f c g h
theorem Fu{x y z:V}:[x,y,z].length<=sizeLine:=An (show 3<=1000 by decide)
theorem CJ(i:Nat){pos:Pos}(a:X.N.Nodup)(b:X.N[i]?=some x:=by rfl)(c:Loc X.env.scope x:=by exact Or.inl rfl)(d:X.fn x=true∨X.env.scope.names.lookup x=some .local:=by first|exact .inl rfl|exact .inr rfl|assumption):PG X (.Name x pos) (CA i):=Gx a b c d
section
variable{P:Program} {w:World} {K:yt} {mg:Str->Option Value} {base:Heap}
theorem Co.oq{c:FuncData}{N:List Str}{k:Nat}(F:Co K x qual st f c)(S:AZ N ps (AM st))(a:∀(b:Value) (A:Around) (outer:List Env) (s:Shared) (H:Hp) (vs:List V) (Q:VK) (E:XK),Bi k (A.deeper (envOfC qual (AM st) s.heap.objs.size f b))->sp vs H Q E->
   ∃t,QC (MU CK P w K mg base N qual (AM st) f b A outer s H E).ZS (Cg st) t/\t {nx:=fun _ d=>Q .Ah d,rt:=Q} (start N vs) H)(len:∀vs H Q E,sp vs H Q E->vs.length=ps.length:=by intro _ _ _ _ h;first|(obtain⟨⟩:=h;subst_vars;rfl)|(repeat obtain⟨_,h⟩:=h);subst_vars;rfl):Au P w K mg base CK (k+1) f c ps sp:=F.ok S len a
end
theorem BY{k:Nat}{p pos:Pos}{a:List Expr}{t:TA}(D:Df X.prog X.w X.K X.mg X.base x ps k sp)(g:Bi k X.A)(h:PA X (e::a) t)(i:Gl X x:=by rfl)(c:(x==("__debug__":Str))=false:=by decide)(j:starEach (e::a) X.env=(false,eval e X.env)::starEach a X.env:=by rfl)(d:(backTo pos (starEach a X.env)).any (·.1)=false:=by rfl):PE X (.Call (.Name x p) (e::a) [] pos) (Lb sp [] E0 t):=by
 obtain⟨f,l,k,b,m,G⟩:=D.ex;exact Rm G g i m k b .nil OM h c j d
theorem AX{a:TE}(h:PE X e a)(b:starEach [e] X.env=(false,eval e X.env)::starEach [] X.env:=by rfl):PA X [e] (Ut a aU):=AA h CH b
theorem FF(K:yt){a b:Expr}{c d:TE}{pos:Pos}(f:PE X a c)(g:PE X b d)(h:Rn b:=by exact fun _ _=>rfl)(e:X.K=K:=by rfl):PE X (.Subscript a b pos) (aN (eo K) c d):=by
 subst e;exact FG Xq f g h
theorem LY{o i:Expr}{a ty:TE}{pos:Pos}(b:X.A.units+1<cLine)(c:PE X o a)(d:PE X i ty)(e:Xv i:=by exact fun _ _=>rfl):PE X (.Subscript o i pos) (ZY a ty):=Xx b c d e
theorem cmp{b pos:Pos}{iter a:Expr}{c:TI}{d:TE}(fv:List Str)(fs:List Nat)(e:PI X (.Name x b) iter c)(f:∀C g h i,PE (DV X (x::fv) scope C g h i) a d)(j:X.calm=true:=by rfl)(ok:DF X scope x fv fs:=by exact .of (by rfl))(k:∀x,foldedSetIterable iter X.env x=pure x:=by intro _;rfl):PE X (.ListComp a [⟨.Name x b,iter,[],0⟩] scope pos) (OO c Mg d fs):=X_ j ok e (fun _ _ _ _=>Fz) f k
theorem Fv{a:TE}{p pos:Pos}(c:X.mg "len"=none)(h:PE X e a)(d:Gl X "len":=by rfl)(b:starEach [e] X.env=(false,eval e X.env)::starEach [] X.env:=by rfl):PE X (.Call (.Name "len" p) [e] [] pos) (kA (FU X.K) (Ut a aU)):=Am Ma d c PySem.boot_len (AA h CH b) (by decide) (by decide) b
theorem LC{a iter:Expr}{body:List Stmt}{b:TI}{g:TG}{c:TS}{pos:Pos}(d:PI X a iter b)(e:PG X a g)(f:QC X body c)(h:PassesOwn (model X.prog X.w) X.A X.env X.xe:=by exact PassesOwn.never)(i:X.calm=true:=by rfl)(j:∀x,foldedSetIterable iter X.env x=pure x:=by intro _;rfl):PS X (.For a iter body [] pos) (eP b g c):=aM h i d e f j
theorem BO{c:Bool}{A B:Prop}(h:B)(a:c=false:=by decide+kernel):if c=true then A else B:=BF a h
theorem DB{c:Bool}{A B:Prop}(h:A)(a:c=true:=by decide+kernel):if c=true then A else B:=Cv a h
inductive FA(K:yt)(x:Str)(st:Stmt):Prop
 |mk(f:Addr)(b:FuncData)(F:Co K x x st f b)(a:PySem.W.nsIn K mainGlobals x=some (some (.ref f)))
theorem fa{e:Value}{g h:Option Addr}{kV doc b ct:Value}(a:PySem.W.nsIn K mainGlobals x=some (some (.ref f)))(l:K.lookup f=some ⟨e,g,.func (PySem.W.fnOf x x (DY st) (Cg st) (AM st) .none kV doc pm h b ct),d⟩)(c:PySem.W.codeIn K b x=true):FA (LX K) x st:=⟨_,_,QZ (Gn l rfl) (RL c) (RM l),Bj a⟩
end L2
namespace cE
open PySem L2
def top(i:Nat):Stmt:=PySem.Challenge.pw_patchbough_k51_what_is_made.main.body.getD i (.Pass ⟨0,0,0,0⟩)
abbrev Ih:Stmt:=top 1
abbrev NV:Stmt:=top 2
abbrev Hr:Stmt:=top 4
abbrev Kr:Stmt:=top 5
abbrev Gq:Stmt:=top 6
abbrev NW:Stmt:=top 7
abbrev RT:Stmt:=top 12
abbrev Ks:Stmt:=top 13
abbrev NX:Stmt:=top 14
abbrev Ii:Stmt:=top 17
abbrev Fw:Stmt:=top 18
abbrev NY:Stmt:=top 19
abbrev Gr:Stmt:=top 20
abbrev Ij:Stmt:=top 21
abbrev Ik:Stmt:=top 22
abbrev Kt:Stmt:=top 23
abbrev Gs:Stmt:=top 24
abbrev Gu:Stmt:=top 25
abbrev RU:Stmt:=top 27
abbrev Ku:Stmt:=top 28
abbrev Il:Stmt:=top 29
abbrev Wv:Stmt:=top 31
abbrev Yt:Stmt:=top 32
abbrev RV:Stmt:=top 33
abbrev cF:Stmt:=top 34
abbrev Sf:Stmt:=top 35
abbrev Sg:Stmt:=top 36
abbrev Sh:Stmt:=top 37
abbrev Yu:Stmt:=top 38
abbrev Si:Stmt:=top 39
abbrev cG:Stmt:=top 40
abbrev Ww:Stmt:=top 41
abbrev Na:Stmt:=top 42
abbrev Nb:Stmt:=top 43
abbrev Wx:Stmt:=top 44
abbrev Nc:Stmt:=top 45
abbrev RW:Stmt:=top 46
abbrev Nd:Stmt:=top 47
inductive gL{a:Type}(c d:a->Prop):Prop
 |mk(b:a)(e:c b)(f:d b)
inductive gM{c d:Type}(e f g h i j k l m:c->d->Prop):Prop
 |mk(a:c)(b:d)(n:e a b)(o:f a b)(p:g a b)(q:h a b)(h4:i a b)(r:j a b)(s:k a b)(t:l a b)(u:m a b)
inductive cH{d e f:Type}(h i j k l m n o p q g:d->e->f->Prop):Prop
 |mk(a:d)(b:e)(c:f)(s:h a b c)(t:i a b c)(u:j a b c)(v:k a b c)(h4:l a b c)(w:m a b c)(x:n a b c)(y:o a b c)(z:p a b c)(A:q a b c)(r:g a b c)
inductive gN{a b c d:Type}(i j k l:a->b->c->d->Prop):Prop
 |mk(e:a)(f:b)(g:c)(h:d)(m:i e f g h)(n:j e f g h)(o:k e f g h)(p:l e f g h)
abbrev ij:Pos:=⟨115,38,115,89⟩
abbrev ip:Str:="made"++".<locals>."++"<lambda>"
end cE
namespace cE
open PySem L2
variable{f:Addr}{fd M a c m J:FuncData}{n:Nat}
section
variable{P:Program} {w:World} {K:yt} [BR K] {mg:Str->Option Value} {base:Heap}
theorem Kv:AZ ["root","inner","found","at"] ["root","inner"] (AM Ih):={}
theorem Po{u:Addr}{g:FuncData}{Y:FuncData}(F:Co K "gathered" "gathered" Ih f Y)(T:Txt mg)(kI:PySem.W.keepIn K (.ref u)=true)(bI:Binds K g ["node"] [])(GI:Au P w K mg base CK 3 u g ["node"] KX):Au P w K mg base CK 4 f Y ["root","inner"] (SH u):=by
 refine F.oq Kv fun Jr A outer s H vs Q E Z h=>?_
 ·obtain⟨G,v,t,n,rfl,sG,hv,C,i,q⟩:=h;have nd:=Kv.nd;have hu:=BJ Z;have D:Bi 3 _:=Z.mono (by decide);refine⟨_,(AB (Ae 2 nd (BD (AX (pv 0)))) (AB (Ae 3 nd AE) (AB (Nz PassesOwn.never (AR La (pv 3) (Fv T.len (pv 2)) (AV _)) (AB (Cf (FW PySem.F.plainAttrs_list PySem.F.slot_list_extend PySem.F.type_list_extend ET (pv 2) (AX (Oc (pv 1) GI D kI bI .nil OM (AX (FF K (pv 2) (pv 3))))))) (AG (Ae 3 nd (AO Bp (pv 3) AE))))) (AG (AQ (pv 2)))))),?_⟩;refine⟨_,rfl,BG,fun L I=>?_⟩;have s0:=AF.new (o:=.lst [v]) I;dsimp only[CA,QK];refine Rw (fun m J y=>∃(c:List V)(l:List Pt)(b:List (List Pt))(k:Nat),J=[some v,some (.ref u),some (.ref L),some (.int (k:Int))]/\AF H y/\y L=some (.lst c)/\AS G c l/\Tu t k l b/\k<=l.length/\EL m (l.drop k)/\k+m=n) (n+0) ⟨[v],[t],[],0,rfl,s0,AD,.cons hv .nil,.start,by simp,.cons C .nil,by simp⟩ ?_ (fun J H Q Q' h ⟨v1,e1,v2,e2,a1,n1,e3,l1,i1,j1,e4,e5,b1,e6,q⟩=>⟨v1,e1,v2,e2,a1,n1,e3,l1,i1,j1,e4,e5,b1,e6,h _ _ q⟩);rintro m J y ⟨c,l,b,k,rfl,M,a,B,bf,xq,N,hk⟩;have le:=B.length;refine⟨_,rfl,_,rfl,L,_,rfl,.inl (As.of a),_,_,rfl,rfl,_,rfl,?_⟩;have ld:=N.len;rw[List.length_drop]at ld;refine VF (fun O=>?_) (fun O=>?_)
  ·have R:k<c.length:=by
    have:=of_decide_eq_true O;omega
   obtain⟨x,hx⟩:∃x,c[k]?=some x:=⟨_,yn R⟩;obtain⟨tx,d,vx⟩:=B.get hx;obtain⟨n',oK,nx⟩:=f' N hk d i;refine⟨_,rfl,.inl ⟨rfl,_,As.of a⟩,_,rfl,rfl,_,rfl,_,rfl,L,_,_,_,rfl,rfl,As.of a,Av hx,G,x,tx,n',rfl,sG.trans M,vx,nx,fun p S us H2 s2 np hp j kd=>?_⟩;obtain⟨_,lu,m',U,r,ek⟩:=YO N hk d kd i;have oY:=j.length;have X:=r.len;rw[List.length_drop,List.length_append]at X;refine⟨L,p,_,_,rfl,rfl,s2 _ _ a,hp,HW (by omega),_,rfl,_,_,rfl,rfl,m',U,c++S,l++us,b++[us],k+1,rfl,(M.trans s2).put I,AD,B.append j,.next bf d kd,by rw[List.length_append];omega,r,by omega⟩
  ·have xr:c.length<=k:=by
    refine Nat.le_of_not_lt fun z=>O (decide_eq_true ?_);omega
   have e:k=l.length:=by omega
   subst e;exact⟨_,rfl,q L c l b y M I a B bf (by omega)⟩
theorem Pp:AZ ["root","inner","join","found","told","end","at","start"] ["root","inner","join"] (AM NV):={}
theorem UQ{L:Addr}(F:Co K "folded" "folded" NV f fd)(T:Txt mg)(c:Df P w K mg base "gathered" ["root","inner"] 4 (SH L))(kI:PySem.W.keepIn K (.ref L)=true)(bI:Binds K M ["node"] [])(GI:Au P w K mg base CK 3 L M ["node"] KX):Au P w K mg base CK 6 f fd ["root","inner","join"] (NM P w K mg base L):=by
 refine F.oq Pp fun Jr A outer s H vs Q E hr h=>?_
 ·obtain⟨R,D,v,t,fJ,xu,xw,rfl,hv,hD,hN,Zs,kJ,bJ,GJ,q⟩:=h;have nd:=Pp.nd;have hu:=BJ hr;have tU:Bi 3 _:=hr.mono (by decide);have tV:Bi 5 _:=hr.mono (by decide);refine⟨_,(AB (Ae 3 nd (BY c hr.mm (AA (pv 0) (AX (pv 1))))) (AB (Ae 4 nd (AO VA (BD (AX CW)) (Fv T.len (pv 3)))) (AB (Ae 5 nd (Fv T.len (pv 3))) (AB (LC (Ts rfl T.range (AA (AO GW (Fv T.len (pv 3)) AE) (AA (Uo QQ AE) (AX (Uo QQ AE))))) (CJ 6 nd) (AB (Ae 7 nd (AO GW (pv 5) (Fv T.len (Oc (pv 1) GI tU kI bI .nil OM (AX (FF K (pv 3) (pv 6))))))) (AB (QM (Wc (pv 2) GJ tV kJ bJ .nil OM (AA (FF K (pv 3) (pv 6)) (AX (DK (r:=Uv K) JR (pv 4) (DX (pv 7)) (DX (pv 5)))))) (Uk (pv 4) (pv 6) set_list)) (AG (Ae 5 nd (pv 7)))))) (AG (AQ (FF K (pv 4) AE))))))),?_⟩;obtain⟨n0,tW,Zt⟩:=hN _ hD;refine⟨_,rfl,_,rfl,H,v,t,n0,rfl,AF.refl _,hv,Zt,tW,fun p N J a H1 s1 np hp vl bf xx=>?_⟩;have l9:J.length<=20000:=by lia
  have B:=Zr hD Zs bf;have le:=vl.length;have lS:=B.len;have l0:1<=J.length:=by rw[B.eq];simp
  refine⟨BG,fun p0 Yv=>?_⟩;obtain⟨H2,m,t0,f0⟩:=DA (o:=.lst [.Ah]) Yv;rw[m];clear m;refine⟨_,rfl,p,_,rfl,.inl (As.of (t0 _ _ hp)),p0,_,_,rfl,rfl,f0,by lia,by lia,HW (by simp;lia),fun k d=>?_⟩;have e1:(List.replicate ((N.length:Nat):Int).toNat [V.Ah]).flatten=List.replicate N.length .Ah:=by
   rw[Int.toNat_natCast];generalize N.length=n
   induction n with
   |zero=>rfl
   |succ n ih=>rw[List.replicate_succ,List.flatten_cons,ih];rfl
  rw[e1];obtain⟨O,m,tT,fT⟩:=DA (o:=.lst (List.replicate N.length .Ah)) d;rw[m];clear m;have S:=t0.trans tT;have S3:=s1.trans S;have C:=S _ _ hp;have U:H k=none:=(s1.trans t0).free d;refine⟨_,rfl,p,_,rfl,.inl (As.of C),?_⟩;refine⟨_,rfl,p,_,rfl,.inl (As.of C),_,_,rfl,rfl,_,rfl,_,rfl,J.length,by rw[le],by lia,?_⟩;refine Vv (n:=J.length) (fun i σ u=>∃(g:List V)(o6 o7:Option V),σ=[some v,some (.ref L),some (.ref fJ),some (.ref p),some (.ref k),some (.int ((1+(a.take i).flatten.length:Nat):Int)),o6,o7]/\Bt (some k) O u/\u k=some (.lst g)/\Yj R O u J g i) ⟨_,none,none,?_,.refl,fT,⟨by simp[le],fun j x h1 X=>?_⟩⟩ ?_ ?_
  ·rw[<-lS,List.take_length,le,B.eq,List.length_cons,Nat.add_comm];rfl
  ·have:=(yo X).1;lia
  ·rintro i σ u hi ⟨g,o6,o7,rfl,G,hT,F⟩;obtain⟨x,hx⟩:∃x,J[i]?=some x:=⟨_,yn hi⟩;obtain⟨ks,Y⟩:∃ks,a[i]?=some ks:=⟨_,yn (by lia)⟩;obtain⟨b1,b2,b3,b4⟩:=B.at_ Y;have kd:=B.kids i x ks hx Y;have ox:=B.ok x (yr hx);obtain⟨nx,xy,tY⟩:=hN _ ox;obtain⟨y,hy,vy⟩:=vl.get' hx;have Z:AF H u:=fun b o e=>G.keep b o (fun z=>by rw[<-yq z,U]at e;cases e) (S3 _ _ e);have tZ:k≠p:=fun z=>by rw[z]at d;rw[t0 _ _ hp]at d;cases d
   have Nn:u p=some (.lst N):=G.keep p _ (fun z=>tZ (yq z)) C;refine⟨_,rfl,_,rfl,rfl,_,rfl,_,rfl,p,_,_,_,rfl,rfl,As.of Nn,Av hy,H,y,x,nx,rfl,Z,vy,tY,fun pI lK l H4 s4 nI hI Yw tm=>?_⟩;have ek:=tm.one kd;subst ek;have oY:=Yw.length;refine⟨pI,_,rfl,.inl (As.of hI),_,_,rfl,rfl,?_⟩;have tu:(((1+(a.take (i+1)).flatten.length:Nat):Int))-((lK.length:Nat):Int)=((1+(a.take i).flatten.length:Nat):Int):=by lia
   rw[tu];have lU:=s4 _ _ hT;have iq:=s4 _ _ Nn;refine⟨_,rfl,rfl,_,rfl,_,rfl,p,_,_,_,rfl,rfl,As.of iq,Av hy,?_⟩;refine⟨_,rfl,_,rfl,_,rfl,_,rfl,_,rfl,k,g,rfl,As.of lU,fun pS oZ=>?_⟩;rw[V_ g _ _ (by lia) (by rw[F.len];lia),show 1+(a.take (i+1)).flatten.length-(1+(a.take i).flatten.length)=l.length by lia];obtain⟨cs,g1,g2⟩:=F.slice l.length (1+(a.take i).flatten.length) (by lia) b4;rw[b2]at g1;obtain⟨H5,m,t5,f5⟩:=DA (o:=.lst ((g.drop (1+(a.take i).flatten.length)).take l.length)) oZ;rw[m];clear m;have s5:=s4.trans t5;have lV:∀b,H5 b=none->O b=none:=fun b h=>G.EC b (s5.free h);refine⟨O,y,x,pS,_,l,cs,rfl,Z.trans s5,vy,ox,f5,G.EC _ (s4.free oZ),lV,S3,kd,g1,g2.up (BB (fun b h=>h) fun b o _ h=>s5 _ _ h),fun w b H6 s6 vw gd=>?_⟩;have I:=s5.trans s6;have t_:=I _ _ hT;have tl:i<g.length:=by rw[F.len];exact hi
   refine⟨_,rfl,_,rfl,k,g,_,i,rfl,rfl,t_,by unfold QE;rw[if_pos (by lia),if_pos (by lia),Int.toNat_natCast],?_⟩;refine⟨_,rfl,?_⟩;have oe:O k≠none:=by rw[fT];simp
   refine⟨g.set i w,_,_,rfl,(G.trans (.of I)).put,AD,F.set (fun b o h1 X=>?_) hx gd (vw.up (BB (fun b h=>h) fun b o h1 X=>?_))⟩
   ·rw[AH (fun z=>oe (by rw[<-z];exact h1))];exact I _ _ X
   ·rw[AH (fun z=>oe (by rw[<-z];exact h1))];exact X
  ·rintro σ u ⟨g,o6,o7,rfl,G,hT,F⟩;obtain⟨w,b,g1,g2,g3⟩:=F.val 0 t (Nat.zero_le _) (by rw[B.eq];rfl);refine⟨_,rfl,k,g,0,w,rfl,rfl,As.of hT,Av g1,q w b u (fun b o e=>G.keep b o (fun z=>by rw[<-yq z,U]at e;cases e) (S3 _ _ e)) (g3.up (BB (fun b h=>S3.free h) fun b o _ h=>h)) g2⟩
theorem MK:AZ ["doc"] ["doc"] (AM Hr):={}
theorem Kw{l:FuncData}(F:Co K "steps_of" "steps_of" Hr f l)(T:Txt mg):Au P w K mg base CK 1 f l ["doc"] HN:=by
 refine F.oq MK fun o A outer s H m Q E d h=>?_
 ·obtain⟨v,t,rfl,u,hold,q⟩:=h;have nd:=MK.nd;have B:=BJ d;refine⟨_,(AB (Aa (BV (Am EW rfl T.isinstance Af (AA (pv 0) (AX (BU (v:=.ty "list") rfl T.list DG rfl))))) (AG (AQ (A' (LO rfl) rfl T.list DG (AX (Vb rfl T.range (AX (Fv T.len (pv 0)))))))) AN) (AB (Aa (BV (Am EW rfl T.isinstance Af (AA (pv 0) (AX (BU (v:=.ty "dict") rfl T.dict CZ rfl))))) (AG (AQ (Am (Cu rfl) rfl T.sorted EZ (AX (pv 0))))) AN) (AG (AQ (BD CH))))),?_⟩;cases u with
  |int i=>
   refine⟨_,rfl,_,"list","int",rfl,rfl,.int i,_,rfl,BE ⟨_,rfl,_,"dict","int",rfl,rfl,.int i,_,rfl,BE ?_⟩⟩;exact⟨Nat.zero_le _,fun p c=>q p [] _ (AF.new c) c AD rfl⟩
  |str x=>
   refine⟨_,rfl,_,"list","str",rfl,rfl,.str x,_,rfl,BE ⟨_,rfl,_,"dict","str",rfl,rfl,.str x,_,rfl,BE ?_⟩⟩;exact⟨Nat.zero_le _,fun p c=>q p [] _ (AF.new c) c AD rfl⟩
  |bl b=>exact hold.elim
  |Ah=>exact hold.elim
  |tup _ _=>exact hold.elim
  |@lst a m j h r=>
   have C:j.length<=900:=hold;have e:=r.length;refine⟨_,rfl,_,"list","list",rfl,rfl,.lst h,_,rfl,Cc ?_⟩;refine⟨_,rfl,a,_,rfl,.inl (.inl h),_,rfl,fun r d=>?_⟩;refine⟨r,m.length,rfl,AD,by omega,fun p c=>?_⟩;exact q p _ _ ((AF.new d).trans (AF.new c)) ((AF.new d).free c) AD (by show _=_;rw[e])
  |@Ar a kvs g j h n r=>
   have D:kvs.length=g.length:=by have:=congrArg List.length n;simpa using this
   have G:g.length=j.length/\g.length<64:=hold;refine⟨_,rfl,_,"list","dict",rfl,rfl,.dK h,_,rfl,BE ?_⟩;refine⟨_,rfl,_,"dict","dict",rfl,rfl,.dK h,_,rfl,Cc ?_⟩;exact⟨_,rfl,a,_,g,rfl,h,n,by omega,fun p k y z s c perm Hu=>q p _ y s z c ⟨k,rfl,perm,Hu⟩⟩
theorem Nf(F:Co K "steps_of" "steps_of" Hr f a)(T:Txt mg):Au P w K mg base CK 1 f a ["doc"] Mn:=(Kw F T).imp fun _ _ _ _ h=>Ou h
theorem ML:AZ ["doc"] ["doc"] (AM Kr):={}
theorem RX(F:Co K "inner_of" "inner_of" Kr f M)(T:Txt mg)(c:Df P w K mg base "steps_of" ["doc"] 1 HN):Au P w K mg base CK 2 f M ["doc"] KN:=by
 refine F.oq ML fun Z A outer s H vs Q E N h=>?_
 ·obtain⟨G,v,t,rfl,O,C,hold,q⟩:=h;have nd:=ML.nd;have hu:=BJ N;refine⟨_,(AG (AQ (cmp ["doc"] [0] (CT (BY c N.mm (AX (pv 0)))) fun _ _ _ _=>(Dq (FF K (pv 1) (pv 0)) (LY hu (pv 1) (pv 0)))))),?_⟩;refine⟨_,rfl,v,t,rfl,C.up O,hold,fun p l H1 I np z st=>?_⟩;obtain⟨B,us,vl,kd,S,ae⟩:=C.kids hold st;have x_:l.length<=900:=by
   cases C with
   |int i=>rw[show l=[]from st];decide
   |str i=>rw[show l=[]from st];decide
   |bl b=>exact hold.elim
   |Ah=>exact hold.elim
   |tup _ _=>exact hold.elim
   |@lst a vs ts h r=>rw[show l=_ from st,List.length_map,List.length_range];exact hold
   |@Ar a kvs ks ts h hk r=>
    obtain⟨ss,rfl,pm,so⟩:=st;rw[List.length_map,pm.length_eq];have:=hold.2;omega
  have U:∀{i:Nat}{x:V},l[i]?=some x->l.getD i .Ah=x:=fun h=>by rw[List.getD_eq_getElem?_getD,h];rfl
  refine⟨p,rfl,⟨_,As.of z⟩,?_⟩;refine TY (n:=l.length) (fun i=>l.getD i .Ah) (fun i=>B.getD i .Ah) (fun _=>true) (An (by omega)) (fun i D m u d=>⟨_,_,(AF.new d).seq (As.of z),yn u⟩) (fun i D m v H' u d y=>?_) (fun D m d=>⟨_,(AF.new d).seq (As.of z),Nat.le_refl _⟩) (fun i D m R u d r=>by exact r) (fun i D m R u d _ r=>?_) (fun D d=>?_)
  ·obtain⟨e,y⟩:=y;exact⟨(U (y _ ((AF.new d).seq (As.of z)))).symm,e⟩
  ·obtain⟨x,X⟩:∃x,B[i]?=some x:=⟨_,yn (by rw[S];exact u)⟩;have ex:B.getD i .Ah=x:=by rw[List.getD_eq_getElem?_getD,X];rfl
   rw[ex]at r;have Y:=(O.trans I).trans (AF.new (o:=.lst m) d);obtain⟨st,J,g⟩:=ae i x X;rw[U J];rcases g with⟨a,xs,j,rfl,h,rfl,L⟩|⟨a,kvs,k,rfl,h,rfl,L⟩
   ·exact .inl ⟨_,rfl,_,rfl,a,_,_,_,rfl,rfl,.inl (h.up (Y _)),Av L,r⟩
   ·refine .inr ⟨_,rfl,_,rfl,a,x,rfl,?_,r⟩;rw[<-L];exact .inl ⟨_,Sum.inr k,h.up (Y _),rfl,rfl⟩
  ·refine q D B us _ (I.trans (AF.new d)) (I.free d) ?_ vl kd;rw[AD];congr 2;rw[List.filter_eq_self.mpr fun _ _=>rfl];refine List.ext_getElem (by simp[S]) fun i h1 h2=>?_;simp only[List.getElem_map,List.getElem_range];rw[List.getD_eq_getElem?_getD,yn h2];rfl
theorem Iw:AZ ["doc"] ["doc"] (AM Gq):={}
theorem Ng(F:Co K "outer_copy" "outer_copy" Gq f c)(T:Txt mg):Au P w K mg base CK 1 f c ["doc"] Rx:=by
 refine F.oq Iw fun e A outer s H j Q E g h=>?_
 ·obtain⟨d,rfl,b,q⟩:=h;have nd:=Iw.nd;have k:=BJ g;refine⟨_,(AB (Aa (BV (Am EW rfl T.isinstance Af (AA (pv 0) (AX (BU (v:=.ty "list") rfl T.list DG rfl))))) (AG (AQ (A' Ep rfl T.list DG (AX (pv 0))))) AN) (AB (Aa (BV (Am EW rfl T.isinstance Af (AA (pv 0) (AX (BU (v:=.ty "dict") rfl T.dict CZ rfl))))) (AG (AQ (A' KC rfl T.dict CZ (AX (pv 0))))) AN) (AG (AQ (pv 0))))),?_⟩;cases d with
  |leaf v=>
   refine⟨_,rfl,_,"list",Dc.fe (.leaf v),rfl,rfl,Dc.Za b,_,rfl,BF (by cases v<;>rfl) ?_⟩;refine⟨_,rfl,_,"dict",Dc.fe (.leaf v),rfl,rfl,Dc.Za b,_,rfl,BF (by cases v<;>rfl) ?_⟩;exact⟨_,rfl,q⟩
  |row a i=>
   refine⟨_,rfl,_,"list",_,rfl,rfl,Dc.Za b,_,rfl,Cv rfl ?_⟩;simp only[Dc.At]at b;exact⟨_,rfl,a,_,rfl,.inl (.inl b.1),q⟩
  |tab a l i=>
   refine⟨_,rfl,_,"list",_,rfl,rfl,Dc.Za b,_,rfl,BF rfl ?_⟩;refine⟨_,rfl,_,"dict",_,rfl,rfl,Dc.Za b,_,rfl,Cv rfl ?_⟩;simp only[Dc.At]at b;exact⟨_,rfl,a,_,rfl,b.1,q⟩
theorem Pq:AZ ["doc","told","waiting","part","steps","step"] ["doc"] (AM NW):={}
theorem UR(F:Co K "copy_of" "copy_of" NW f fd)(T:Txt mg)(Wy:Df P w K mg base "steps_of" ["doc"] 1 Mn)(B:Df P w K mg base "outer_copy" ["doc"] 1 Rx):Au P w K mg base CK 2 f fd ["doc"] FZ:=by
 refine F.oq Pq fun Jr A outer s H R Q E hr h=>?_
 ·obtain⟨d,rfl,ir,uA,hsz,q⟩:=h;have nd:=Pq.nd;have hu:=BJ hr;refine⟨_,(AB (Ae 1 nd (BY B hr.mm (AX (pv 0)))) (AB (Ae 2 nd (BD (AX (pv 1)))) (AB (Nz PassesOwn.never (Us (pv 2) (fun _=>rfl)) (AB (Ae 3 nd (aa PySem.F.plainAttrs_list PySem.F.slot_list_pop PySem.F.type_list_pop ab (pv 2))) (AB (Ae 4 nd (BY Wy hr.mm (AX (pv 3)))) (AG (LC (CT (pv 4)) (CJ 5 nd) (AB (Va (QM (BY B hr.mm (AX (Dq (FF K (pv 3) (pv 5)) (LY hu (pv 3) (pv 5))))) (Uk (pv 3) (pv 5) set_list)) (D' hu (pv 3) (pv 5) (BY B hr.mm (AX (Dq (FF K (pv 3) (pv 5)) (LY hu (pv 3) (pv 5))))) rfl)) (AG (Cf (FW PySem.F.plainAttrs_list PySem.F.slot_list_append PySem.F.type_list_append ES (pv 2) (AX (Dq (FF K (pv 3) (pv 5)) (LY hu (pv 3) (pv 5))))))))))))) (AG (AQ (pv 1)))))),?_⟩;refine⟨_,rfl,d,rfl,ir,IL.of (AF.refl H) ir fun tv N si oi fi=>?_⟩;refine⟨_,rfl,BG,fun L hL=>?_⟩;have sL:=AF.new (o:=.lst [tv]) hL;have nL:H L=none:=si.free hL;have og:tv≠.ref L:=fun z=>(Ti ir oi z) hL;have C0:Ec H (upd N L (.lst [tv])) L tv d [(tv,d)]:=Ec.start (si.trans sL) nL AD (oi.up fun a e u h=>sL _ _ h) ir uA og;dsimp only[CA,QK];refine Rw (fun m σ Hw=>gN (fun(ps:List (V×Dc))(o3 o4 n:Option V)=>σ=[some d.val,some tv,some (.ref L),o3,o4,n]) (fun(ps:List (V×Dc))(o3 o4 n:Option V)=>Ec H Hw L tv d ps) (fun(ps:List (V×Dc))(o3 o4 n:Option V)=>Dc.AI (ps.map (·.2))<=d.size) (fun(ps:List (V×Dc))(o3 o4 n:Option V)=>m=Dc.AI (ps.map (·.2)))) (Dc.AI [d]) ⟨[(tv,d)],none,none,none,rfl,C0,by simp[Dc.AI],rfl⟩ ?_ (fun σ H Q Q' h ⟨v,e,k,t,q⟩=>⟨v,e,k,t,h _ _ q⟩);rintro m σ Hw ⟨ps,o3,o4,n,rfl,C,hm,rfl⟩;refine⟨_,rfl,_,.inl ⟨_,As.of C.eL,rfl⟩,?_⟩;by_cases dM:ps=[]
  ·subst dM;refine BE ⟨_,rfl,?_⟩;obtain⟨e,ev,el,ef⟩:=C.done;rw[<-ev];exact q e Hw ef el
  obtain⟨I,p,rfl⟩:∃I p,ps=I++[p]:=⟨ps.dropLast,ps.getLast dM,(List.dropLast_concat_getLast dM).symm⟩;obtain⟨v,node⟩:=p;refine Cv (by simp) ?_;have lW:Dc.AI ((I++[(v,node)]).map (·.2))=Dc.AI (I.map (·.2))+node.size:=by rw[List.map_append,Dc.Ab];simp[Dc.AI]
  have oh:=C.eL;refine⟨_,rfl,.inl ⟨rfl,_,As.of oh⟩,L,_,v,rfl,rfl,oh,by simp,?_⟩;have dl:(List.map (·.1) (I++[(v,node)])).dropLast=I.map (·.1):=by rw[List.map_append];simp
  rw[dl];obtain⟨nat,dV⟩:=C.src (v,node) (by simp);have on:=C.out (v,node) (by simp);have s1:AF H (upd Hw L (.lst (I.map (·.1)))):=C.same.put nL;have lq:I.length<=Dc.AI (I.map (·.2)):=by have:=Dc.Cr (I.map (·.2));rw[List.length_map]at this;exact this
  cases node with
  |leaf v'=>
   obtain⟨rfl,lv⟩:=(show v=v'/\Dc.Lf v' from on);refine⟨_,rfl,.leaf v,rfl,lv,trivial,by simp[Dc.size],fun p l H2 s2 np U st=>?_⟩;cases(show l=[]from st);refine⟨_,rfl,p,rfl,⟨_,As.of U⟩,Dl (xs:=[]) (fun i σ N=>gL (fun n=>σ=[some d.val,some tv,some (.ref L),some v,some (.ref p),n]) (fun n=>N=H2)) ⟨_,rfl,rfl⟩ (fun i σ N _ ⟨_,_,e⟩=>by rw[e];exact As.of U) (fun i x σ N hx=>by simp at hx) ?_⟩;rintro σ N ⟨n,rfl,rfl⟩;refine⟨Dc.AI (I.map (·.2)),by rw[lW];simp only[Dc.size];lia,I,_,_,_,rfl,C.leaf (fun b o hb h=>s2 _ _ (by rw[AH hb];exact h)) (s2 _ _ AD),by lia,rfl⟩
  |row b xs=>
   obtain⟨a,rfl,ea,na⟩:=(show∃a,v=.ref a/\Hw a=some (.lst (xs.map Dc.val))/\H a=none from on);have aL:a≠L:=fun z=>C.Tg (by rw[<-z];exact BS.mpr ⟨(.ref a,.row b xs),by simp,rfl⟩);have cI:upd Hw L (.lst (I.map (·.1))) a=some (.lst (xs.map Dc.val)):=by rw[AH aL];exact ea
   have S:=nat;simp only[Dc.At]at S;simp only[Dc.slim]at dV;simp only[Dc.size]at lW;have lx:=Dc.Cr xs;refine⟨_,rfl,.row a xs,rfl,?_,by simp only[Dc.slim];exact dV,by simp only[Dc.size];lia,fun p l H2 s2 np U st=>?_⟩
   ·simp only[Dc.At];exact⟨.inl cI,Dc.EY xs (fun c _ o e=>s1 c o e) S.2⟩
   cases(show l=(List.range xs.length).map fun(i:Nat)=>V.int (i:Int)from st);have lX:=s1.trans s2;have gO:=s2 _ _ cI;have cJ:H2 L=some (.lst (I.map (·.1))):=s2 _ _ AD;have ll:((List.range xs.length).map fun(i:Nat)=>V.int (i:Int)).length=xs.length:=by simp
   have pa:p≠a:=Ne.symm (Aj cI np);have pL:p≠L:=Ne.symm (Aj (AD (H:=Hw) (a:=L) (o:=.lst (I.map (·.1)))) np);refine⟨_,rfl,p,rfl,⟨_,As.of U⟩,Dl (xs:=(List.range xs.length).map fun(i:Nat)=>V.int (i:Int)) (fun i σ N=>gM (fun(g:List V)(n:Option V)=>σ=[some d.val,some tv,some (.ref L),some (.ref a),some (.ref p),n]) (fun(g:List V)(n:Option V)=>g.length=i) (fun(g:List V)(n:Option V)=>i<=xs.length) (fun(g:List V)(n:Option V)=>N a=some (.lst (g++(xs.drop i).map Dc.val))) (fun(g:List V)(n:Option V)=>N L=some (.lst (I.map (·.1)++g))) (fun(g:List V)(n:Option V)=>(∀(j:Nat) c x,g[j]?=some c->xs[j]?=some x->FY H N c x)) (fun(g:List V)(n:Option V)=>(∀b o,b≠a->b≠L->H2 b=some o->N b=some o)) (fun(g:List V)(n:Option V)=>(roots (g.zip xs)).Nodup) (fun(g:List V)(n:Option V)=>∀c∈roots (g.zip xs),H2 c=none))
    ⟨[],_,rfl,rfl,Nat.zero_le _,by rw[gO];rfl,by rw[cJ,List.append_nil],fun j c x h=>by simp at h,fun b o _ _ h=>h,by simp[roots],by simp[roots]⟩ (fun i σ N _ ⟨g,n,_,_,_,_,_,_,kp,_,_⟩=>As.of (kp p _ pa pL U)) ?_ ?_⟩
   ·rintro i sv σ N cK ⟨g,n,rfl,lc,lY,D,Y,oc,kp,rn,rf⟩;have hi:i<xs.length:=by have:=(yo cK).1;rw[ll]at this;exact this
    have lZ:sv=.int (i:Int):=by rw[List.getElem?_map,List.getElem?_range hi]at cK;exact(yq cK).symm
    subst lZ;obtain⟨x,hx⟩:∃x,xs[i]?=some x:=⟨_,yn hi⟩;have lb:=yr hx;have gP:AF H N:=fun b o e=>kp b o (Aj e na) (Aj e nL) (lX b o e);have dr:xs.drop i=x::xs.drop (i+1):=by rw[List.drop_eq_getElem_cons hi];rw[yn hi]at hx;rw[yq hx]
    have gQ:x.At N:=Dc.Ru gP (Dc.F_ S.2 x lb);have CD:Lh (g++(xs.drop i).map Dc.val) (i:Int)=some x.val:=Av (by rw[dr,List.getElem?_append_right (by lia),lc,Nat.sub_self];rfl);refine .inl (.inl ⟨_,rfl,_,rfl,a,_,_,_,rfl,rfl,As.of D,CD,x,rfl,gQ,IL.of gP gQ fun c Hc sc lg fc=>?_⟩);have lh:=sc _ _ D;have hlen:(g++(xs.drop i).map Dc.val).length=xs.length:=by rw[List.length_append,List.length_map,List.length_drop];lia
    refine⟨_,rfl,_,rfl,a,_,_,i,rfl,rfl,lh,by unfold QE;rw[if_pos (by lia),if_pos (by rw[hlen];lia),Int.toNat_natCast],?_⟩;have lj:(g++(xs.drop i).map Dc.val).set i c=(g++[c])++(xs.drop (i+1)).map Dc.val:=by
     rw[dr,List.map_cons,List.set_append_right _ _ (by lia),lc,Nat.sub_self,List.set_cons_zero,List.append_assoc];rfl
    rw[lj];have cL:∀J,c=.ref J->J≠a/\J≠L:=fun J e=>⟨(fun z=>by have:=fc J e;rw[z,D]at this;cases this),(fun z=>by have:=fc J e;rw[z,Y]at this;cases this)⟩;have gR:upd Hc a (.lst ((g++[c])++(xs.drop (i+1)).map Dc.val)) L=some (.lst (I.map (·.1)++g)):=by rw[AH (Ne.symm aL)];exact sc _ _ Y
    refine⟨_,rfl,.inl ⟨rfl,_,As.of gR⟩,.inl ⟨_,rfl,_,rfl,a,_,_,c,rfl,rfl,As.of AD,Av (by rw[List.getElem?_append_left (by rw[List.length_append,lc];simp),List.getElem?_append_right (by lia),lc,Nat.sub_self];rfl),?_⟩⟩;refine⟨L,_,_,rfl,rfl,gR,Aw (by simp only[List.length_append,List.length_map];lia),g++[c],_,rfl,by simp[lc],hi,by rw[AH aL];exact AD,by rw[AD,List.append_assoc],fun j M x' r G=>?_,fun b' o r G h3=>?_,?_,fun M O=>?_⟩
    ·have base:∀{M:V}{x':Dc},FY H Hc M x'->(∀J,M=.ref J->J≠a/\J≠L)->FY H (upd (upd Hc a (.lst ((g++[c])++(xs.drop (i+1)).map Dc.val))) L (.lst ((I.map (·.1)++g)++[c]))) M x':=fun o cN=>o.up fun J e u h=>by
      obtain⟨g1,Z⟩:=cN J e;rw[AH Z,AH g1];exact h
     by_cases l_:j<g.length
     ·rw[List.getElem?_append_left l_]at r;refine base ((oc j M x' r G).up fun J e u h=>sc _ _ h) fun J e=>?_;have hz:(g.zip xs)[j]?=some (M,x'):=by rw[List.getElem?_zip_eq_some];exact⟨r,G⟩
      have hr:=rf J (BS.mpr ⟨(M,x'),yr hz,e⟩);exact⟨(fun z=>by rw[z,gO]at hr;cases hr),(fun z=>by rw[z,cJ]at hr;cases hr)⟩
     ·have hl:=(yo r).1;rw[List.length_append,List.length_singleton]at hl;have ej:j=i:=by lia
      subst ej;rw[List.getElem?_append_right (by lia),lc,Nat.sub_self]at r;have e1:c=M:=by simpa using r
      subst e1;rw[hx]at G;cases G;exact base lg cL
    ·rw[AH G,AH r];exact sc _ _ (kp b' o r G h3)
    ·have ez:(g++[c]).zip xs=g.zip xs++[(c,x)]:=HM lc hx;rw[ez,BH];refine List.nodup_append.mpr ⟨rn,by cases c<;>first|exact List.nodup_nil|exact List.nodup_cons.mpr ⟨(fun h=>nomatch h),List.nodup_nil⟩,fun y hy z hz e=>?_⟩;subst e;obtain⟨p',cO,e'⟩:=BS.mp hz;rw[List.mem_singleton.mp cO]at e';obtain⟨⟨c2,x2⟩,Yx,e2⟩:=BS.mp hy;obtain⟨j,hj,ej⟩:=List.mem_iff_getElem.mp Yx;have YF:(g.zip xs)[j]?=some (c2,x2):=by rw[yn hj,ej]
     obtain⟨g1,Z⟩:=List.getElem?_zip_eq_some.mp YF;exact((oc j c2 x2 g1 Z).root (p:=(c2,x2)) e2).1 (fc y e')
    ·have ez:(g++[c]).zip xs=g.zip xs++[(c,x)]:=HM lc hx;rw[ez,BH]at O;rcases List.mem_append.mp O with O|O
     ·exact rf M O
     ·obtain⟨p',cO,e'⟩:=BS.mp O;rw[List.mem_singleton.mp cO]at e';have h0:=fc M e';cases q2:H2 M with
      |none=>rfl
      |some o=>
       have:=kp M o (cL M e').1 (cL M e').2 q2;rw[h0]at this;cases this
   ·rintro σ N ⟨g,n,rfl,lc,lY,D,Y,oc,kp,rn,rf⟩;rw[ll]at lc D;rw[List.drop_length,List.map_nil,List.append_nil]at D;have mz:(g.zip xs).map (·.1)=g:=List.map_fst_zip (by lia);have gS:(g.zip xs).map (·.2)=xs:=List.map_snd_zip (by lia);have gU:∀p∈g.zip xs,∃j:Nat,g[j]?=some p.1/\xs[j]?=some p.2:=fun p U=>by
     obtain⟨j,hj,e⟩:=List.mem_iff_getElem.mp U;exact⟨j,List.getElem?_zip_eq_some.mp (by rw[yn hj,e])⟩
    have gW:∀b o,b≠L->Hw b=some o->H2 b=some o:=fun b o hb h=>s2 _ _ (by rw[AH hb];exact h);have C2:=C.step (H2:=N) (g.zip xs) (fun b' o r G h3=>kp b' o r G (gW b' o G h3)) (by rw[Y,List.map_append,mz]) (fun p U=>let⟨j,g1,Z⟩:=gU p U;oc j _ _ g1 Z) (fun p U=>let⟨j,g1,Z⟩:=gU p U;⟨Dc.F_ S.2 _ (yr Z),Dc.II dV _ (yr Z)⟩) rn (fun c hc=>by
      cases q2:Hw c with
      |none=>rfl
      |some o=>
       have h0:=rf c hc;by_cases gX:c=L
       ·rw[gX,cJ]at h0;cases h0
       ·rw[gW c o gX q2]at h0;cases h0) (by rw[D];simp) (fun ob u z=>by rw[D]at z;cases z)
     (fun ec H' dn at' mB=>⟨.row a ec,rfl,by simp only[Dc.EH];have:=dn.Ve;rw[gS]at this;exact this,by
      simp only[Dc.At];refine⟨.inl ?_,at'⟩;rw[mB,D,dn.vals,mz],by simp only[Dc.addrs];exact .refl _⟩)
    have mC:Dc.AI ((I++g.zip xs).map (·.2))=Dc.AI (I.map (·.2))+Dc.AI xs:=by rw[List.map_append,Dc.Ab,gS]
    exact⟨Dc.AI ((I++g.zip xs).map (·.2)),by lia,I++g.zip xs,_,_,_,rfl,C2,by lia,rfl⟩
  |tab b ks xs=>
   obtain⟨a,rfl,ea,na⟩:=(show∃a,v=.ref a/\Hw a=some (.dK (Dc.kvs ks xs))/\H a=none from on);have aL:a≠L:=fun z=>C.Tg (by rw[<-z];exact BS.mpr ⟨(.ref a,.tab b ks xs),by simp,rfl⟩);have cI:upd Hw L (.lst (I.map (·.1))) a=some (.dK (Dc.kvs ks xs)):=by rw[AH aL];exact ea
   have S:=nat;simp only[Dc.At]at S;simp only[Dc.slim]at dV;simp only[Dc.size]at lW;obtain⟨_,iu,knd,cP⟩:=S;have lx:=Dc.Cr xs;refine⟨_,rfl,.tab a ks xs,rfl,?_,by simp only[Dc.slim];exact dV,by simp only[Dc.size];lia,fun p l H2 s2 np U st=>?_⟩
   ·simp only[Dc.At];exact⟨.inl cI,iu,knd,Dc.EY xs (fun c _ o e=>s1 c o e) cP⟩
   obtain⟨ss,rfl,perm,_⟩:=(show∃ss:List Str,l=ss.map V.str/\ss.Perm ks/\PyProof.Rows.sortedS ss=true from st);have snd:ss.Nodup:=perm.nodup_iff.mpr knd;have sl:=perm.length_eq;obtain⟨X,yp,yl,oj⟩:=reorder (ks:=ss) (ss:=ks) (ec:=xs) perm.symm knd iu.symm;have lX:=s1.trans s2;have gO:=s2 _ _ cI;have cJ:H2 L=some (.lst (I.map (·.1))):=s2 _ _ AD;have ll:(ss.map V.str).length=ss.length:=List.length_map ..;have pa:p≠a:=Ne.symm (Aj cI np);have pL:p≠L:=Ne.symm (Aj (AD (H:=Hw) (a:=L) (o:=.lst (I.map (·.1)))) np);have pos:∀(j:Nat) k,ks[j]?=some k->∃t,ss[t]?=some k:=fun j k h=>List.mem_iff_getElem?.mp (perm.mem_iff.mpr (yr h));have pos':∀(t:Nat) k,ss[t]?=some k->∃j,ks[j]?=some k:=fun t k h=>List.mem_iff_getElem?.mp (perm.mem_iff.mp (yr h));refine⟨_,rfl,p,rfl,⟨_,As.of U⟩,Dl (xs:=ss.map V.str) (fun i σ N=>cH (fun(g R:List V)(n:Option V)=>σ=[some d.val,some tv,some (.ref L),some (.ref a),some (.ref p),n]) (fun(g R:List V)(n:Option V)=>g.length=i) (fun(g R:List V)(n:Option V)=>i<=ss.length) (fun(g R:List V)(n:Option V)=>ks.length=R.length) (fun(g R:List V)(n:Option V)=>N a=some (.dK (EI ks R))) (fun(g R:List V)(n:Option V)=>N L=some (.lst (I.map (·.1)++g))) (fun(g R:List V)(n:Option V)=>(∀(j t:Nat) k,ks[j]?=some k->ss[t]?=some k->R[j]?=if t<i then g[t]? else(X[t]?).map Dc.val)) (fun(g R:List V)(n:Option V)=>(∀(j:Nat) c x,g[j]?=some c->X[j]?=some x->FY H N c x)) (fun(g R:List V)(n:Option V)=>(∀b o,b≠a->b≠L->H2 b=some o->N b=some o)) (fun(g R:List V)(n:Option V)=>(roots (g.zip X)).Nodup) (fun(g R:List V)(n:Option V)=>∀c∈roots (g.zip X),H2 c=none))
    ⟨[],xs.map Dc.val,_,rfl,rfl,Nat.zero_le _,by rw[List.length_map];exact iu,gO,by rw[cJ,List.append_nil],fun j t k r G=>by rw[if_neg (Nat.not_lt_zero _),oj t j k G r,List.getElem?_map],fun j c x h=>by simp at h,fun b o _ _ h=>h,by simp[roots],by simp[roots]⟩
    (fun i σ N _ ⟨g,R,n,_,_,_,_,_,_,_,_,kp,_,_⟩=>As.of (kp p _ pa pL U)) ?_ ?_⟩
   ·rintro i sv σ N cK ⟨g,R,n,rfl,lc,lY,lv,D,Y,gY,oc,kp,rn,rf⟩;have hi:i<ss.length:=by have:=(yo cK).1;rw[ll]at this;exact this
    obtain⟨k,hk⟩:∃k,ss[i]?=some k:=⟨_,yn hi⟩;have lZ:sv=.str k:=by rw[List.getElem?_map,hk]at cK;exact(yq cK).symm
    subst lZ;obtain⟨j,hj⟩:=pos' i k hk;obtain⟨x,hx⟩:∃x,X[i]?=some x:=⟨_,yn (by rw[yl];exact hi)⟩;have lb:x∈xs:=yp.mem_iff.mp (yr hx);have gP:AF H N:=fun b o e=>kp b o (Aj e na) (Aj e nL) (lX b o e);have gQ:x.At N:=Dc.Ru gP (Dc.F_ cP x lb);have om:j<R.length:=by rw[<-lv];exact(yo hj).1
    have vj:R[j]?=some x.val:=by rw[gY j i k hj hk,if_neg (Nat.lt_irrefl _),hx];rfl
    have dg:∀{Hx:Hp}{ws:List V}{y:V},Hx a=some (.dK (EI ks ws))->ks.length=ws.length->ws[j]?=some y->LM Hx a (.str k) (some y):=fun r G h3=>.inl ⟨_,Sum.inr k,.inl r,rfl,by rw[KH G knd hj,h3]⟩;refine .inr (.inr ⟨_,rfl,_,rfl,a,x.val,rfl,dg D lv vj,x,rfl,gQ,IL.of gP gQ fun c Hc sc lg fc=>?_⟩);have lh:=sc _ _ D;refine⟨_,rfl,_,rfl,a,_,rfl,TN.k (k:=Sum.inr k) lh (Aw (by rw[Vg lv];lia)),?_⟩;rw[Vh lv knd hj c];have dW:ks.length=(R.set j c).length:=by rw[List.length_set];exact lv
    have cL:∀J,c=.ref J->J≠a/\J≠L:=fun J e=>⟨(fun z=>by have:=fc J e;rw[z,D]at this;cases this),(fun z=>by have:=fc J e;rw[z,Y]at this;cases this)⟩;have gR:upd Hc a (.dK (EI ks (R.set j c))) L=some (.lst (I.map (·.1)++g)):=by rw[AH (Ne.symm aL)];exact sc _ _ Y
    refine⟨_,rfl,.inl ⟨rfl,_,As.of gR⟩,.inr ⟨_,rfl,_,rfl,a,c,rfl,dg AD dW (by rw[List.getElem?_set_self om]),?_⟩⟩;refine⟨L,_,_,rfl,rfl,gR,Aw (by simp only[List.length_append,List.length_map];lia),g++[c],R.set j c,_,rfl,by simp[lc],hi,dW,by rw[AH aL];exact AD,by rw[AD,List.append_assoc],fun j' t' k' r G=>?_,fun j' M x' r G=>?_,fun b' o r G h3=>?_,?_,fun M O=>?_⟩
    ·by_cases cQ:j'=j
     ·subst cQ;rw[hj]at r;cases r;have et:t'=i:=(List.getElem?_inj (by exact(yo G).1) snd).mp (by rw[G,hk]);subst et;rw[List.getElem?_set_self om,if_pos (Nat.lt_succ_self _),List.getElem?_append_right (by lia),lc,Nat.sub_self];rfl
     ·have uB:k'≠k:=fun z=>cQ ((List.getElem?_inj (by exact(yo r).1) knd).mp (by rw[r,hj,z]));have og:t'≠i:=fun z=>uB (by rw[z,hk]at G;exact(yq G).symm);rw[List.getElem?_set_ne (Ne.symm cQ),gY j' t' k' r G];by_cases gZ:t'<i
      ·rw[if_pos gZ,if_pos (by lia),List.getElem?_append_left (by lia)]
      ·rw[if_neg gZ,if_neg (by lia)]
    ·have base:∀{M:V}{x':Dc},FY H Hc M x'->(∀J,M=.ref J->J≠a/\J≠L)->FY H (upd (upd Hc a (.dK (EI ks (R.set j c)))) L (.lst ((I.map (·.1)++g)++[c]))) M x':=fun o cN=>o.up fun J e u h=>by
      obtain⟨g1,Z⟩:=cN J e;rw[AH Z,AH g1];exact h
     by_cases l_:j'<g.length
     ·rw[List.getElem?_append_left l_]at r;refine base ((oc j' M x' r G).up fun J e u h=>sc _ _ h) fun J e=>?_;have hz:(g.zip X)[j']?=some (M,x'):=by rw[List.getElem?_zip_eq_some];exact⟨r,G⟩
      have hr:=rf J (BS.mpr ⟨(M,x'),yr hz,e⟩);exact⟨(fun z=>by rw[z,gO]at hr;cases hr),(fun z=>by rw[z,cJ]at hr;cases hr)⟩
     ·have hl:=(yo r).1;rw[List.length_append,List.length_singleton]at hl;have ej:j'=i:=by lia
      subst ej;rw[List.getElem?_append_right (by lia),lc,Nat.sub_self]at r;have e1:c=M:=by simpa using r
      subst e1;rw[hx]at G;cases G;exact base lg cL
    ·rw[AH G,AH r];exact sc _ _ (kp b' o r G h3)
    ·have ez:(g++[c]).zip X=g.zip X++[(c,x)]:=HM lc hx;rw[ez,BH];refine List.nodup_append.mpr ⟨rn,by cases c<;>first|exact List.nodup_nil|exact List.nodup_cons.mpr ⟨(fun h=>nomatch h),List.nodup_nil⟩,fun y hy z hz e=>?_⟩;subst e;obtain⟨p',cO,e'⟩:=BS.mp hz;rw[List.mem_singleton.mp cO]at e';obtain⟨⟨c2,x2⟩,Yx,e2⟩:=BS.mp hy;obtain⟨j2,uC,uD⟩:=List.mem_iff_getElem.mp Yx;have YF:(g.zip X)[j2]?=some (c2,x2):=by rw[yn uC,uD]
     obtain⟨g1,Z⟩:=List.getElem?_zip_eq_some.mp YF;exact((oc j2 c2 x2 g1 Z).root (p:=(c2,x2)) e2).1 (fc y e')
    ·have ez:(g++[c]).zip X=g.zip X++[(c,x)]:=HM lc hx;rw[ez,BH]at O;rcases List.mem_append.mp O with O|O
     ·exact rf M O
     ·obtain⟨p',cO,e'⟩:=BS.mp O;rw[List.mem_singleton.mp cO]at e';have h0:=fc M e';cases q2:H2 M with
      |none=>rfl
      |some o=>
       have:=kp M o (cL M e').1 (cL M e').2 q2;rw[h0]at this;cases this
   ·rintro σ N ⟨g,R,n,rfl,lc,lY,lv,D,Y,gY,oc,kp,rn,rf⟩;rw[ll]at lc gY;have mz:(g.zip X).map (·.1)=g:=List.map_fst_zip (by lia);have gS:(g.zip X).map (·.2)=X:=List.map_snd_zip (by lia);have gU:∀p∈g.zip X,∃j:Nat,g[j]?=some p.1/\X[j]?=some p.2:=fun p U=>by
     obtain⟨j,hj,e⟩:=List.mem_iff_getElem.mp U;exact⟨j,List.getElem?_zip_eq_some.mp (by rw[yn hj,e])⟩
    have gW:∀b o,b≠L->Hw b=some o->H2 b=some o:=fun b o hb h=>s2 _ _ (by rw[AH hb];exact h);have C2:=C.step (H2:=N) (g.zip X) (fun b' o r G h3=>kp b' o r G (gW b' o G h3)) (by rw[Y,List.map_append,mz]) (fun p U=>let⟨j,g1,Z⟩:=gU p U;oc j _ _ g1 Z) (fun p U=>let⟨j,g1,Z⟩:=gU p U;⟨Dc.F_ cP _ (yp.mem_iff.mp (yr Z)),Dc.II dV.2 _ (yp.mem_iff.mp (yr Z))⟩) rn (fun c hc=>by
      cases q2:Hw c with
      |none=>rfl
      |some o=>
       have h0:=rf c hc;by_cases gX:c=L
       ·rw[gX,cJ]at h0;cases h0
       ·rw[gW c o gX q2]at h0;cases h0) (by rw[D];simp) (fun ob u z=>by rw[D]at z;cases z)
     (fun ec H' dn at' mB=>by
      have dv:=dn.vals;rw[mz]at dv;have dk:=dn.Ve;rw[gS]at dk;have el:ec.length=ss.length:=by have:=congrArg List.length dv;rw[List.length_map]at this;lia
      obtain⟨es,ep,uE,oo⟩:=reorder perm snd el;have ev:es.map Dc.val=R:=by
       refine List.ext_getElem? fun j=>?_;cases hk:ks[j]? with
       |none=>
        have r:=List.getElem?_eq_none_iff.mp hk;rw[List.getElem?_eq_none_iff.mpr (by rw[List.length_map];lia),List.getElem?_eq_none_iff.mpr (by lia)]
       |some k=>
        obtain⟨t,ht⟩:=pos j k hk;have tl:=(yo ht).1;rw[List.getElem?_map,oo j t k hk ht,gY j t k hk ht,if_pos tl,<-dv,List.getElem?_map]
      refine⟨.tab a ks es,rfl,?_,?_,?_⟩
      ·simp only[Dc.EH];refine⟨trivial,Ob (by lia) fun j x e r G=>?_⟩;obtain⟨k,hk⟩:∃k,ks[j]?=some k:=⟨_,yn (by rw[iu];exact(yo r).1)⟩;obtain⟨t,ht⟩:=pos j k hk;have e1:=oj t j k ht hk;rw[r]at e1;obtain⟨e',g1,Z⟩:=Dc.Lp dk t x e1;rw[oo j t k hk ht,g1]at G;cases G;exact Z
      ·simp only[Dc.At];exact⟨.inl (by rw[mB,D,OZ,ev]),uE.symm,knd,Vi ep at'⟩
      ·simp only[Dc.addrs];exact(Oa ep).cons _)
    have mC:Dc.AI ((I++g.zip X).map (·.2))=Dc.AI (I.map (·.2))+Dc.AI xs:=by rw[List.map_append,Dc.Ab,gS,Dc.Ql yp]
    exact⟨Dc.AI ((I++g.zip X).map (·.2)),by lia,I++g.zip X,_,_,_,rfl,C2,by lia,rfl⟩
theorem Sj:AZ ["doc","step"] ["doc","step"] (AM RT):={}
theorem Wz(F:Co K "holds" "holds" RT f m)(T:Txt mg):Au P w K mg base CK 1 f m ["doc","step"] He:=by
 refine F.oq Sj fun y A outer s H o Q E B h=>?_
 ·obtain⟨v,t,k,rfl,p,hold,q⟩:=h;have nd:=Sj.nd;have C:=BJ B;refine⟨_,(AB (Aa (BV (Am (Bl:Bh _ _ (Ed K)) rfl T.isinstance Af (AA (pv 1) (AX (BU (v:=.ty "str") rfl T.str fX rfl))))) (AG (AQ (QJ (Am (Bl:Bh _ _ (Ed K)) rfl T.isinstance Af (AA (pv 0) (AX (BU (v:=.ty "dict") rfl T.dict CZ rfl)))) (Ji (Ug (QX C (pv 1) (pv 0))))))) AN) (AG (AQ (QJ (Am (Bl:Bh _ _ (Ed K)) rfl T.isinstance Af (AA (pv 0) (AX (BU (v:=.ty "list") rfl T.list DG rfl)))) (Ji (Ur eS La AE (pv 1) (Fv T.len (pv 0)))))))),?_⟩;cases k with
  |inl i=>
   refine⟨_,rfl,_,"str","int",rfl,rfl,.n (.int _),_,rfl,BE ?_⟩;cases p with
   |int j=>exact⟨_,rfl,_,"list",_,rfl,rfl,.n (.int _),_,rfl,BF rfl q⟩
   |str x=>exact⟨_,rfl,_,"list",_,rfl,rfl,.n (.str _),_,rfl,BF rfl q⟩
   |bl b=>exact hold.elim
   |Ah=>exact hold.elim
   |tup _ _=>exact hold.elim
   |Ar h u r=>exact⟨_,rfl,_,"list",_,rfl,rfl,.n (.dK h),_,rfl,BF rfl q⟩
   |@lst a o c h r=>
    have D:=r.length;refine⟨_,rfl,_,"list",_,rfl,rfl,.n (.lst h),_,rfl,Cv rfl ?_⟩;refine⟨_,rfl,_,_,rfl,rfl,_,rfl,?_⟩;by_cases z:(0:Int)<=i
    ·refine Cv (decide_eq_true z) ⟨_,rfl,a,_,rfl,.inl (.inl h),_,_,rfl,rfl,?_⟩;have e:decide (i<(o.length:Int))=((Pt.lst c).Fn (Sum.inl i)).isSome:=by
      simp only[Pt.Fn];rw[if_pos z,D];by_cases h:i.toNat<c.length
      ·rw[yn h];exact decide_eq_true (by lia)
      ·rw[List.getElem?_eq_none_iff.mpr (by lia)];exact decide_eq_false (by lia)
     rw[e];exact q
    ·refine BF (decide_eq_false z) ?_;simp only[Pt.Fn]at q;rw[if_neg z]at q;exact q
  |inr x=>
   refine⟨_,rfl,_,"str","str",rfl,rfl,.n (.str _),_,rfl,Cc ?_⟩;cases p with
   |int j=>exact⟨_,rfl,_,"dict",_,rfl,rfl,.n (.int _),_,rfl,BF rfl q⟩
   |str x=>exact⟨_,rfl,_,"dict",_,rfl,rfl,.n (.str _),_,rfl,BF rfl q⟩
   |bl b=>exact hold.elim
   |Ah=>exact hold.elim
   |tup _ _=>exact hold.elim
   |lst h r=>exact⟨_,rfl,_,"dict",_,rfl,rfl,.n (.lst h),_,rfl,BF rfl q⟩
   |@Ar a kvs d c h u r=>
    refine⟨_,rfl,_,"dict",_,rfl,rfl,.n (.dK h),_,rfl,Cv rfl ?_⟩;refine⟨_,rfl,_,rfl,a,_,rfl,.inl ⟨_,Sum.inr x,h,rfl,rfl⟩,?_⟩;have e:(BQ kvs (Sum.inr x)).isSome=((Pt.Ar d c).Fn (Sum.inr x)).isSome:=by
     rcases Val.Dd u r x with⟨w,G,g,l,_⟩|⟨g,l⟩
     ·rw[g,show(Pt.Ar d c).Fn (Sum.inr x)=some G from l];rfl
     ·rw[g,show(Pt.Ar d c).Fn (Sum.inr x)=none from l];rfl
    rw[e];exact q
theorem MM:AZ ["doc","path","part","step"] ["doc","path"] (AM Ks):={}
theorem RY{L:FuncData}(F:Co K "found_at" "found_at" Ks f L)(T:Txt mg)(c:Df P w K mg base "holds" ["doc","step"] 1 He):Au P w K mg base CK 2 f L ["doc","path"] Pl:=by
 refine F.oq MM fun R A outer s H vs Q E M h=>?_
 ·obtain⟨v,t,u,p,l,rfl,S,N,B,U,X,q⟩:=h;have nd:=MM.nd;have Y:=BJ M;refine⟨_,(AB (Ae 2 nd (pv 0)) (AB (LC (Jj (pv 1)) (CJ 3 nd) (AB (Aa (QI (BV (BY c M.mm (AA (pv 2) (AX (pv 3)))))) (AG Yp) AN) (AG (Ae 2 nd (Dq (FF K (pv 2) (pv 3)) (LY Y (pv 2) (pv 3))))))) (AG (AQ (pv 2))))),?_⟩;refine⟨_,rfl,_,rfl,p,rfl,⟨_,N⟩,JN (K:=K) (xs:=l.map kV) (fun i m d=>∃(x:V)(s:Pt)(o:Option V),m=[some v,some (.ref p),some x,o]/\s.sub (l.drop i)=some u/\Val H x s/\s.doc/\s.size<=900/\d=H) ⟨v,t,none,rfl,B,S,U,X,rfl⟩ (fun i m d _ ⟨_,_,_,_,_,_,_,_,e⟩=>by subst e;exact N) ?_ ?_⟩
  ·rintro i x m d g ⟨y,s,o,rfl,b,n,C,O,rfl⟩;rw[List.getElem?_map]at g;cases D:l[i]? with
   |none=>rw[D]at g;cases g
   |some k=>
    rw[D]at g;cases g;obtain⟨Z,ei⟩:=yo D;rw[List.drop_eq_getElem_cons Z,ei]at b;simp only[Pt.sub]at b;refine⟨_,rfl,_,rfl,y,s,k,rfl,n,Lu C O,?_⟩;cases z:s.Fn k with
    |none=>rw[z]at b;cases b
    |some r=>
     rw[z]at b;obtain⟨d1,d2,_⟩:=Pt.Kg C z;obtain⟨w,vw,nt⟩:=n.WQ z;have fin:∃(x:V)(s:Pt)(o:Option V),[some v,some (.ref p),some w,some (kV k)]=[some v,some (.ref p),some x,o]/\s.sub (l.drop (i+1))=some u/\Val d x s/\s.doc/\s.size<=900/\d=d:=⟨w,r,_,rfl,b,vw,d1,by lia,rfl⟩;refine⟨_,rfl,BE ?_⟩;cases nt with
     |pl a xs j G I x2 J=>exact .inl ⟨_,rfl,_,rfl,a,_,_,_,G,x2,.inl I,Av J,fin⟩
     |nm a kvs G I J=>exact .inr ⟨_,rfl,_,rfl,a,w,G,.inl ⟨_,k,I,rfl,J.symm⟩,fin⟩
  ·rintro m d ⟨y,s,o,rfl,b,n,C,O,rfl⟩;rw[List.length_map,List.drop_length]at b;simp only[Pt.sub,Option.some.injEq]at b;subst b;exact⟨_,rfl,q y n⟩
theorem Pr:AZ ["doc","path"] ["doc","path"] (AM NX):={}
theorem US{e:FuncData}(F:Co K "part_at" "part_at" NX f e)(T:Txt mg)(b:Df P w K mg base "copy_of" ["doc"] 2 FZ)(a:Df P w K mg base "found_at" ["doc","path"] 2 Pl):Au P w K mg base CK 3 f e ["doc","path"] Pm:=by
 refine F.oq Pr fun g A outer s H x Q E c h=>?_
 ·obtain⟨v,t,u,p,i,rfl,j,k,d,l,m,n,o,q⟩:=h;have nd:=Pr.nd;have y:=BJ c;refine⟨_,(AG (AQ (BY b c.mm (AX (BY a c.mm (AA (pv 0) (AX (pv 1)))))))),?_⟩;exact⟨_,rfl,_,rfl,v,t,u,p,i,rfl,j,k,d,l,m,fun w r=>Fi rfl r n o q⟩
theorem Kx:AZ ["node"] ["node"] (AM Ii):={}
theorem Pu{k:FuncData}(F:Co K "holder_in" "holder_in" Ii f k)(T:Txt mg):Au P w K mg base CK 1 f k ["node"] SG:=by
 refine F.oq Kx fun x A outer s H N Q E y h=>?_
 ·obtain⟨G,v,t,n,rfl,z,B,d,q⟩:=h;have nd:=Kx.nd;have l:=BJ y;refine⟨_,(AB (Aa (AR (IC:Ek _ _ (dI K false)) (Br K 0) (Ad (AA AU (AX AU))) rfl) (AG (AQ (Br K 0))) AN) (AG (AQ (BD CH)))),?_⟩;obtain⟨m,c,rest,rfl,C,D⟩:=B.node d;have a:=C.up z;refine⟨_,rfl,m,_,0,.str c,rfl,rfl,a,B',Ac,fun p I=>⟨p,_,rfl,.inr (Bg.of AD),rfl,rfl,_,rfl,?_⟩⟩;have g:=AF.new (o:=.tup [.str "row",.str "table"]) I;have i:=a.up g;have b:ZW (.str c) [.str "row",.str "table"]=decide (c∈(["row","table"]:List Str)):=Fc c ["row","table"];rcases D with⟨J,L,e⟩|⟨hw,u,r,rfl,l⟩
  ·refine BF ?_ ⟨Nat.zero_le _,fun M j=>q _ _ (g.trans (AF.new j)) (.inr ⟨e,M,rfl,AD⟩)⟩;rw[b];simp[J,L]
  ·refine Cv ?_ ⟨_,rfl,m,_,1,u,rfl,rfl,i,CD,q _ _ g (.inl l)⟩;rw[b];rcases hw with rfl|rfl<;>decide
theorem Hs:AZ ["node"] ["node"] (AM Fw):={}
theorem GS{y:FuncData}(F:Co K "inner_nodes" "inner_nodes" Fw f y)(T:Txt mg)(b:Df P w K mg base "inner_of" ["doc"] 2 KN)(a:Df P w K mg base "holder_in" ["node"] 1 SG):Au P w K mg base CK 3 f y ["node"] KX:=by
 refine F.oq Hs fun B A outer s H J Q E j h=>?_
 ·obtain⟨G,v,t,n,rfl,z,C,c,q⟩:=h;have nd:=Hs.nd;have L:=BJ j;refine⟨_,(AG (AQ (BY b j.mm (AX (BY a j.mm (AX (pv 0))))))),?_⟩;refine⟨_,rfl,G,v,t,n,rfl,z,C,c,fun w D d hw=>?_⟩;have hold:=c.SE;rcases hw with hw|⟨e,I,rfl,k⟩
  ·exact⟨G,w,t.hold,rfl,z.trans d,hw,hold,fun p l g m o r u x i=>q p l g m (d.trans o) (d.free r) u x i⟩
  ·refine⟨D,.ref I,.lst [],rfl,AF.refl _,.lst (.inl k) .nil,Nat.zero_le _,fun p l g m o r u x i=>q p l g m (d.trans o) (d.free r) u ?_ (by rw[e];exact i)⟩;have:g=[]:=i;subst this;cases x;exact .nil
theorem Pw:AZ ["holder","told"] ["holder","told"] (AM NY):={}
theorem UT{x:FuncData}(F:Co K "filled" "filled" NY f x)(T:Txt mg)(b:Df P w K mg base "steps_of" ["doc"] 1 HN)(c:mg "zip"=none):Au P w K mg base CK 2 f x ["holder","told"] HX:=by
 refine F.ok Pw (fun y H Q E h=>?_) (fun D A outer s H y Q E z h=>?_)
 ·cases h<;>(subst_vars;rfl)
 ·have nd:=Pw.nd;have O:=BJ z;refine⟨_,(AB (Aa (BV (Am EW rfl T.isinstance Af (AA (pv 0) (AX (BU (v:=.ty "list") rfl T.list DG rfl))))) (AG (AQ (A' Ep rfl T.list DG (AX (pv 1))))) AN) (AG (AQ (Ot rfl rfl T.dict rfl c (BY b z.mm (AX (pv 0))) (pv 1))))),?_⟩;rcases h with⟨v,B,L,e,rfl,j,k,G,q⟩|⟨v,I,B,L,e,rfl,j,k,hold,m,n,q⟩
  ·cases j with
   |@lst a y _ h r=>
    refine⟨_,rfl,_,"list","list",rfl,rfl,.lst h,_,rfl,Cc ?_⟩;exact⟨_,rfl,L,e,rfl,.inl (As.of k),fun p g=>q p _ (AF.new g) g AD⟩
  ·cases j with
   |@Ar a kvs _ _ h J r=>
    refine⟨_,rfl,_,"list","dict",rfl,rfl,.dK h,_,rfl,BE ?_⟩;refine⟨_,rfl,.ref a,.Ar I B,rfl,.Ar h J r,hold,fun p l R o S g st=>?_⟩;obtain⟨t,rfl,i,M⟩:=st;have u:=o _ _ k;have C:t.length=e.length:=by rw[i.length_eq,m]
    refine⟨_,rfl,p,L,t,e,rfl,rfl,As.of g,As.of u,C,by rw[i.length_eq];have:=hold.2;omega,fun N d=>?_⟩;refine q N t _ (o.trans (AF.new d)) (o.free d) i M ?_;rw[AD];congr 2;exact Di C (i.nodup_iff.mpr n)
theorem Iy:AZ ["holder","inner"] ["holder"] (AM Gr):={}
theorem Nh(F:Co K "inner_just" "inner_just" Gr f fd)(T:Txt mg)(C:Df P w K mg base "inner_of" ["doc"] 2 KN)(L:Df P w K mg base "filled" ["holder","told"] 2 HX):Au P w K mg base CK 3 f fd ["holder"] KY:=by
 refine F.oq Iy fun Jr A outer s H vs Q E hr h=>?_
 ·obtain⟨U,v,t,cs,mk,rfl,hv,hh,hd,q⟩:=h;have nd:=Iy.nd;have hu:=BJ hr;refine⟨_,(AB (Ae 1 nd (BY C hr.mm (AX (pv 0)))) (AB (Aa (BV (Am (Vp rfl) rfl T.any fY (AX (cmp [] [] (CT (pv 1)) fun _ _ _ _=>(Dz Uq (Br K 0) AU (AV _)))))) (AG (AQ CW)) AN) (AG (AQ (Ad (AA AU (AX (BY L hr.mm (AA (pv 0) (AX (cmp [] [] (CT (pv 1)) fun _ _ _ _=>(Br K 0)))))))))))),?_⟩;have hH:=hv.up Ff;refine⟨_,rfl,nw U H,v,t,rfl,Ff,hv,hh.SE,fun p I us H1 s1 np hp vl kd=>?_⟩;have eu:=hh.kids kd;subst eu;have lz:=hh.len;have uF:I.length=cs.length:=by have:=vl.length;rw[List.length_map]at this;exact this
  have ex:∀{i:Nat}{O:Hp},i<I.length->AF H1 O->∃(a:Addr)(w:Str)(rest:List V)(c:Ak),I.getD i .Ah=.ref a/\cs[i]?=some c/\Bg K O a (.str w::rest)/\((∃d u,c=.Ag d/\w="just"/\rest=[u]/\Val (nw U H) u d)∨(w≠"just"/\∀d,c≠.Ag d)):=fun{i O} g G=>by
   obtain⟨x,hx⟩:∃x,I[i]?=some x:=⟨_,yn g⟩;obtain⟨tx,M,vx⟩:=vl.get hx;rw[List.getElem?_map]at M;cases hc:cs[i]? with
   |none=>rw[hc]at M;cases M
   |some c=>
    rw[hc]at M;cases M;obtain⟨a,w,rest,rfl,ht,k⟩:=vx.ak;have N:=(ht.up Ff).up (s1.trans G);refine⟨a,w,rest,c,by rw[List.getD_eq_getElem?_getD,hx];rfl,rfl,N,?_⟩;rcases k with⟨rfl,rfl,rfl⟩|⟨d,u,rfl,rfl,rfl,hu⟩|⟨xs,m,u,rfl,rfl,rfl,hu⟩|⟨ks,xs,ls,m,u,z,rfl,rfl,rfl,hu,hz⟩
    ·exact .inr ⟨by decide,fun d z=>nomatch z⟩
    ·exact .inl ⟨d,u,rfl,rfl,rfl,hu⟩
    ·exact .inr ⟨by decide,fun d z=>nomatch z⟩
    ·exact .inr ⟨by decide,fun d z=>nomatch z⟩
  have li:∀i,i<I.length->I[i]?=some (I.getD i .Ah):=fun i g=>by rw[List.getD_eq_getElem?_getD,yn g];rfl
  refine⟨_,rfl,p,rfl,⟨_,As.of hp⟩,?_⟩;refine Dm (n:=I.length) (fun i=>I.getD i .Ah) (fun i v=>∃c,cs[i]?=some c/\v=.bl c.dQ) (An (by lia)) (fun i O g G=>⟨_,_,G.seq (As.of hp),li i g⟩) (fun i O v H' g G y=>?_) (fun O G=>⟨_,G.seq (As.of hp),Nat.le_refl _⟩) (fun i O R g G r=>?_) (fun D O vs hD G d2 lv ov=>?_)
  ·obtain⟨e,y⟩:=y;have:=y _ (G.seq (As.of hp));rw[li i g]at this;exact⟨(yq this).symm,e⟩
  ·obtain⟨a,w,rest,c,e0,e2,N,k⟩:=ex g G;rw[e0];refine⟨_,rfl,a,_,0,_,rfl,rfl,N,B',rfl,r _ O (AF.refl _) ⟨c,e2,?_⟩⟩;rcases k with⟨d,u,rfl,rfl,rfl,hu⟩|⟨n1,n2⟩
   ·rfl
   ·have:c.dQ=true:=by
     cases c with
     |Ag d=>exact absurd rfl (n2 d)
     |_=>rfl
    rw[this];simp[Uw,n1]
  ·obtain⟨bs,rfl,uG⟩:=YQ (by lia) ov;refine⟨D,bs,rfl,As.of d2,?_⟩;rw[uG];have ow:=s1.trans G;cases hj:Ak.Dy cs with
   |none=>exact⟨_,rfl,Cc (q .Ah O ow (.inl ⟨hj,rfl⟩))⟩
   |some ds=>
    have oy:=Ak.CG hj;refine⟨_,rfl,BE ?_⟩;have X:=G _ _ hp;refine⟨_,rfl,_,rfl,p,rfl,⟨_,As.of X⟩,?_⟩;refine Dm (n:=I.length) (fun i=>I.getD i .Ah) (fun i v=>∃d,ds[i]?=some d/\Val (nw U H) v d) (An (by lia)) (fun i Y g Z=>⟨_,_,Z.seq (As.of X),li i g⟩) (fun i Y v H' g Z y=>?_) (fun Y Z=>⟨_,Z.seq (As.of X),Nat.le_refl _⟩) (fun i Y R g Z r=>?_) (fun D3 Y us yA Z d3 lu ou=>?_)
    ·obtain⟨e,y⟩:=y;have:=y _ (Z.seq (As.of X));rw[li i g]at this;exact⟨(yq this).symm,e⟩
    ·obtain⟨a,w,rest,c,e0,e2,N,k⟩:=ex g (G.trans Z);rw[e0];rw[oy,List.getElem?_map]at e2;cases gF:ds[i]? with
     |none=>rw[gF]at e2;cases e2
     |some d'=>
      rw[gF]at e2;cases e2;rcases k with⟨d,u,e3,rfl,rfl,hu⟩|⟨n1,n2⟩
      ·cases e3;exact⟨_,rfl,a,_,1,u,rfl,rfl,N,CD,r u Y (AF.refl _) ⟨_,gF,hu⟩⟩
      ·exact absurd rfl (n2 d')
    ·have yB:ds.length=I.length:=by rw[uF,oy,List.length_map]
     have oz:AS (nw U H) us ds:=AS.of (by lia) fun i v t h1 h2=>by
      obtain⟨d,g1,g2⟩:=ou i v h1;rw[h2]at g1;cases g1;exact g2
     have j:=ow.trans Z;have fin:∀(S:Addr)(B:Hp),AF Y B->Y S=none->Val (nw U B) (.ref S) (mk ds)->∀p5,B p5=none->Q (.ref p5) (upd B p5 (.tup [.str "just",.ref S])):=fun S B J n4 v4 p5 n5=>by
      refine q _ _ ((j.trans J).trans (AF.new n5)) (.inr ⟨ds,hj,.tup (Bg.of ?_) (.cons (.str _) (.cons (v4.up ?_) .nil))⟩)
      ·rw[AY (hd p5 ((j.trans J).free n5)),AD]
      ·exact BB (fun b h=>h) fun b o h1 h2=>by rw[AH (fun z=>by rw[z,n5]at h2;cases h2)];exact h2
     have yC:∀{B:Hp}{v:V}{d:Pt},AF Y B->Val (nw U H) v d->Val (nw U B) v d:=fun J h=>h.up (BB (fun b h=>h) fun b o _ h2=>(j.trans J) _ _ h2);have o_:∀{B:Hp}{v:List V}{d:List Pt},AF Y B->AS (nw U H) v d->AS (nw U B) v d:=fun J h=>h.up (BB (fun b h=>h) fun b o _ h2=>(j.trans J) _ _ h2);have pA:=hH.up j;cases hh with
     |row _ z=>
      refine .row v _ D3 us rfl pA d3 (by lia) fun S B J n4 h4=>⟨Ac,fun p5 n5=>fin S B J n4 (.lst (.inl ?_) (o_ J oz)) p5 n5⟩;rw[AY (hd S (j.free n4))];exact h4
     |tab ss _ l nd z so=>
      refine .tab v _ _ D3 us rfl pA d3 ⟨by rw[List.length_map];exact l,z⟩ (by lia) nd fun S iw B J n4 pm mD h4=>⟨Ac,fun p5 n5=>?_⟩;have e:=EA mD so pm;subst e;have pF:iw.length=us.length:=by lia
      refine fin S B J n4 (.Ar (kvs:=Cb iw us) (.inl ?_) (Bn pF) (by rw[CP pF];exact o_ J oz)) p5 n5;rw[AY (hd S (j.free n4))];exact h4
theorem Ky:AZ ["asks"] ["asks"] (AM Ij):={}
theorem Px{i e:Addr}{d:FuncData}(F:Co K "good_form" "good_form" Ij f m)(T:Txt mg)(c:Df P w K mg base "folded" ["root","inner","join"] 6 (NM P w K mg base i))(o:mg "inner_nodes"=some (.ref i))(p:mg "good_part"=some (.ref e))(r:PySem.W.keepIn K (.ref e)=true)(u:Binds K d ["asks","told"] [])(x:Au P w K mg base CK 5 e d ["asks","told"] Ge):Au P w K mg base CK 7 f m ["asks"] SI:=by
 refine F.oq Ky fun y A outer s H L Q E n h=>?_
 ·obtain⟨G,v,a,rfl,z,B,j,l,q⟩:=h;have nd:=Ky.nd;have M:=BJ n;refine⟨_,(AG (AQ (BY c n.mm (AA (pv 0) (AA (JM (v:=.ref i) rfl o rfl) (AX (JM (v:=.ref e) rfl p rfl))))))),?_⟩;refine⟨_,rfl,Ak.lO,Ak.cA,v,a.pt,e,d,_,rfl,B.up z,⟨a,rfl,j,l⟩,fun t h=>h.lP,fun t N h k=>h.Zs k,.inl r,u,x.imp fun _ _ _ _ h=>UL h,fun w b C s D I=>?_⟩;obtain⟨a1,a2,J,rfl,g⟩:=I;have:=Ak.Gp _ _ J;subst this;exact q w a2 C s D g
theorem Kz:AZ ["asks","told"] ["asks","told"] (AM Ik):={}
theorem Py{U:Addr}(F:Co K "good_part" "good_part" Ik f fd)(T:Txt mg)(g:Df P w K mg base "copy_of" ["doc"] 2 FZ)(i:Df P w K mg base "filled" ["holder","told"] 2 HX)(c:Df P w K mg base "good_row" ["cells","more"] 4 Lz)(a:Df P w K mg base "good_table" ["names","lacking","more"] 4 L_)(mA:mg "ANY"=some (.ref U))(hA:YL K U ["any"]=true):Au P w K mg base CK 5 f fd ["asks","told"] Ge:=by
 refine F.oq Kz fun Jr A outer s H vs Q E J h=>?_
 ·obtain⟨G,H0,v,a0,L,ws,V,cs,rfl,X,hv,t,x,hL,nL,M,y,B,C,q⟩:=h;have nd:=Kz.nd;have N:=BJ J;refine⟨_,(AB (Aa (AR BC (Br K 0) AU (AV _)) (AG (AQ (JM (v:=.ref U) rfl mA rfl))) AN) (AB (Aa (AR BC (Br K 0) AU (AV _)) (AG (AQ (Ad (AA AU (AX (BY g J.mm (AX (Br K 0)))))))) AN) (AB (Aa (AR BC (Br K 0) AU (AV _)) (AG (AQ (BY c J.mm (AA (pv 1) (AX (Br K 0)))))) AN) (AG (AQ (BY a J.mm (AA (BY i J.mm (AA (Br K 0) (AX (pv 1)))) (AA (Br K 0) (AX (Br K 0)))))))))),?_⟩;obtain⟨l,w0,rest,rfl,Y,k⟩:=hv.ak;have n:=Y.up X;have le:=B.length;have lw:=C.length;rw[List.length_map]at lw;refine⟨_,rfl,l,_,0,_,rfl,rfl,n,B',rfl,_,rfl,?_⟩;rcases k with⟨rfl,rfl,rfl⟩|⟨d,u,rfl,rfl,rfl,N⟩|⟨xs,m,u,rfl,rfl,rfl,N⟩|⟨ks,xs,ls,m,u,z,rfl,rfl,rfl,N,hz⟩
  ·exact DB (q (.ref U) .any H (AF.refl H) (.tup (Bg.rZ (ws:=["any"]) hA _) (.cons (.str _) .nil)) .any)
  ·refine BO ⟨_,rfl,l,_,0,_,rfl,rfl,n,B',rfl,_,rfl,DB ?_⟩;simp only[Ak.CF]at t;simp only[Ak.wt]at x;refine⟨_,rfl,l,_,1,_,rfl,rfl,n,CD,Fi rfl (N.up X) t x fun w Z r O=>⟨Ac,fun p R=>?_⟩⟩;refine q _ (.Ag d) _ (r.trans (AF.new R)) (.tup (Bg.of (by rw[AY (M p (r.free R)),AD])) (.cons (.str _) (.cons (O.up (BB M fun b o _ h=>AF.new R _ _ h)) .nil))) (.Ag d)
  ·refine BO ⟨_,rfl,l,_,0,_,rfl,rfl,n,B',rfl,_,rfl,BO ?_⟩;refine⟨_,rfl,l,_,0,_,rfl,rfl,n,B',rfl,_,rfl,DB ?_⟩;have ea:V=xs:=y;subst ea;simp only[Ak.wt]at x;have:=Ak.Cr V;have:=Ak.C_ V;exact⟨_,rfl,_,rfl,l,_,2,_,rfl,rfl,n,at2,H0,L,ws,cs,m,rfl,hL,C,by lia,M,nL,fun w Z r O=>q w _ Z r O (.row B)⟩
  ·refine BO ⟨_,rfl,l,_,0,_,rfl,rfl,n,B',rfl,_,rfl,BO ?_⟩;refine⟨_,rfl,l,_,0,_,rfl,rfl,n,B',rfl,_,rfl,BO ?_⟩;simp only[Ak.Kd]at y;obtain⟨ss,pm,so,e⟩:=y;simp only[Ak.CF]at t;obtain⟨o1,o2,o3,o4,o5,o6,o7⟩:=t;have la:V.length=ss.length:=by have:=congrArg List.length e;simpa using this.symm
   have yD:=pm.length_eq;refine⟨_,rfl,l,_,1,_,rfl,rfl,n,CD,_,rfl,.tab u ks _ L ws rfl (N.up X) hL ⟨by rw[Ak.AW,List.length_map];exact o1,by lia⟩ (by lia) o2 fun p iw Z r np D I R=>?_⟩;have es:=EA I so (D.trans pm.symm);subst es;have S:=n.up r;refine⟨_,rfl,l,_,2,_,rfl,rfl,S,at2,_,rfl,l,_,3,_,rfl,rfl,S,Av (j:=3) rfl,G,H0,p,iw,ws,cs,z,ls,m,rfl,R,C.up (BB (fun b h=>h) fun b o _ h=>r _ _ h),by lia,D.nodup_iff.mpr o2,by lia,I,(fun b h=>M b (r.free h)),M p np,(hz.up X).up r,o5,fun w H2 s2 O=>q w _ H2 (r.trans s2) O (.tab D I e B)⟩
theorem MN:AZ ["cells","more","just"] ["cells","more"] (AM Kt):={}
theorem RZ{r:FuncData}(F:Co K "good_row" "good_row" Kt f r)(T:Txt mg)(a:Df P w K mg base "inner_just" ["holder"] 3 KY):Au P w K mg base CK 4 f r ["cells","more"] Lz:=by
 refine F.oq MN fun D A outer s H R Q E t h=>?_
 ·obtain⟨k,L,S,c,m,rfl,G,i,I,u,J,q⟩:=h;have nd:=MN.nd;have U:=BJ t;refine⟨_,(AB (Ae 2 nd (BY a t.mm (AX (pv 0)))) (AB (Aa (PW.pt (pw_or (BV (pv 1)) (pw_or1 (AR MR (pv 2) CW (AV _))))) (AG (AQ (Ad (AA AU (AA (pv 0) (AX (pv 1))))))) AN) (AG (AQ (pv 2))))),?_⟩;have len:=i.length;rw[List.length_map]at len;have v:Val (nw k H) (.ref L) (.lst (c.map Ak.pt)):=.lst (.inl (by rw[AY J];exact G)) i;refine⟨_,rfl,k,.ref L,_,c,.lst,rfl,v,.row c (by omega),u,fun w l j hw=>?_⟩;have up:∀{B:Hp},AF l B->Val (nw k B) (.ref L) (.lst (c.map Ak.pt)):=fun M=>v.up (BB (fun b h=>h) fun b o _ h=>(j.trans M) _ _ h);have d:∀p,l p=none->Val (nw k (upd l p (.tup [.str "row",.ref L,.bl m]))) (.ref p) (Ak.row c m).pt:=fun p g=>by
   simp only[Ak.pt];rw[Ak.AW];exact .tup (Bg.of (by rw[AY (u p (j.free g)),AD])) (.cons (.str _) (.cons (up (AF.new g)) (.cons (.bl m) .nil)))
  have C:∀{x y z:V},[x,y,z].length<=sizeLine:=An (show 3<=1000 by decide);refine⟨_,rfl,_,rfl,?_⟩;cases m with
  |true=>exact Cc (Cc ⟨_,rfl,_,rfl,C,fun p g=>q _ _ (j.trans (AF.new g)) (d p g)⟩)
  |false=>
   rcases hw with⟨n,rfl⟩|⟨N,n,hw⟩
   ·have e:Ak.Be c false=Ak.row c false:=by unfold Ak.Be;rw[if_neg (by simp),n]
    rw[e]at q;exact BE ⟨_,rfl,rfl,_,rfl,Cc ⟨_,rfl,_,rfl,C,fun p g=>q _ _ (j.trans (AF.new g)) (d p g)⟩⟩
   ·have e:Ak.Be c false=Ak.Ag (.lst N):=by unfold Ak.Be;rw[if_neg (by simp),n]
    rw[e]at q;have O:w≠.Ah:=fun z=>by rw[z]at hw;cases hw
    exact BE ⟨_,rfl,rfl,_,rfl,BF (decide_eq_false O) ⟨_,rfl,q w l j hw⟩⟩
theorem Iz:AZ ["names","lacking","more","just"] ["names","lacking","more"] (AM Gs):={}
theorem Ni(F:Co K "good_table" "good_table" Gs f J)(T:Txt mg)(c:Df P w K mg base "inner_just" ["holder"] 3 KY):Au P w K mg base CK 4 f J ["names","lacking","more"] L_:=by
 refine F.oq Iz fun U A outer s H X Q E M h=>?_
 ·obtain⟨G,u,L,g,Y,i,z,ls,m,rfl,Z,t,hlen,v,B,C,D,nL,hz,dN,q⟩:=h;have nd:=Iz.nd;have hu:=BJ M;refine⟨_,(AB (Aa (BV (pv 2)) (AG (AQ (Ad (AA AU (AA (pv 0) (AA (A' Ep rfl T.list DG (AX (pv 1))) (AX Nv))))))) AN) (AB (Ae 3 nd (BY c M.mm (AX (pv 0)))) (AB (Aa (AR MR (pv 3) CW (AV _)) (AG (AQ (Ad (AA AU (AA (pv 0) (AA (BD CH) (AX Nv))))))) AN) (AG (AQ (pv 3)))))),?_⟩;have len:=t.length;rw[List.length_map]at len;have N:Val (nw u H) (.ref L) (.Ar g (i.map Ak.pt)):=.Ar (kvs:=Cb g Y) (.inl (by rw[AY nL];exact Z)) (Bn hlen) (by rw[CP hlen];exact t);have up:∀{O:Hp},AF H O->Val (nw u O) (.ref L) (.Ar g (i.map Ak.pt)):=fun s2=>N.up (BB (fun b h=>h) fun b o _ h=>s2 _ _ h);have R:∀{x y z w:V},[x,y,z,w].length<=sizeLine:=An (show 4<=1000 by decide);have j:∀{n:Hp}{k:Addr}{zs:List Str}{m:Bool},AF H n->H k=none->n k=some (.lst (zs.map V.str))->∀p,n p=none->Val (nw u (upd n p (.tup [.str "table",.ref L,.ref k,.bl m]))) (.ref p) (Ak.tab g i zs m).pt:=fun{n k zs m} r n2 h2 p l=>by
   simp only[Ak.pt];rw[Ak.AW];have S:=AF.new (o:=.tup [.str "table",.ref L,.ref k,.bl m]) l;exact .tup (Bg.of (by rw[AY (D p (r.free l)),AD])) (.cons (.str _) (.cons (up (r.trans S)) (.cons (.lst (.inl (by rw[AY (D k n2)];exact S _ _ h2)) (Ow zs)) (.cons (.bl m) .nil))))
  cases m with
  |true=>
   cases hz with
   |@lst a X _ ha ra=>
    have ev:=Ez ra;subst ev;refine⟨_,rfl,_,rfl,Cc ⟨_,rfl,_,rfl,a,_,rfl,.inl (.inl ha),fun k d=>⟨R,fun p l=>?_⟩⟩⟩;exact q _ _ ((AF.new d).trans (AF.new l)) (j (AF.new d) d AD p l)
  |false=>
   refine⟨_,rfl,_,rfl,BE ?_⟩;refine⟨_,rfl,u,.ref L,_,i,.Ar g,rfl,N,.tab g i (by omega) v B C,D,fun w n r hw=>?_⟩;rcases hw with⟨I,rfl⟩|⟨ds,I,hw⟩
   ·have e:Ak.Bf g i ls false=Ak.tab g i [] false:=by unfold Ak.Bf;rw[if_neg (by simp),I]
    rw[e]at q;exact⟨_,rfl,rfl,_,rfl,Cc ⟨_,rfl,Nat.zero_le _,fun k d=>⟨R,fun p l=>q _ _ ((r.trans (AF.new d)).trans (AF.new l)) (j (zs:=[]) (r.trans (AF.new d)) (r.free d) AD p l)⟩⟩⟩
   ·have e:Ak.Bf g i ls false=Ak.Ag (.Ar g ds):=by unfold Ak.Bf;rw[if_neg (by simp),I]
    rw[e]at q;have nn:w≠.Ah:=fun z=>by rw[z]at hw;cases hw
    exact⟨_,rfl,rfl,_,rfl,BF (decide_eq_false nn) ⟨_,rfl,q w n r hw⟩⟩
theorem I_:AZ ["asks","path","found","step"] ["asks","path"] (AM Gu):={}
theorem Nj(F:Co K "found_asks" "found_asks" Gu f fd)(T:Txt mg)(J:Df P w K mg base "holds" ["doc","step"] 1 He):Au P w K mg base CK 2 f fd ["asks","path"] Pn:=by
 refine F.oq I_ fun Jr A outer s H vs Q E hr h=>?_
 ·obtain⟨G,v,a,p,ks,rfl,sG,hv,Ax,hs,iz,hp,q1,q2⟩:=h;have nd:=I_.nd;have hu:=BJ hr;refine⟨_,(AB (Ae 2 nd (pv 0)) (AB (LC (Jj (pv 1)) (CJ 3 nd) (AB (Aa (PW.pt (pw_or (AR BC (Br K 2) AU (AV _)) (pw_or1 (QI (BV (BY J hr.mm (AA (Br K 2) (AX (pv 3))))))))) (AG (AQ CW)) AN) (AG (Aa (AR BC (Br K 2) AU (AV _)) (AG (Ae 2 nd (Ad (AA AU (AX (Dq (FF K (Br K 2) (pv 3)) (LY hu (Br K 2) (pv 3)))))))) (AG (Ae 2 nd (Dq (FF K (Br K 2) (pv 3)) (LY hu (Br K 2) (pv 3))))))))) (AG (AQ (pv 2))))),?_⟩;have O:=hp;have I:=fun{y:Hp}(s:AF H y)=>Gb (G:=G) sG s;refine⟨_,rfl,_,rfl,p,rfl,⟨_,O⟩,JN (K:=K) (xs:=ks.map kV) (fun i σ y=>∃(R:V)(b:Ak)(o:Option V),σ=[some v,some (.ref p),some R,o]/\a.sub (ks.take i)=some b/\Val (ov G H y) R b.pt/\AF H y) ⟨v,a,none,rfl,rfl,hv.up Dt,AF.refl _⟩ (fun i σ y _ ⟨_,_,_,_,_,_,s⟩=>O.up s) ?_ ?_⟩
  ·rintro i x σ y S ⟨R,b,o,rfl,U,vb,l⟩;rw[List.getElem?_map]at S;cases hk:ks[i]? with
   |none=>rw[hk]at S;cases S
   |some k=>
    rw[hk]at S;cases S;obtain⟨bG,bs,bw,_⟩:=Ak.NH Ax hs U;have st:=Ak.WN U hk;have no:b.Dj k=none->Q .Ah y:=fun e=>q2 (Ak.Ya (st.trans e)) y l;obtain⟨r,w0,rest,rfl,uH,kinds⟩:=vb.ak;have g:=uH.up (I l);rcases kinds with⟨rfl,rfl,rfl⟩|⟨d,u,rfl,rfl,rfl,n⟩|⟨xs,m,u,rfl,rfl,rfl,n⟩|⟨ns,xs,ls,m,u,z,rfl,rfl,rfl,n,hz⟩
    ·exact⟨_,rfl,r,_,0,_,rfl,rfl,g,B',rfl,_,rfl,DB (no (by cases k<;>rfl))⟩
    ·simp only[Ak.CF]at bG;simp only[Ak.wt]at bw;refine⟨_,rfl,r,_,0,_,rfl,rfl,g,B',rfl,_,rfl,BO ?_⟩;refine⟨_,rfl,r,_,1,u,rfl,rfl,g,CD,_,rfl,u,d,k,rfl,n.up (I l),Lu bG (by lia),?_⟩;cases t:d.Fn k with
     |none=>exact⟨_,rfl,Cc (no (by simp only[Ak.Dj];rw[t];rfl))⟩
     |some e=>
      obtain⟨w,L,X⟩:=n.WQ t;have q:Ak.sub a (ks.take (i+1))=some (.Ag e):=st.trans (by simp only[Ak.Dj];rw[t];rfl);refine⟨_,rfl,BE ?_⟩;refine⟨_,rfl,r,_,0,_,rfl,rfl,g,B',rfl,_,rfl,DB ?_⟩;have vj:∀{Y:Addr}(h:y Y=none),Val (ov G H (upd y Y (.tup [.str "just",w]))) (.ref Y) (Ak.Ag e).pt:=fun h=>.tup (.of (by rw[Fo sG (l.free h),AD])) (.cons (.str _) (.cons (L.up (EE (AF.new h))) .nil));cases X with
      |pl a2 Z j B C x2 D=>exact .inl ⟨_,rfl,r,_,1,u,rfl,rfl,g,CD,_,rfl,a2,_,_,_,B,x2,.inl (C.up (I l _)),Av D,Ac,fun Y hT=>⟨_,_,_,rfl,q,vj hT,l.trans (AF.new hT)⟩⟩
      |nm a2 kvs B C D=>exact .inr ⟨_,rfl,r,_,1,u,rfl,rfl,g,CD,_,rfl,a2,w,B,.inl ⟨_,k,C.up (I l _),rfl,D.symm⟩,Ac,fun Y hT=>⟨_,_,_,rfl,q,vj hT,l.trans (AF.new hT)⟩⟩
    ·have t:=Ak.Yb (xs:=xs) (m:=m) (k:=k);obtain⟨e,M⟩:∃e,(Ak.row xs m).Dj k=e:=⟨_,rfl⟩;rw[M]at t;have hold:Dr (.lst (Ak.CO xs)):=by
      have:=Ak.Cr xs;have:=Ak.C_ xs;simp only[Ak.wt]at bw;simp only[Dr,Ak.AW,List.length_map];lia
     refine⟨_,rfl,r,_,0,_,rfl,rfl,g,B',rfl,_,rfl,BO ?_⟩;refine⟨_,rfl,r,_,1,u,rfl,rfl,g,CD,_,rfl,u,_,k,rfl,n.up (I l),hold,?_⟩;rw[t];cases N:e with
     |none=>exact⟨_,rfl,Cc (no (M.trans N))⟩
     |some c=>
      rw[N]at t;obtain⟨w,L,X⟩:=n.WQ t;have q:=st.trans (M.trans N);refine⟨_,rfl,BE ?_⟩;refine⟨_,rfl,r,_,0,_,rfl,rfl,g,B',rfl,_,rfl,BO ?_⟩;cases X with
      |pl a2 Z j B C x2 D=>exact .inl ⟨_,rfl,r,_,1,u,rfl,rfl,g,CD,_,rfl,a2,_,_,_,B,x2,.inl (C.up (I l _)),Av D,_,_,_,rfl,q,L,l⟩
      |nm a2 kvs B C D=>exact .inr ⟨_,rfl,r,_,1,u,rfl,rfl,g,CD,_,rfl,a2,w,B,.inl ⟨_,k,C.up (I l _),rfl,D.symm⟩,_,_,_,rfl,q,L,l⟩
    ·have t:=Ak.Yc (ks:=ns) (ls:=ls) (xs:=xs) (m:=m) (k:=k);obtain⟨e,M⟩:∃e,(Ak.tab ns xs ls m).Dj k=e:=⟨_,rfl⟩;rw[M]at t;have hold:Dr (.Ar ns (Ak.CO xs)):=by
      simp only[Ak.CF]at bG;simp only[Dr,Ak.AW,List.length_map];lia
     refine⟨_,rfl,r,_,0,_,rfl,rfl,g,B',rfl,_,rfl,BO ?_⟩;refine⟨_,rfl,r,_,1,u,rfl,rfl,g,CD,_,rfl,u,_,k,rfl,n.up (I l),hold,?_⟩;rw[t];cases N:e with
     |none=>exact⟨_,rfl,Cc (no (M.trans N))⟩
     |some c=>
      rw[N]at t;obtain⟨w,L,X⟩:=n.WQ t;have q:=st.trans (M.trans N);refine⟨_,rfl,BE ?_⟩;refine⟨_,rfl,r,_,0,_,rfl,rfl,g,B',rfl,_,rfl,BO ?_⟩;cases X with
      |pl a2 Z j B C x2 D=>exact .inl ⟨_,rfl,r,_,1,u,rfl,rfl,g,CD,_,rfl,a2,_,_,_,B,x2,.inl (C.up (I l _)),Av D,_,_,_,rfl,q,L,l⟩
      |nm a2 kvs B C D=>exact .inr ⟨_,rfl,r,_,1,u,rfl,rfl,g,CD,_,rfl,a2,w,B,.inl ⟨_,k,C.up (I l _),rfl,D.symm⟩,_,_,_,rfl,q,L,l⟩
  ·rintro σ y ⟨R,b,o,rfl,U,vb,l⟩;rw[List.length_map,List.take_length]at U;exact⟨_,rfl,q1 R b y U l vb⟩
theorem Sk:AZ ["asks","step"] ["asks","step"] (AM RU):={}
theorem W_{t:FuncData}(F:Co K "tells" "tells" RU f t)(T:Txt mg)(a:Df P w K mg base "holds" ["doc","step"] 1 He):Au P w K mg base CK 2 f t ["asks","step"] SQ:=by
 refine F.oq Sk fun I A outer s H U Q E B h=>?_
 ·obtain⟨v,b,c,ls,m,n,rfl,J,g,q⟩:=h;have nd:=Sk.nd;have C:=BJ B;refine⟨_,(AG (AQ (Uh (BY a B.mm (AA (Br K 0) (AX (pv 1)))) (Ji (QJ (Dz BC (Br K 0) AU (AV _)) (Ji (Dz (IC:Ek _ _ (dI K false)) (pv 1) (Br K 0) rfl))))))),?_⟩;obtain⟨i,X,rest,rfl,j,L⟩:=J.ak;rcases L with⟨e,_⟩|⟨d,u,e,_⟩|⟨o,M,u,e,_⟩|⟨N,o,O,M,u,z,e,rfl,rfl,C,p⟩
  ·cases e
  ·cases e
  ·cases e
  cases e;have hold:Dr (.Ar b (Ak.CO c)):=by
   simp only[Ak.CF]at g;simp only[Dr,Ak.AW,List.length_map];lia
  obtain⟨l,Y,rfl,D,R⟩:=p.KJ;rw[Ez R]at D;refine⟨_,rfl,i,_,1,u,rfl,rfl,j,CD,_,rfl,u,_,Sum.inr n,rfl,C,hold,?_⟩;have S:((Pt.Ar b (Ak.CO c)).Fn (Sum.inr n)).isSome=decide (n∈b):=by
   show(lk b (Ak.CO c) n).isSome=_;rw[Bool.eq_iff_iff,decide_eq_true_iff];constructor
   ·intro h;obtain⟨x,r⟩:=Option.isSome_iff_exists.mp h;exact(Ex r).1
   ·intro h;obtain⟨x,r⟩:=GC hold.1 h;rw[r];rfl
  rw[S];have k:AL.FI b ls n=(decide (n∈b)||decide (n∈ls)):=rfl;rw[k]at q;refine⟨_,rfl,?_⟩;cases G:decide (n∈b)with
  |true=>
   rw[G,Bool.true_or]at q;exact Cc q
  |false=>
   rw[G,Bool.false_or]at q;refine BE ⟨_,rfl,i,_,0,_,rfl,rfl,j,B',rfl,_,rfl,DB ⟨_,rfl,_,rfl,i,_,2,_,rfl,rfl,j,at2,l,_,rfl,.inl (.inl D),rfl,(by rw[List.all_eq_true];intro z p;obtain⟨y,_,rfl⟩:=List.mem_map.mp p;rfl),?_⟩⟩;show Q (.bl (ZW (.str n) (ls.map V.str))) H;rw[Fc];exact q
theorem W':AZ ["makes","asks","doc"] ["makes","asks","doc"] (AM Ku):={}
theorem Yy{fI cM TM:Addr}(F:Co K "made" "made" Ku f fd)(T:Txt mg)(I:Df P w K mg base "folded" ["root","inner","join"] 6 (NM P w K mg base fI))(g:Df P w K mg base "made_part" ["makes","told","asks","doc"] 4 Se)(oX:fd.code=.ref cM)(uI:PySem.W.codeHdIn K cM TM=true)(mE:BM mg base)(mI:mg "inner_nodes"=some (.ref fI)):Au P w K mg base CK 8 f fd ["makes","asks","doc"] (Ws TM ij ip):=by
 obtain⟨i_,jA,J,M,N,O⟩:=I.ex;obtain⟨V,X,j,l,p,y⟩:=g.ex;refine F.tE oX W' (fun vs H Q E h=>?_) (fun A outer s H vs Q E hr h=>?_)
 ·obtain⟨G,v,u,d,m,A0,t,rfl,sG,gT,hv,Ax,Xa,hsz,gb,hd,lt,tab,q⟩:=h;rfl
 ·obtain⟨G,v,u,d,m,A0,t,rfl,sG,gT,hv,Ax,Xa,hsz,gb,hd,lt,tab,q⟩:=h;have nd:=W'.nd;have hu:=BJ hr;have C:Bi 6 _:=hr.mm;have S:Bi 4 _:=hr.mm;refine⟨_,(AG (AQ (We O C rfl N J M .nil rfl (AA (pv 0) (AA (JM (v:=.ref fI) rfl mI rfl) (AX (bq rfl uI mE rfl rfl))))))),?_⟩;refine⟨_,rfl,tab,fun fl cl pm ctv R B nf pG Y uJ=>?_⟩;intro F0 fz;obtain⟨Z,hZ⟩:∃Z,Z=EM (MU CK P w K mg base ["makes","asks","doc"] "made" (AM Ku) f (.ref cM) A outer s H E).ZS:=⟨_,rfl⟩;rw[<-hZ];have zn:∀b∈Z,R b=none:=fun b a=>by rw[hZ]at a;obtain⟨x,hx⟩:=CS.mp a;exact fz.Ah x b hx
  have zo:∀b∈Z,∃o,F0 b=some (.Ba o (.own 0)):=fun b a=>by rw[hZ]at a;obtain⟨x,hx⟩:=CS.mp a;obtain⟨o,_,e,_⟩:=fz.iY x b hx;exact⟨o,e⟩
  have m1:s.heap.objs.size+1∈Z:=by rw[hZ];exact CS.mpr ⟨"asks",rfl⟩
  have m2:s.heap.objs.size+1+1∈Z:=by rw[hZ];exact CS.mpr ⟨"doc",rfl⟩
  obtain⟨o1,u1,e1,d1,r1⟩:=fz.val 1 "asks" u (s.heap.objs.size+1) rfl rfl rfl rfl;obtain⟨o2,u2,e2,d2,r2⟩:=fz.val 2 "doc" d (s.heap.objs.size+1+1) rfl rfl rfl rfl;have U:AF R (QF Z F0 R):=fun b o e=>by rw[CQ (fun a=>by rw[zn b a]at e;cases e)];exact e
  have mF:AF G (QF Z F0 R):=fun b o e=>U _ _ (B b o (fun z=>by rw[z,gT]at e;cases e) (sG _ _ e));have gz:∀b∈Z,G b=none:=fun b a=>by
   cases h:G b with
   |none=>rfl
   |some o=>
    have:=B b o (fun z=>by rw[z,gT]at h;cases h) (sG _ _ h);rw[zn b a]at this;cases this
  have x1:QF Z F0 R (s.heap.objs.size+1)=some (.Ba o1 (.own 0)):=by rw[Iv m1];exact e1
  have x2:QF Z F0 R (s.heap.objs.size+1+1)=some (.Ba o2 (.own 0)):=by rw[Iv m2];exact e2
  have LH:=PZ.mk (H:=QF Z F0 R) (f:=fl) (cl:=[("doc",s.heap.objs.size+1+1),("asks",s.heap.objs.size+1)]) (pm:=pm) (c:=cl) (ctv:=ctv) (fs:=["asks","doc"]) (ws:=[u,d]) ⟨_,U _ _ Y⟩ (let⟨oc,uc,xs,tt,h,r⟩:=uJ;⟨oc,uc,xs,tt,U _ _ h,r⟩) (fun x hx=>by
   rcases List.mem_cons.mp hx with rfl|hx
   ·exact⟨_,rfl⟩
   ·rw[List.mem_singleton.mp hx];exact⟨_,rfl⟩) fz.inj (fun c hc=>by
   rcases List.mem_cons.mp hc with rfl|hc
   ·exact⟨o2,_,x2,d2⟩
   ·rw[List.mem_singleton.mp hc];exact⟨o1,_,x1,d1⟩) (fun i x vv h1 h2=>by
   match i,h1,h2 with
   |0,h1,h2=>cases h1;cases h2;exact⟨_,o1,u1,rfl,x1,d1,r1⟩
   |1,h1,h2=>cases h1;cases h2;exact⟨_,o2,u2,rfl,x2,d2,r2⟩) rfl
  generalize uK:QF Z F0 R=Hx at U mF x1 x2 LH⊢;have zc:∀{b:Addr},b∈([("doc",s.heap.objs.size+1+1),("asks",s.heap.objs.size+1)]:List (Str×Addr)).map (·.2)->b∈Z:=fun{b} a=>by
   rcases List.mem_cons.mp a with rfl|a
   ·exact m2
   ·rw[List.mem_singleton.mp a];exact m1
  generalize yE:([("doc",s.heap.objs.size+1+1),("asks",s.heap.objs.size+1)]:List (Str×Addr))=D at LH zc Y;have zx:∀b∈D.map (·.2),∃o,Hx b=some (.Ba o (.own 0)):=fun b a=>by obtain⟨o,_,e,_⟩:=LH.fz b a;exact⟨o,e⟩
  have GL:=LH.ok (P:=P) (w:=w) (K:=K) (mg:=mg) (base:=base) (k:=4) (ps:=["node","told"]) (sp:=RN (AL.ig A0 t) (AL.cD A0) Hx) {} (fun vs H Q E hj=>by obtain⟨_,_,_,_,_,_,_,rfl,_⟩:=hj;rfl) fun vs H2 Q2 E2 hj=>by
   obtain⟨H0,nv,nt,L,ws,us,cs,rfl,sx,uL,⟨m',rfl,Yz,cR,_⟩,hL,nL,uM,uN,kd,pr,uO,q2⟩:=hj;refine⟨[u,d],LH.up sx,fun A1 mG s1 Ud=>⟨_,Rm y Ud rfl p j l .nil OM (AA (pv 0) (AA (pv 1) (AA (pv 2) (AX (pv 3))))),?_⟩⟩;have uP:∀b∈D.map (·.2),∃o,H2 b=some (.Ba o (.own 0)):=fun b a=>let⟨o,e⟩:=zx b a;⟨o,sx _ _ e⟩;have so:AF (DH (D.map (·.2)) Hx) (DH (D.map (·.2)) H2):=fun b o e=>by obtain⟨h1,h2⟩:=PY e;rw[BX h1];exact sx _ _ h2
   have pH:AF G (DH (D.map (·.2)) Hx):=fun b o e=>by rw[BX (fun a=>by rw[gz b (zc a)]at e;cases e)];exact mF _ _ e
   have nz:∀b o,H0 b=none->H2 b=some o->b∉D.map (·.2):=fun b o h _ a=>by obtain⟨o',e⟩:=zx b a;rw[uN _ _ e]at h;cases h
   refine⟨_,rfl,_,rfl,_,rfl,_,rfl,DH (D.map (·.2)) Hx,DH (D.map (·.2)) H0,nv,m',L,ws,us,cs,u,d,A0,t,rfl,so,uL.b_ (UK zx),Yz,cR,?_,C' nL,fun b hb=>?_,kd,pr,?_,gb.up pH,hd.up pH,lt,fun w' b' H' s' vw mx uQ=>?_⟩
   ·rw[BX (fun a=>by obtain⟨o',e⟩:=uP L a;rw[hL]at e;cases e)];exact hL
   ·by_cases a:b∈D.map (·.2)
    ·exact Ie a
    ·rw[BX a]at hb;exact C' (uM b hb)
   ·refine uO.up fun b o e=>?_;cases h:H0 b with
    |some z=>rw[Bz h]at e;cases e
    |none=>
     rw[AY h]at e;rw[AY (C' h),BX (nz b o h e)];exact e
   ·refine q2 w' b' _ (fun b o e=>?_) (vw.up fun b o e=>?_) ⟨m',rfl,mx⟩
    ·by_cases a:b∈D.map (·.2)
     ·rw[Iv a];exact e
     ·rw[CQ a];exact s' _ _ (by rw[BX a];exact e)
    ·cases h:DH (D.map (·.2)) H0 b with
     |some z=>rw[Bz h]at e;cases e
     |none=>
      rw[AY h]at e;have a:b∉D.map (·.2):=fun a=>by rw[uQ b a]at e;cases e
      rw[BX a]at h;rw[AY h,CQ a];exact e
  refine⟨AL.ig A0 t,AL.cD A0,v,m.pt,fl,_,_,rfl,hv.up mF,⟨m,rfl,Ax,Xa,hsz⟩,fun x h=>h.lP,fun x us h k=>h.Zs k,.inr ⟨_,_,_,U _ _ Y,rfl⟩,.all fun us hl=>by obtain⟨y1,y2,rfl⟩:=(show∃y1 y2,us=[y1,y2]from by match us,hl with|[y1,y2],_=>exact⟨y1,y2,rfl⟩);rfl,GL,fun w' b' H4 s4 vw mr=>?_⟩;obtain⟨m',em,mx⟩:=mr;have:=AL.Gp _ _ em;subst this;have S4:AF R (DH Z H4):=fun b o e=>by rw[BX (fun a=>by rw[zn b a]at e;cases e)];exact s4 _ _ (U _ _ e)
  refine q w' b' _ (fun b o n e=>S4 _ _ (B b o n e)) (pG.up S4) (vw.up fun b o e=>?_) mx;cases h:Hx b with
  |some z=>rw[Bz h]at e;cases e
  |none=>
   rw[AY h]at e;have a:b∉Z:=fun a=>by obtain⟨o',e'⟩:=zo b a;rw[<-uK,Iv a,e']at h;cases h
   have hT:∃o,R TM=some o:=by cases pG with|new h=>exact⟨_,h⟩|old _ _ _ _ h=>exact⟨_,h⟩
   have hb:H b=none:=by
    cases hh:H b with
    |none=>rfl
    |some z=>
     by_cases bt:b=TM
     ·obtain⟨o',e'⟩:=hT;rw[bt,U _ _ e']at h;cases h
     ·rw[U _ _ (B b z bt hh)]at h;cases h
   rw[AY hb,BX a];exact e
theorem K_:AZ ["makes","told","asks","doc","holder","found","part","name"] ["makes","told","asks","doc"] (AM Il):={}
theorem Pz(F:Co K "made_part" "made_part" Il f fd)(T:Txt mg)(Y_:Df P w K mg base "copy_of" ["doc"] 2 FZ)(c:Df P w K mg base "part_at" ["doc","path"] 3 Pm)(Y':Df P w K mg base "filled" ["holder","told"] 2 HX)(g:Df P w K mg base "found_asks" ["asks","path"] 2 Pn)(cS:Df P w K mg base "tells" ["asks","step"] 2 SQ):Au P w K mg base CK 4 f fd ["makes","told","asks","doc"] Se:=by
 refine F.oq K_ fun Jr A outer s H vs Q E hr h=>?_
 ·obtain⟨G,H0,v,m,L,ws,us,cs,u,d,A0,t,rfl,sG,hv,k,Xa,hL,nL,l,kd,pr,X,gb,hd,lt,q⟩:=h;have nd:=K_.nd;have hu:=BJ hr;refine⟨_,(AB (Aa (AR BC (Br K 0) AU (AV _)) (AG (AQ (BY Y_ hr.mm (AX (Br K 0))))) AN) (AB (Aa (AR BC (Br K 0) AU (AV _)) (AG (AQ (BY c hr.mm (AA (pv 3) (AX (Br K 0)))))) AN) (AB (Ae 4 nd (BY Y' hr.mm (AA (Br K 0) (AX (pv 1))))) (AB (Aa (AR MR (Br K 0) CW (AV _)) (AG (AQ (pv 4))) AN) (AB (Ae 5 nd (BY g hr.mm (AA (pv 2) (AX (Br K 0))))) (AB (Ae 6 nd (BY c hr.mm (AA (pv 3) (AX (Br K 0))))) (AB (Aa (AR BC (Br K 0) AU (AV _)) (AG (AQ (AO Jn (pv 4) (DK (r:=Uv K) JR (pv 6) (DX (Fv T.len (Br K 5))) Eo)))) AN) (AB (Mp (LC (F' (pv 6)) (CJ 7 nd) (AG (Aa (QI (BV (BY cS hr.mm (AA (pv 5) (AX (pv 7)))))) (AG (D' hu (pv 4) (pv 7) (LY hu (pv 6) (pv 7)) rfl)) AN)))) (AG (AQ (pv 4))))))))))),?_⟩;obtain⟨n,w0,rest,rfl,Sl,kinds⟩:=hv.lJ;have S:=Sl.up sG;have gone:m.one A0=true:=by rw[AL.Jb,Bool.and_eq_true]at Xa;exact Xa.1
  refine⟨_,rfl,n,_,0,_,rfl,rfl,S,B',rfl,_,rfl,?_⟩;have uR:=lt.dp;have uS:=lt.sz;rcases kinds with⟨p,x,rfl,rfl,rfl,hx⟩|⟨e,x,rfl,rfl,rfl,hx⟩|⟨xs,o,x,z,rfl,rfl,rfl,hx,hz⟩|⟨ks,xs,o,x,z,rfl,rfl,rfl,hx,hz⟩
  ·refine BO ⟨_,rfl,n,_,0,_,rfl,rfl,S,B',rfl,_,rfl,DB ?_⟩;obtain⟨pa,rfl,M⟩:=hx.path;have gs:(A0.sub p).isSome=true:=gone;obtain⟨b,hb⟩:=Option.isSome_iff_exists.mp gs;obtain⟨y,h1,I,h3,h4,_,_⟩:=lt.sub hb;refine⟨_,rfl,_,rfl,n,_,1,_,rfl,rfl,S,CD,d,t,y,pa,p,rfl,hd.up sG,M.up sG,h1,lt.dc,by lia,I,by lia,fun w H1 B vw=>q w y H1 B (vw.up (BB l fun b o _ h=>h)) ⟨?_,Pt.KZ _ I,?_,?_,Pt.Sb I⟩⟩
   ·simp only[AL.made,h1,Option.getD_some];exact Pt.Du _ (Pt.KZ _ I)
   ·simp only[AL.deep];lia
   ·simp only[AL.size];lia
  ·simp only[AL.ok]at k;refine DB ⟨_,rfl,n,_,1,_,rfl,rfl,S,CD,Fi rfl (hx.up sG) k.1 k.2.1 fun w H1 B vw=>q w e H1 B (vw.up (BB l fun b o _ h=>h)) ⟨?_,Pt.KZ _ k.1,?_,?_,Pt.Sb k.1⟩⟩
   ·simp only[AL.made];exact Pt.Du _ (Pt.KZ _ k.1)
   ·simp only[AL.deep];lia
   ·simp only[AL.size];lia
  ·refine BO ⟨_,rfl,n,_,0,_,rfl,rfl,S,B',rfl,_,rfl,BO ?_⟩;have ek:us=xs.map AL.pt:=by rw[<-AL.AW];exact kd
   subst ek;have ml:=AL.RQ (AL.NQ pr);have lw:=X.length;have lc:=ml.len;have U:=k;simp only[AL.ok]at U;have vx:=AL.Wm.row lt gone ml;refine⟨_,rfl,n,_,1,_,rfl,rfl,S,CD,_,rfl,.row x _ L ws rfl (hx.up sG) hL (by lia) fun p H1 B np hp=>?_⟩;have gg:=S.up B;have n0:=l p np;refine⟨_,rfl,n,_,2,_,rfl,rfl,gg,at2,rfl,_,rfl,?_⟩;cases o with
   |none=>
    cases hz;refine Cc ⟨_,rfl,q _ _ H1 B ?_ vx⟩;show Val _ _ (.lst (cs++[]));rw[List.append_nil];exact .lst (.inl (by rw[AY n0];exact hp)) (X.up (BB (fun b h=>h) fun b o _ h=>B _ _ h))
   |some pk=>
    obtain⟨pa,rfl,M⟩:=hz.path;obtain⟨uT,J,e1,e2,l2,I,h3,h4,et⟩:=AL.RO lt (show AL.LV A0 pk=true from gone);have C:=sG.trans B;refine BE ⟨_,rfl,_,rfl,n,_,2,_,rfl,rfl,gg,at2,G,u,A0,pa,pk,rfl,C,gb,lt.ok,lt.sr,lt.wt,M.up C,fun w b H2 eb s2 vb=>?_,fun eb=>by rw[e1]at eb;cases eb⟩;rw[e1]at eb;cases eb;have a:=B.trans s2;have gh:=sG.trans a;refine⟨_,rfl,_,rfl,n,_,2,_,rfl,rfl,S.up a,at2,d,t,.lst J,pa,pk,rfl,hd.up gh,M.up gh,e2,lt.dc,by lia,I,by lia,fun w2 H3 s3 v2=>?_⟩;have Y:=a.trans s3;obtain⟨a2,Zu,rfl,ZA,r2⟩:=v2.KJ;have dX:=ZA.up (Ff _);refine⟨_,rfl,n,_,0,_,rfl,rfl,S.up Y,B',rfl,_,rfl,DB ?_⟩;obtain⟨tf,wf,rf,rfl,hf,kf⟩:=((vb.up (Gb C s2)).up s3).ak;rcases kf with⟨z,_⟩|⟨_,_,z,_⟩|⟨uU,m2,u2,z,rfl,rfl,gj⟩|⟨_,_,_,_,_,_,z,_⟩
    ·cases z
    ·cases z
    ·cases z;obtain⟨a3,cU,rfl,gq,r4⟩:=gj.KJ;have l4:=r4.length;rw[Ak.AW,List.length_map]at l4;refine⟨_,rfl,_,rfl,_,rfl,tf,_,1,_,rfl,rfl,hf,CD,a3,cU,rfl,.inl (.inl gq),_,rfl,a2,Zu,rfl,.inl dX,fun q1 Np=>?_⟩;rw[IH];obtain⟨H4,eH,s4,f4⟩:=DA (o:=.lst (Zu.drop cU.length)) Np;rw[eH];clear eH;have s14:=(s2.trans s3).trans s4;have lr:=r2.length;have ly:=Pt.Cr J;simp only[Pt.size]at h3;refine⟨p,q1,_,_,rfl,rfl,s14 _ _ hp,f4,HW (by rw[List.length_drop];lia),fun p5 QG=>?_⟩;have s5:=AF.new (o:=.lst (ws++Zu.drop cU.length)) QG;have S5:=(B.trans s14).trans s5;have n5:=l p5 ((B.trans s14).free QG);refine q _ _ _ S5 ?_ vx;rw[et,<-l4];exact .lst (.inl (by rw[AY n5,AD])) ((X.up (BB (fun b h=>h) fun b o _ h=>S5 _ _ h)).append ((r2.SR _).up (BB (fun b h=>l b (a.free h)) fun b o _ h=>s5 _ _ (s4 _ _ h))))
    ·cases z
  ·refine BO ⟨_,rfl,n,_,0,_,rfl,rfl,S,B',rfl,_,rfl,BO ?_⟩;have U:=k;simp only[AL.ok]at U;obtain⟨o1,o2,o3,_,_⟩:=U;obtain⟨ss,ms,pm,so,em,rfl⟩:=AL.cC o1 kd;have ml:=AL.RQ (AL.NQ pr);have lw:=X.length;have lc:=ml.len;have lm:ms.length=ss.length:=by have:=congrArg List.length em;simpa using this.symm
   have ls:=pm.length_eq;have vx:=AL.Wm.tab lt gone o1 o2 pm em ml;have R:=AL.NR lt gone;refine⟨_,rfl,n,_,1,_,rfl,rfl,S,CD,_,rfl,.tab x ks _ L ws rfl (hx.up sG) hL ⟨by rw[AL.AW,List.length_map];exact o1,o3⟩ (by lia) o2 fun p Z H1 B np uV mD hp=>?_⟩;have es:=EA mD so (uV.trans pm.symm);subst es;have pJ:Z.length=ws.length:=by lia
   have gg:=S.up B;have n0:=l p np;refine⟨_,rfl,n,_,2,_,rfl,rfl,gg,at2,rfl,_,rfl,?_⟩;cases o with
   |none=>
    cases hz;refine Cc ⟨_,rfl,q _ _ H1 B ?_ vx⟩;show Val _ _ (.Ar (Z++[]) (cs++[]));rw[List.append_nil,List.append_nil];exact .Ar (.inl (by rw[AY n0];exact hp)) (Bn pJ) (by rw[CP pJ];exact X.up (BB (fun b h=>h) fun b o _ h=>B _ _ h))
   |some pk=>
    obtain⟨pa,rfl,M⟩:=hz.path;obtain⟨kt,xt,lt',N,J,e1,e2,I,h3,h4,h5,h6,h7,et⟩:=AL.RP lt (show AL.LW A0 ks pk=true from gone);have C:=sG.trans B;refine BE ⟨_,rfl,_,rfl,n,_,2,_,rfl,rfl,gg,at2,G,u,A0,pa,pk,rfl,C,gb,lt.ok,lt.sr,lt.wt,M.up C,fun w b H2 eb s2 vb=>?_,fun eb=>by rw[e1]at eb;cases eb⟩;rw[e1]at eb;cases eb;have a:=B.trans s2;have gh:=sG.trans a;refine⟨_,rfl,_,rfl,n,_,2,_,rfl,rfl,S.up a,at2,d,t,.Ar N J,pa,pk,rfl,hd.up gh,M.up gh,e2,lt.dc,by lia,I,by lia,fun w2 H3 s3 v2=>?_⟩;have Y:=a.trans s3;obtain⟨a2,D,rfl,ZA,YS,r2⟩:=v2.Oj;have dX:=ZA.up (Ff _);have mH:H2 a2=none:=by
     rcases ZA with z|⟨_,z⟩<;>(cases h:H2 a2 with|none=>rfl|some _=>rw[Bz h]at z;cases z)
    have XA:p≠a2:=fun z=>by rw[<-z,s2 _ _ hp]at mH;cases mH
    have jB:=(s2.trans s3) _ _ hp;refine⟨_,rfl,n,_,0,_,rfl,rfl,S.up Y,B',rfl,_,rfl,BO ?_⟩;simp only[Pt.doc]at I;obtain⟨d1,d2,d3,d4,d5⟩:=I;have l2:D.length=N.length:=by have:=congrArg List.length YS;simpa using this
    refine⟨a2,_,dX,fun oF Hf F=>⟨_,rfl,a2,oF,_,rfl,F.at_,?_⟩⟩;have fl:∀i:Nat,((N.zip J).take (i+1)).filter (fun q=>decide (q.1∉kt))=((N.zip J).take i).filter (fun q=>decide (q.1∉kt))++(((N.zip J)[i]?.toList).filter fun q=>decide (q.1∉kt)):=fun i=>by rw[List.take_add_one,List.filter_append]
    refine J' (fun i σ Hi=>∃(rv:List V)(o7:Option V),σ=[some (.ref n),some (.ref L),some u,some d,some (.ref p),some w,some (.ref a2),o7]/\(∀b,b≠p->Hi b=Hf b)/\Hi p=some (.dK (Cb (Z++(((N.zip J).take i).filter fun q=>decide (q.1∉kt)).map (·.1)) (ws++rv)))/\AS (nw H2 H3) rv ((((N.zip J).take i).filter fun q=>decide (q.1∉kt)).map (·.2)))
     ⟨[],none,rfl,fun b _=>rfl,by rw[F.ne p XA,jB];simp,.nil⟩ (fun i σ Hi _ ⟨_,_,_,FL,_⟩=>by rw[FL a2 (Ne.symm XA)];exact F.at_) ?_ ?_
    ·rintro i key y σ Hi hy ⟨rv,o7,rfl,FL,Nn,vr⟩;obtain⟨hi,_⟩:=yo hy;obtain⟨nm,Uc⟩:∃nm,N[i]?=some nm:=⟨_,yn (by lia)⟩;obtain⟨ty,g1,g2⟩:=r2.get (show(D.map (·.2))[i]?=some y by rw[List.getElem?_map,hy];rfl);have ek:key=Sum.inr nm:=by
      have:=congrArg (fun z=>z[i]?) YS;simp only[List.getElem?_map,hy,Uc]at this;simpa using this
     subst ek;have zi:(N.zip J)[i]?=some (nm,ty):=List.getElem?_zip_eq_some.mpr ⟨Uc,g1⟩;have uW:nm∉lt':=h5 nm (yr Uc);have uX:Val Hi w (Ak.tab kt xt lt' true).pt:=vb.up fun b o e=>by
      have bp:b≠p:=fun z=>by
       subst z;unfold ov at e;rw[sG.free np]at e;simp only at e;rw[Bz hp]at e;cases e
      have ba:b≠a2:=fun z=>by
       subst z;have:=Gb C s2 _ _ e;rw[mH]at this;cases this
      rw[FL b bp,F.ne b ba];exact s3 _ _ (Gb C s2 _ _ e)
     have mJ:(D.map (·.1)).Nodup:=by rw[YS];exact List.pairwise_map.mpr (d2.imp fun h e=>h (Sum.inr.inj e))
     refine⟨_,rfl,_,rfl,w,kt,xt,lt',true,nm,rfl,uX,h7,?_⟩;have tb:AL.FI kt lt' nm=decide (nm∈kt):=by
      unfold AL.FI;rw[decide_eq_false uW,Bool.or_false]
     rw[tb];by_cases O:nm∈kt
     ·rw[decide_eq_true O];refine⟨_,rfl,BE ⟨rv,_,rfl,FL,?_,?_⟩⟩
      ·rw[fl,zi];simpa[O]using Nn
      ·rw[fl,zi];simpa[O]using vr
     ·rw[decide_eq_false O];refine⟨_,rfl,Cc ?_⟩;have rd:Rd Hi a2 (.dK D):=.inr ⟨oF,by rw[FL a2 (Ne.symm XA)];exact F.at_⟩;have lr:=vr.length;rw[List.length_map]at lr;have la:(Z++(((N.zip J).take i).filter fun q=>decide (q.1∉kt)).map (·.1)).length=(ws++rv).length:=by rw[List.length_append,List.length_append,List.length_map];lia
      have mK:nm∉Z++(((N.zip J).take i).filter fun q=>decide (q.1∉kt)).map (·.1):=fun z=>by
       rcases List.mem_append.mp z with z|z
       ·refine R.ap nm ?_ (pm.mem_iff.mp z);rw[et];exact List.mem_map.mpr ⟨(nm,ty),List.mem_filter.mpr ⟨yr zi,decide_eq_true O⟩,rfl⟩
       ·obtain⟨q1,Np,eq1⟩:=List.mem_map.mp z;obtain⟨j,hj,ej⟩:=List.mem_take_iff_getElem.mp (List.mem_filter.mp Np).1;have zj:(N.zip J)[j]?=some q1:=by rw[yn (by lia),ej]
        have mj:=(List.getElem?_zip_eq_some.mp zj).1;rw[eq1]at mj;have:=Gw d2 mj Uc;lia
      have lf:(((N.zip J).take i).filter fun q=>decide (q.1∉kt)).length<=64:=Nat.le_trans (List.length_filter_le _ _) (by rw[List.length_take,List.length_zip];lia);refine⟨_,rfl,_,rfl,a2,y,rfl,.inl ⟨_,Sum.inr nm,rd,rfl,(Hb mJ hy).symm⟩,_,rfl,_,rfl,p,_,rfl,.inl ⟨_,Sum.inr nm,Nn,rfl,Aw (by rw[B_ la,List.length_append,List.length_map];lia),rfl⟩,rv++[y],_,rfl,fun b hb=>by rw[AH hb];exact FL b hb,?_,?_⟩
      ·rw[AD,JW la mK,fl,zi];simp[O]
      ·rw[fl,zi];simp only[Option.toList_some,List.filter_cons,O,not_false_eq_true,decide_true,if_true,List.filter_nil,List.map_append,List.map_cons,List.map_nil];exact vr.snoc g2
    ·rintro σ Hi ⟨rv,o7,rfl,FL,Nn,vr⟩;refine⟨by rw[FL a2 (Ne.symm XA)];exact F.at_,?_⟩;have tk:(N.zip J).take D.length=N.zip J:=List.take_of_length_le (by rw[List.length_zip];lia);rw[tk]at Nn vr;rw[<-et]at Nn vr;have lr:=vr.length;rw[List.length_map]at lr;have la:(Z++(AL.DR A0 t (some pk)).map (·.1)).length=(ws++rv).length:=by rw[List.length_append,List.length_append,List.length_map];lia
     have gu:∀b o,H0 b=none->b≠p->H3 b=some o->back a2 H3 Hi b=some o:=fun b o _ hb e=>by
      by_cases h:b=a2
      ·rw[h,Eu,<-h];exact e
      ·rw[Cy h,FL b hb,F.ne b h];exact e
     refine⟨_,rfl,q (.ref p) _ _ (fun b o e=>?_) ?_ vx⟩
     ·have hb:b≠p:=fun z=>by rw[z,np]at e;cases e
      by_cases h:b=a2
      ·rw[h,Eu,<-h];exact Y _ _ e
      ·rw[Cy h,FL b hb,F.ne b h];exact Y _ _ e
     ·refine .Ar (.inl (by rw[AY n0,Cy XA];exact Nn)) (Bn la) ?_;rw[CP la];refine(X.up (BB (fun b h=>h) fun b o h1 I=>gu b o h1 (fun z=>?_) (Y _ _ I))).append (vr.up (BB (fun b h=>l b (a.free h)) fun b o h1 I=>gu b o (l b (a.free h1)) (fun z=>?_) I))
      ·rw[z,np]at I;cases I
      ·rw[z,s2 _ _ hp]at h1;cases h1
theorem XB:AZ ["_law_script","_law_k"] ["_law_script","_law_k"] (AM Wv):={}
theorem ZC(F:Co K "_law_cell" "_law_cell" Wv f c)(T:Txt mg):Au P w K mg base CK 1 f c ["_law_script","_law_k"] (VS K):=by
 refine F.oq XB fun g A outer s H m Q E i h=>?_
 ·obtain⟨a,b,k,rfl,d,q⟩:=h;have nd:=XB.nd;have n:=BJ i;refine⟨_,(AB (Aa (AR La (pv 1) (Fv T.len (pv 0)) (AV _)) (AG (AQ (AO Aq (FF K (pv 0) (pv 1)) (AO Em AE (AO QP AE AE))))) AN) (AG (AQ (AO Bp AE (AO Em AE (pv 1)))))),?_⟩;refine⟨_,rfl,_,rfl,a,_,rfl,.inl d,_,_,rfl,rfl,_,rfl,?_⟩;refine VF (fun e=>?_) (fun e=>?_)
  ·have j:k<b.length:=by
    have:=of_decide_eq_true e;rw[List.length_map]at this;omega
   have l:(b.map V.int)[k]?=some (.int b[k]):=by rw[List.getElem?_map,yn j];rfl
   exact⟨_,rfl,_,rfl,a,_,_,_,rfl,rfl,d,Av l,_,_,rfl,rfl,⟨by decide,by decide,by decide⟩,_,_,rfl,rfl,.inl ⟨by decide,by decide⟩,_,_,rfl,rfl,(by show(0:Int)<_;decide),q _ (Int.emod_nonneg _ (by decide))⟩
  ·exact⟨_,rfl,_,_,rfl,rfl,.inl ⟨by decide,by decide⟩,_,_,rfl,rfl,q _ (by omega)⟩
theorem Zv:AZ ["_law_cell_here","_law_k","_law_number","_law_j"] ["_law_cell_here","_law_k"] (AM Yt):={}
theorem cV{n:FuncData}(F:Co K "_law_mix" "_law_mix" Yt f n)(T:Txt mg):Au P w K mg base CK 1 f n ["_law_cell_here","_law_k"] VW:=by
 refine F.oq Zv fun p A outer s H t Q E r h=>?_
 ·obtain⟨c,k,rfl,u,q⟩:=h;have nd:=Zv.nd;have v:=BJ r;refine⟨_,(AB (Aa (PW.pt (pw_and (AR BC (AO Aq (pv 0) AE) AE (AV _)) (pw_and1 (AR eU (pv 0) (AO Em AE (AO QP AE AE)) (AV _))))) (AB (Ae 2 nd (AO By (pv 0) AE)) (AB (LC (Ao rfl T.range (AX (pv 1))) (CJ 3 nd) (AG (Ae 2 nd (AO By (pv 2) AE)))) (AG (AQ (AO Aq (pv 2) AE))))) AN) (AB (Ae 2 nd (AO Aq (AO Em (AO Bp (pv 0) AE) AE) AE)) (AB (Ae 2 nd (AO Aq (AO Bp (pv 2) (AO Em (AO Bp (pv 1) AE) AE)) AE)) (AB (Ae 2 nd (AO Aq (AO Em (pv 2) (pv 2)) AE)) (AB (Ae 2 nd (AO Aq (AO Em (AO Bp (pv 2) AE) (AO Bp (AO By (pv 2) AE) AE)) AE)) (AG (AQ (AO By (pv 2) AE)))))))),?_⟩;have lo:∀x:Int,-(2 ^ 64)<x % 2305843009213693951/\x % 2305843009213693951<2 ^ 64:=fun x=>by
   have b:=Int.emod_nonneg x (show(2305843009213693951:Int)≠0 by decide);have d:=Int.emod_lt_of_pos x (show(0:Int)<2305843009213693951 by decide);constructor<;>omega
  have lo1:∀x:Int,-(2 ^ 64)<x % 999999999999999989+1/\x % 999999999999999989+1<2 ^ 64:=fun x=>by
   have b:=Int.emod_nonneg x (show(999999999999999989:Int)≠0 by decide);have d:=Int.emod_lt_of_pos x (show(0:Int)<999999999999999989 by decide);constructor<;>omega
  have o:¬(c % 4=0/\4*10 ^ 60<=c)->Q (.int ((OV c k+1)*(OV c k/1000003+7) % 2305843009213693951/7919)) H:=fun h=>by
   have e:Td c k=_:=if_neg h;rw[e]at q;exact q
  refine⟨_,rfl,_,_,rfl,rfl,(by show(0:Int)<_;decide),rfl,_,rfl,?_⟩;refine VF (fun b=>?_) (fun b=>?_)
  ·refine⟨_,rfl,_,_,rfl,rfl,⟨by decide,by decide,by decide⟩,_,_,rfl,rfl,.inl ⟨by decide,by decide⟩,_,_,rfl,rfl,_,rfl,?_⟩;have c4:c % 4=0:=V.int.inj (of_decide_eq_true b);refine VF (fun d=>?_) (fun d=>?_)
   ·have g:4*10 ^ 60<=c:=of_decide_eq_true d;have e:Td c k=_:=if_pos ⟨c4,g⟩;rw[e]at q;refine⟨_,rfl,_,_,rfl,rfl,⟨by decide,by decide⟩,?_⟩;refine⟨_,rfl,_,rfl,by omega,by omega,CU (lo:=0) (fun i j l=>∃(m:Option V),j=[some (.int c),some (.int (k:Int)),some (.int (VT i (c/4))),m]/\l=H) ⟨none,rfl,rfl⟩ ?_ ?_⟩
    ·rintro i j l y ⟨m,rfl,rfl⟩;exact⟨_,rfl,_,_,rfl,rfl,⟨by decide,by decide⟩,_,rfl,rfl⟩
    ·rintro j l ⟨m,rfl,rfl⟩;rw[Int.toNat_natCast];exact⟨_,rfl,_,_,rfl,rfl,(by show(0:Int)<_;decide),q⟩
   ·have a:¬(c % 4=0/\4*10 ^ 60<=c):=fun z=>d (decide_eq_true z.2);refine⟨_,rfl,_,_,rfl,rfl,_,_,rfl,rfl,.inr ⟨by decide,by decide⟩,_,_,rfl,rfl,(by show(0:Int)<_;decide),?_⟩;refine⟨_,rfl,_,rfl,_,_,rfl,rfl,_,_,rfl,rfl,.inr ⟨by decide,by decide⟩,_,_,rfl,rfl,_,_,rfl,rfl,(by show(0:Int)<_;decide),?_⟩;refine⟨_,rfl,_,rfl,_,_,rfl,rfl,.inl (lo _),_,_,rfl,rfl,(by show(0:Int)<_;decide),?_⟩;refine⟨_,rfl,_,_,rfl,rfl,_,rfl,_,_,rfl,rfl,⟨by decide,by decide⟩,_,_,rfl,rfl,_,_,rfl,rfl,.inl (lo1 _),_,_,rfl,rfl,(by show(0:Int)<_;decide),?_⟩;exact⟨_,rfl,_,_,rfl,rfl,⟨by decide,by decide⟩,o a⟩
  ·refine BE ?_;have a:¬(c % 4=0/\4*10 ^ 60<=c):=fun z=>b (decide_eq_true (congrArg V.int z.1));refine⟨_,rfl,_,_,rfl,rfl,_,_,rfl,rfl,.inr ⟨by decide,by decide⟩,_,_,rfl,rfl,(by show(0:Int)<_;decide),?_⟩;refine⟨_,rfl,_,rfl,_,_,rfl,rfl,_,_,rfl,rfl,.inr ⟨by decide,by decide⟩,_,_,rfl,rfl,_,_,rfl,rfl,(by show(0:Int)<_;decide),?_⟩;refine⟨_,rfl,_,rfl,_,_,rfl,rfl,.inl (lo _),_,_,rfl,rfl,(by show(0:Int)<_;decide),?_⟩;refine⟨_,rfl,_,_,rfl,rfl,_,rfl,_,_,rfl,rfl,⟨by decide,by decide⟩,_,_,rfl,rfl,_,_,rfl,rfl,.inl (lo1 _),_,_,rfl,rfl,(by show(0:Int)<_;decide),?_⟩;exact⟨_,rfl,_,_,rfl,rfl,⟨by decide,by decide⟩,o a⟩
theorem ZD(F:Co K "_law_mix" "_law_mix" Yt f a)(T:Txt mg):Au P w K mg base CK 1 f a ["_law_cell_here","_law_k"] Ea:=(cV F T).imp fun _ _ _ _ h=>VX h
theorem Sn:AZ ["_law_cell_here","_law_letters","_law_word","_law_k","_law_at","_law_first"] ["_law_cell_here"] (AM RV):={}
theorem XC(F:Co K "_law_names" "_law_names" RV f fd)(T:Txt mg)(d:Df P w K mg base "_law_mix" ["_law_cell_here","_law_k"] 1 Ea):Au P w K mg base CK 2 f fd ["_law_cell_here"] Om:=by
 refine F.oq Sn fun Jr A outer s H u Q E J h=>?_
 ·obtain⟨c,rfl,q⟩:=h;have nd:=Sn.nd;have hu:=BJ J;refine⟨_,(AB (EG (i:=1) nd rfl (Or.inr rfl) AU) (AB (EG (i:=2) nd rfl (Or.inr rfl) AU) (AB (LC (Ao rfl T.range (AX AE)) (CJ 3 nd) (AG (EG (i:=2) nd rfl (Or.inr rfl) (AO En (AO En (pv 2) (FG QT (pv 1) (AO Aq (BY d J.mm (AA (pv 0) (AX (pv 3)))) AE) (fun _ _=>rfl))) (FG QT (pv 1) (AO Aq (AO By (BY d J.mm (AA (pv 0) (AX (pv 3)))) AE) AE) (fun _ _=>rfl)))))) (AB (EG (i:=4) nd rfl (Or.inr rfl) (AO Aq (BY d J.mm (AA (pv 0) (AX AE))) AE)) (AB (EG (i:=5) nd rfl (Or.inr rfl) (BY d J.mm (AA (pv 0) (AX AE)))) (AB (Aa (AR BC (AO Aq (pv 5) AE) AE (AV _)) (AG (AQ (cmp ["_law_word","_law_first"] [2,5] (Ao rfl T.range (AX AE)) fun _ _ _ _=>(DK Mh (pv 1) Eo (DX (AO Bp (AO Bp (pv 0) AE) (AO Aq (AO By (pv 2) AE) AE))))))) AN) (AG (AQ (cmp ["_law_word","_law_letters","_law_at","_law_first"] [2,1,4,5] (Ao rfl T.range (AX AE)) fun _ _ _ _=>(AO En (AO En (DK Mh (pv 1) Eo (DX (pv 3))) (FG QT (pv 2) (AO Aq (AO Bp (AO By (pv 4) AE) (pv 0)) AE) (fun _ _=>rfl))) (DK Mh (pv 1) (DX (AO Bp (pv 3) AE)) Eo))))))))))),?_⟩;have gen:∀(u:List V),(∀(j:Nat) v,u[j]?=some v->∃y:Str,v=.str y)->∃Z:List Str,u=Z.map V.str:=by
   intro u
   induction u with
   |nil=>exact fun _=>⟨[],rfl⟩
   |cons v r ih=>
    intro h;obtain⟨y,rfl⟩:=h 0 v rfl;obtain⟨Z,rfl⟩:=ih fun j v b=>h (j+1) v (by simpa using b);exact⟨y::Z,rfl⟩
  refine⟨4,rfl,by decide,by decide,CU (lo:=0) (n:=4) (fun i σ g=>∃(W:Str)(ok:Option V),σ=[some (.int c),some (.str Zb),some (.str W),ok,none,none]/\g=H/\(sgn W).length=2*i/\(sgn W).all au=true) ⟨"",none,rfl,rfl,rfl,rfl⟩ ?_ ?_⟩
  ·rintro i σ g B ⟨W,ok,rfl,rfl,wl,L⟩;have D:W.length=2*i:=by rw[<-Jw];exact wl
   refine⟨_,rfl,_,rfl,_,rfl,_,rfl,c,i,by simp,by lia,fun l _ _=>?_⟩;obtain⟨o,k,hl⟩:=Qi (l % 26) (HJ _).1 (HJ _).2;have l1:(W++(⟨#[o]⟩:Str)).length<=8:=by rw[Str.length_append];show _+1<=8;lia
   refine⟨_,_,rfl,rfl,(by show(0:Int)<_;decide),Zb,_,o,rfl,rfl,by rw[Mk];decide,k,_,_,rfl,rfl,Nat.le_of_lt (Aw (by show W.length+1<=1000;lia)),_,rfl,_,rfl,_,rfl,c,i,by simp,by lia,fun G _ _=>?_⟩;obtain⟨M,N,UU⟩:=Qi (G/26 % 26) (HJ _).1 (HJ _).2;refine⟨_,_,rfl,rfl,⟨by decide,by decide⟩,_,_,rfl,rfl,(by show(0:Int)<_;decide),Zb,_,M,rfl,rfl,by rw[Mk];decide,N,_,_,rfl,rfl,Nat.le_of_lt (Aw (by show(W++(⟨#[o]⟩:Str)).length+1<=1000;lia)),_,_,rfl,rfl,?_,?_⟩
   ·rw[CM,CM,List.length_append,List.length_append,wl];show 2*i+1+1=2*(i+1);lia
   ·rw[CM,CM];show(sgn W++[o]++[M]).all au=true;simp[hl,UU,L]
  ·rintro σ g ⟨W,ok,rfl,rfl,x,L⟩;have x:(sgn W).length=8:=x;have D:W.length=8:=by rw[<-Jw];exact x
   refine⟨_,rfl,c,4,rfl,by decide,fun l _ _=>⟨_,_,rfl,rfl,(by show(0:Int)<_;decide),?_⟩⟩;have b1:=DL l (n:=8) (by decide);obtain⟨CD,O⟩:∃z:Nat,l % 8=(z:Int):=⟨(l % 8).toNat,by lia⟩;have b2:CD<8:=by lia
   refine⟨_,rfl,c,5,rfl,by decide,fun G r20 _=>?_⟩;refine⟨_,rfl,_,_,rfl,rfl,(by show(0:Int)<_;decide),rfl,_,rfl,?_⟩;refine VF (fun _=>?_) (fun _=>?_)
   ·have m5:=DL (G/3) (n:=5) (by decide);obtain⟨a,p⟩:∃z:Int,z=G/3 % 5:=⟨_,rfl⟩;rw[<-p]at m5;refine⟨4,rfl,by decide,by decide,Dm (n:=4) (fun i=>.int (0+(i:Int))) (fun i v=>∃y:Str,v=.str y/\Dn y=true/\((sgn y).length:Int)=(i:Int)+1+a) (by decide) (fun i S B U=>B) (fun i S v H' B U y=>⟨y.2,y.1⟩) (fun S U=>Nat.le_refl _) (fun i g R B X r=>?_) (fun D3 g u C X d3 lv ov=>?_)⟩
    ·refine⟨_,rfl,_,rfl,_,_,rfl,rfl,_,rfl,_,_,rfl,rfl,⟨by decide,by decide⟩,_,_,rfl,rfl,(by show(0:Int)<_;decide),_,_,rfl,rfl,_,rfl,W,rfl,by rw[D];decide,r _ g (AF.refl g) ⟨_,rfl,?_,?_⟩⟩
     ·rw[<-p];obtain⟨n,hn⟩:∃n:Nat,0+(i:Int)+1+a=(n:Int):=⟨(0+(i:Int)+1+a).toNat,by lia⟩;show OS (sgn (Txt.slice W none (some (0+(i:Int)+1+a))))=true;rw[hn,EX,Mi];refine OU ?_ ?_ (OT L n)
      ·rw[List.length_take,x];lia
      ·rw[List.length_take,x];lia
     ·rw[<-p];obtain⟨n,hn⟩:∃n:Nat,0+(i:Int)+1+a=(n:Int):=⟨(0+(i:Int)+1+a).toNat,by lia⟩;rw[hn,EX,Mi,List.length_take,x];lia
    ·obtain⟨I,rfl⟩:=gen u fun j v b=>let⟨y,e,_⟩:=ov j v b;⟨y,e⟩;have t:∀(j:Nat) y,I[j]?=some y->Dn y=true/\((sgn y).length:Int)=(j:Int)+1+a:=fun j y b=>by
      obtain⟨y',e,Y,h2⟩:=ov j (.str y) (by rw[List.getElem?_map,b];rfl);cases e;exact⟨Y,h2⟩
     refine q D3 I g X C ⟨d3,by rw[<-lv,List.length_map],OW (fun j y=>((sgn y).length:Int)=(j:Int)+1+a) (fun j y b=>(t j y b).2) fun i j y uY _ p1 p2=>by lia,fun y hy=>?_⟩;obtain⟨j,b,rfl⟩:=List.mem_iff_getElem.mp hy;exact(t j _ (yn b)).1
   ·obtain⟨uZ,ub⟩:∃z:Int,z=l % 8:=⟨_,rfl⟩;obtain⟨a,p⟩:∃z:Int,z=G/3:=⟨_,rfl⟩;refine⟨4,rfl,by decide,by decide,Dm (n:=4) (fun i=>.int (0+(i:Int))) (fun i v=>∃y:Str,v=.str y/\Dn y=true/\(sgn y)[CD]?=VL[((a+(i:Int)) % 26).toNat]?) (by decide) (fun i S B U=>B) (fun i S v H' B U y=>⟨y.2,y.1⟩) (fun S U=>Nat.le_refl _) (fun i g R B X r=>?_) (fun D3 g u C X d3 lv ov=>?_)⟩
    ·obtain⟨o,k,hl⟩:=Qi ((G/3+(0+(i:Int))) % 26) (HJ _).1 (HJ _).2;have l1:(Txt.slice W none (some (l % 8))).length<=8:=by rw[<-D];exact Txt.slice_le W _ _
     have l2:(Txt.slice W (some (l % 8+1)) none).length<=8:=by rw[<-D];exact Txt.slice_le W _ _
     have l3:(Txt.slice W none (some (l % 8))++(⟨#[o]⟩:Str)).length<=9:=by rw[Str.length_append];show _+1<=9;lia
     refine⟨_,rfl,_,rfl,_,rfl,W,rfl,by rw[D];decide,_,rfl,_,rfl,_,_,rfl,rfl,⟨by decide,by decide⟩,_,rfl,_,_,rfl,rfl,_,_,rfl,rfl,(by show(0:Int)<_;decide),Zb,_,o,rfl,rfl,by rw[Mk];decide,k,_,_,rfl,rfl,?_,_,rfl,_,rfl,_,_,rfl,rfl,_,rfl,W,rfl,by rw[D];decide,_,_,rfl,rfl,?_,r _ g (AF.refl g) ⟨_,rfl,?_,?_⟩⟩
     ·exact Nat.le_of_lt (Aw (by show(Txt.slice W none (some (l % 8))).length+1<=1000;lia))
     ·exact Nat.le_of_lt (Aw (by lia))
     ·show OS (sgn (Txt.slice W none (some (l % 8))++⟨#[o]⟩++Txt.slice W (some (l % 8+1)) none))=true;have e1:(CD:Int)+1=((CD+1:Nat):Int):=by lia
      rw[CM,CM,EX,EX,O,e1,Mi,VM];have ec:sgn ⟨#[o]⟩=[o]:=rfl;rw[ec];refine OU ?_ ?_ ?_
      ·simp only[List.length_append,List.length_take,List.length_drop,x,List.length_singleton];lia
      ·simp only[List.length_append,List.length_take,List.length_drop,x,List.length_singleton];lia
      ·rw[List.all_append,List.all_append,OT L,VN L];simp[hl]
     ·rw[CM,CM,EX,O,Mi];have ec:sgn ⟨#[o]⟩=[o]:=rfl;rw[ec];have lt:((sgn W).take CD).length=CD:=by rw[List.length_take,x];lia
      rw[List.getElem?_append_left (by rw[List.length_append,lt,List.length_singleton];lia),List.getElem?_append_right (by rw[lt];exact Nat.le_refl _),lt,Nat.sub_self];rw[<-p]at k;have hb:=HJ (a+(0+(i:Int)));obtain⟨m,hm⟩:∃m:Nat,(a+(0+(i:Int))) % 26=(m:Int):=⟨((a+(0+(i:Int))) % 26).toNat,by lia⟩;have hz:(a+(i:Int)) % 26=(m:Int):=by rw[<-hm,Int.zero_add]
      rw[hz,Int.toNat_natCast];rw[hm]at k;obtain⟨j',g1,g2,g3,_⟩:=JQ k;have:j'=m:=by
       have ue:m<(sgn Zb).length:=by show m<VL.length;rw[Ml];lia
       have q1:QE (sgn Zb).length (m:Int)=some m:=by
        unfold QE;rw[if_pos (by lia),if_pos (by lia),Int.toNat_natCast]
       have:=(Fy q1).1;rw[this]at g1;exact(yq g1).symm
      rw[this]at g2;exact g2.symm
    ·obtain⟨I,rfl⟩:=gen u fun j v b=>let⟨y,e,_⟩:=ov j v b;⟨y,e⟩;have t:∀(j:Nat) y,I[j]?=some y->Dn y=true/\(sgn y)[CD]?=VL[((a+(j:Int)) % 26).toNat]?:=fun j y b=>by
      obtain⟨y',e,Y,h2⟩:=ov j (.str y) (by rw[List.getElem?_map,b];rfl);cases e;exact⟨Y,h2⟩
     have l4:I.length=4:=by rw[<-lv,List.length_map]
     refine q D3 I g X C ⟨d3,l4,OW (fun j y=>(sgn y)[CD]?=VL[((a+(j:Int)) % 26).toNat]?) (fun j y b=>(t j y b).2) fun i j y uY b p1 p2=>?_,fun y hy=>?_⟩
     ·rw[p1]at p2;have nl:VL.Nodup:=by decide+kernel
      have hb:=(HJ (a+(i:Int)));have yF:=(HJ (a+(j:Int)));have Y:((a+(i:Int)) % 26).toNat<VL.length:=by rw[Ml];lia
      have:=(List.getElem?_inj Y nl).mp p2;lia
     ·obtain⟨j,b,rfl⟩:=List.mem_iff_getElem.mp hy;exact(t j _ (yn b)).1
theorem Zw:AZ ["_law_cell_here","_law_k","_law_names_here","_law_number","_law_small","_law_some"] ["_law_cell_here","_law_k","_law_names_here"] (AM cF):={}
theorem cW(F:Co K "_law_doc" "_law_doc" cF f fd)(T:Txt mg)(S:Df P w K mg base "_law_mix" ["_law_cell_here","_law_k"] 1 Ea):Au P w K mg base CK 2 f fd ["_law_cell_here","_law_k","_law_names_here"] Ga:=by
 refine F.oq Zw fun Jr A outer s H vs Q E hr h=>?_
 ·obtain⟨c,k,n,ys,rfl,hk,m,q⟩:=h;have nd:=Zw.nd;have hu:=BJ hr;refine⟨_,(AB (Ae 3 nd (BY S hr.mm (AA (pv 0) (AX (pv 1))))) (AB (Ae 4 nd (AO Aq (AO By (pv 3) AE) AE)) (AB (Ae 5 nd (BD (AA (AO GW (pv 4) AE) (AA (DK Mh AU (DX (pv 4)) Eo) (AA (BD CH) (AA G' (AA (AO Bp (AO QP AE AE) (pv 3)) (AA (BD (AX (pv 4))) (AA (BD (AA (BD CH) (AX AU))) (AX (Me (HG (FF K (pv 2) (AO Aq (pv 4) AE)) AE Mc) rfl rfl (by simp) (by simp)))))))))))) (AB (Ae 5 nd (AO Jn (pv 5) (BD (AA (Me (HG (FF K (pv 2) AE) (BD CH) (HG (FF K (pv 2) AE) AU Mc)) rfl rfl (by simp) (by simp)) (AA (pv 4) (AA AU (AX (BD (AA (pv 4) (AX G')))))))))) (AG (AQ (FF K (pv 5) (AO Aq (pv 3) AE)))))))),?_⟩;have get:∀j:Nat,j<4->∃y,Lh (ys.map V.str) (j:Int)=some (.str y)/\ys[j]?=some y/\Dn y=true:=fun j hj=>⟨ys[j]'(by rw[m.len];exact hj),Av (by rw[List.getElem?_map,yn (by rw[m.len];exact hj)];rfl),yn (by rw[m.len];exact hj),m.nb _ (List.getElem_mem _)⟩;obtain⟨d,a0,g0,b0⟩:=get 0 (by decide);obtain⟨g,a1,g1,b1⟩:=get 1 (by decide);have U:g≠d:=fun z=>by
   rw[z,<-g0]at g1;have:=(List.getElem?_inj (by rw[m.len];decide) m.nd).mp g1;lia
  refine⟨_,rfl,_,rfl,c,k,rfl,hk,fun r _ _=>?_⟩;refine⟨_,rfl,_,_,rfl,rfl,⟨by decide,by decide⟩,_,_,rfl,rfl,(by show(0:Int)<_;decide),?_⟩;have m5:=DL (r/12) (n:=5) (by decide);obtain⟨e,he⟩:∃e:Nat,r/12 % 5=(e:Int):=⟨(r/12 % 5).toNat,by lia⟩;have e5:e<5:=by lia
  rw[he];obtain⟨x,hx⟩:∃x,x=Txt.slice "abcde" (some (e:Int)) none:=⟨_,rfl⟩;have lx:x.length<=100:=by
   have:=Txt.slice_le "abcde" (some (e:Int)) none;rw[<-hx]at this;exact Nat.le_trans this (by decide)
  obtain⟨C,az,gz,bz⟩:∃y,Lh (ys.map V.str) ((e:Int) % 4)=some (.str y)/\True/\Dn y=true:=by
   obtain⟨y,X,_,Y⟩:=get (e % 4) (Nat.mod_lt _ (by decide));exact⟨y,by rw[<-X];rfl,trivial,Y⟩
  refine⟨_,rfl,_,_,rfl,rfl,_,rfl,_,rfl,"abcde",rfl,by decide,?_⟩;rw[<-hx];refine⟨Nat.zero_le _,fun p1 Z=>?_⟩;obtain⟨H2,a,t1,f1⟩:=DA (o:=.lst []) Z;rw[a];clear a;refine fun p2 Yx=>?_;obtain⟨H3,a,t2,f2⟩:=DA (o:=.dK []) Yx;rw[a];clear a;have t12:=t1.trans t2;refine⟨_,_,rfl,rfl,⟨by decide,by decide,by decide⟩,_,rfl,_,_,rfl,rfl,?_⟩;obtain⟨gr,ug⟩:∃gr:Int,gr=(10:Int) ^ (30:Int).toNat+r:=⟨_,rfl⟩;rw[<-ug];refine⟨_,rfl,BG,fun p3 jB=>?_⟩;obtain⟨H4,a,t3,f3⟩:=DA (o:=.lst [.int (e:Int)]) jB;rw[a];clear a;have t13:=t12.trans t3;refine⟨Nat.zero_le _,fun p4 iq=>?_⟩;obtain⟨H5,a,t4,f4⟩:=DA (o:=.lst []) iq;rw[a];clear a;have t14:=t13.trans t4;refine⟨Ac,fun p5 QG=>?_⟩;obtain⟨H6,a,t5,f5⟩:=DA (o:=.lst [.ref p4,.str "b"]) QG;rw[a];clear a;have D:=t14.trans t5;refine fun l G=>?_;have t6:=AF.new (o:=.dK []) G;refine⟨_,rfl,_,rfl,_,_,rfl,rfl,(by show(0:Int)<_;decide),n,_,_,_,rfl,rfl,As.of ((D.trans t6) _ _ m.at_),az,AD,[(Sum.inr C,.int 1)],rfl,by simp,?_⟩;have m6:CY [] [((Sum.inr C:Key),V.int 1)]=[(Sum.inr C,.int 1)]:=rfl;rw[m6];have I:AF H6 (upd (upd H6 l (.dK [])) l (.dK [(Sum.inr C,.int 1)])):=t6.put G;have f6:upd (upd H6 l (.dK [])) l (.dK [(Sum.inr C,.int 1)]) l=some (.dK [(Sum.inr C,.int 1)]):=AD;generalize upd (upd H6 l (.dK [])) l (.dK [(Sum.inr C,.int 1)])=H7 at I f6⊢;have t16:=D.trans I;refine⟨An (show 8<=1000 by decide),fun L hL=>?_⟩;obtain⟨H8,a,tL,fL⟩:=DA (o:=.lst [.int ((e:Int)-2),.str x,.ref p1,.ref p2,.int gr,.ref p3,.ref p5,.ref l]) hL;rw[a];clear a;have i:=t16.trans tL;refine⟨_,rfl,fun u J=>?_⟩;obtain⟨HA,a,t9,f9⟩:=DA (o:=.dK []) J;rw[a];clear a;refine⟨_,rfl,n,_,_,_,rfl,rfl,As.of ((i.trans t9) _ _ m.at_),a1,Nat.zero_le _,fun b O=>?_⟩;have tA:=AF.new (o:=.lst []) O;have fA:upd HA b (.lst []) b=some (.lst []):=AD;refine⟨_,rfl,n,_,_,_,rfl,rfl,As.of (((i.trans t9).trans tA) _ _ m.at_),a0,tA _ _ f9,[(Sum.inr g,.ref b),(Sum.inr d,.str "a")],rfl,by simp,?_⟩;have m9:CY [] [((Sum.inr g:Key),V.ref b),(Sum.inr d,.str "a")]=[(Sum.inr g,.ref b),(Sum.inr d,.str "a")]:=Ew _ _ (by
   have:(Sum.inr g:Key)≠Sum.inr d:=fun z=>U (Sum.inr.inj z);simpa using this)
  rw[m9];have uh:b≠u:=Ne.symm (Aj f9 O);have B:AF H8 (upd (upd HA b (.lst [])) u (.dK [(Sum.inr g,.ref b),(Sum.inr d,.str "a")])):=(t9.trans tA).put J;have pK:upd (upd HA b (.lst [])) u (.dK [(Sum.inr g,.ref b),(Sum.inr d,.str "a")]) u=some (.dK [(Sum.inr g,.ref b),(Sum.inr d,.str "a")]):=AD;have pM:upd (upd HA b (.lst [])) u (.dK [(Sum.inr g,.ref b),(Sum.inr d,.str "a")]) b=some (.lst []):=by rw[AH uh];exact fA
  have ui:H b=none:=i.free (t9.free O);generalize upd (upd HA b (.lst [])) u (.dK [(Sum.inr g,.ref b),(Sum.inr d,.str "a")])=HB at B pK pM⊢;have t19:=i.trans B;refine⟨_,rfl,_,rfl,fun pB pN=>?_⟩;obtain⟨HC,a,tB,fB⟩:=DA (o:=.dK []) pN;rw[a];clear a;have pO:=t19.trans tB;refine⟨Ac,fun pC pP=>?_⟩;obtain⟨HD,a,tC,fC⟩:=DA (o:=.lst [.int (e:Int),.ref pB]) pP;rw[a];clear a;have uj:=pO.trans tC;refine⟨An (show 4<=1000 by decide),fun M hM=>?_⟩;obtain⟨HE,a,tM,fM⟩:=DA (o:=.lst [.ref u,.int (e:Int),.str "",.ref pC]) hM;rw[a];clear a;have uk:=uj.trans tM;refine⟨L,M,_,_,rfl,rfl,(((B.trans tB).trans tC).trans tM) _ _ fL,fM,An (show 12<=1000 by decide),fun N hN=>?_⟩;obtain⟨HF,a,tN,fN⟩:=DA (o:=.lst ([.int ((e:Int)-2),.str x,.ref p1,.ref p2,.int gr,.ref p3,.ref p5,.ref l]++[.ref u,.int (e:Int),.str "",.ref pC])) hN;rw[a];clear a;have mb:=DL r (n:=12) (by decide);obtain⟨v,hv,mv⟩:=Dp (xs:=([V.int ((e:Int)-2),.str x,.ref p1,.ref p2,.int gr,.ref p3,.ref p5,.ref l]++[V.ref u,.int (e:Int),.str "",.ref pC]:List V)) mb.1 (by exact mb.2);refine⟨_,rfl,_,rfl,_,_,rfl,rfl,(by show(0:Int)<_;decide),N,_,_,_,rfl,rfl,As.of fN,hv,?_⟩;have z:=uk.trans tN;have sC:=tM.trans tN;have sB:=tC.trans sC;have s9:=tB.trans sB;have sL:=B.trans s9;have s6:=tL.trans sL;have s5:=I.trans s6;have s4:=t5.trans s5;have s3:=t4.trans s4;have s2:=t3.trans s3;have s1:=t2.trans s2;have new:∀{p:Addr}{o:HO},H p=none->HF p=some o->nw H HF p=some o:=fun X Y=>by rw[AY X];exact Y
  have v1:=new Z (s1 _ _ f1);have v2:=new (t1.free Yx) (s2 _ _ f2);have v3:=new (t12.free jB) (s3 _ _ f3);have v4:=new (t13.free iq) (s4 _ _ f4);have v5:=new (t14.free QG) (s5 _ _ f5);have v6:=new (D.free G) (s6 _ _ f6);have v9:=new (i.free J) (s9 _ _ pK);have vA:=new ui (s9 _ _ pM);have vB:=new (t19.free pN) (sB _ _ fB);have vC:=new (pO.free pP) (sC _ _ fC);have k:∀t:Pt,Small H HF v t->Q v HF:=fun t h=>q v t HF z h;simp only[List.cons_append,List.nil_append,List.mem_cons,List.not_mem_nil,or_false]at mv;have one:∀{P:Pt->Prop}{x:Pt},P x->∀y∈[x],P y:=fun h y hy=>by rw[List.mem_singleton.mp hy];exact h
  have R:∀{P:Pt->Prop}{x y:Pt},P x->P y->∀z∈[x,y],P z:=fun X Y z hz=>by
   rcases List.mem_cons.mp hz with rfl|hz
   ·exact X
   ·rw[List.mem_singleton.mp hz];exact Y
  rcases mv with rfl|rfl|rfl|rfl|rfl|rfl|rfl|rfl|rfl|rfl|rfl|rfl
  ·exact k _ ⟨.int _,.one (.int _),trivial,by simp[Pt.size],by simp[Pt.deep]⟩
  ·exact k _ ⟨.str _,.one (.str _),lx,by simp[Pt.size],by simp[Pt.deep]⟩
  ·exact k _ ⟨.lst (.inl v1) .nil,.one .nil,trivial,by simp[Pt.size,Pt.AI],by simp[Pt.deep,Pt.AJ]⟩
  ·exact k _ ⟨.Ar (ks:=[]) (.inl v2) rfl .nil,.one .emp,by simp[Pt.doc,Pt.Cj],by simp[Pt.size,Pt.AI],by simp[Pt.deep,Pt.AJ]⟩
  ·exact k _ ⟨.int _,.one (.int _),trivial,by simp[Pt.size],by simp[Pt.deep]⟩
  ·exact k _ ⟨.lst (.inl v3) (.cons (.int _) .nil),.row (one (.int _)),by simp[Pt.doc,Pt.Cj],by simp[Pt.size,Pt.AI],by simp[Pt.deep,Pt.AJ]⟩
  ·exact k _ ⟨.lst (.inl v5) (.cons (.lst (.inl v4) .nil) (.cons (.str _) .nil)),.row (R .nil (.str _)),by simp only[Pt.doc,Pt.Cj,and_true,true_and];decide,by simp[Pt.size,Pt.AI],by simp[Pt.deep,Pt.AJ]⟩
  ·exact k _ ⟨.Ar (ks:=[C]) (.inl v6) rfl (.cons (.int _) .nil),.tab (one (.int _)),by simp[Pt.doc,Pt.Cj,bz],by simp[Pt.size,Pt.AI],by simp[Pt.deep,Pt.AJ]⟩
  ·exact k _ ⟨.Ar (ks:=[g,d]) (.inl v9) rfl (.cons (.lst (.inl vA) .nil) (.cons (.str _) .nil)),.tab (R .nil (.str _)),by
    simp only[Pt.doc,Pt.Cj,and_true,true_and];refine⟨rfl,by simpa using U,?_,by simp,by decide⟩;intro k hk;simp only[List.mem_cons,List.not_mem_nil,or_false]at hk;rcases hk with rfl|rfl
    ·exact b1
    ·exact b0,by simp[Pt.size,Pt.AI],by simp[Pt.deep,Pt.AJ]⟩
  ·exact k _ ⟨.int _,.one (.int _),trivial,by simp[Pt.size],by simp[Pt.deep]⟩
  ·exact k _ ⟨.str _,.one (.str _),by simp only[Pt.doc];decide,by simp[Pt.size],by simp[Pt.deep]⟩
  ·exact k _ ⟨.lst (.inl vC) (.cons (.int _) (.cons (.Ar (ks:=[]) (.inl vB) rfl .nil) .nil)),.row (R (.int _) .emp),by simp[Pt.doc,Pt.Cj],by simp[Pt.size,Pt.AI],by simp[Pt.deep,Pt.AJ]⟩
theorem XD:AZ ["_law_thing"] ["_law_thing"] (AM Sf):={}
theorem ZE(F:Co K "_law_copy" "_law_copy" Sf f fd)(T:Txt mg)(m:Df P w K mg base "_law_copy" ["_law_thing"] n (GG n)):Au P w K mg base CK (n+1) f fd ["_law_thing"] (GG (n+1)):=by
 refine F.oq XD fun Jr A outer s H V Q E hr h=>?_
 ·obtain⟨v,t,rfl,hv,M,S,q⟩:=h;have nd:=XD.nd;have J:=BJ hr;refine⟨_,(AB (Aa (BV (Am (Bl:Bh _ _ (Ed K)) rfl T.isinstance Af (AA (pv 0) (AX (BU (v:=.ty "list") rfl T.list DG rfl))))) (AG (AQ (cmp [] [] (CT (pv 0)) fun _ _ _ _=>(BY m hr.mm (AX (pv 0)))))) AN) (AB (Aa (BV (Am (Bl:Bh _ _ (Ed K)) rfl T.isinstance Af (AA (pv 0) (AX (BU (v:=.ty "tuple") rfl T.tuple Mj rfl))))) (AG (AQ (A' LL rfl T.tuple Mj (AX (cmp [] [] (Jj (pv 0)) fun _ _ _ _=>(BY m hr.mm (AX (pv 0)))))))) AN) (AB (Aa (BV (Am (Bl:Bh _ _ (Ed K)) rfl T.isinstance Af (AA (pv 0) (AX (BU (v:=.ty "dict") rfl T.dict CZ rfl))))) (AG (AQ (A' (CB rfl) rfl T.dict CZ (AX (Mo (cmp ["_law_thing"] [0] (F' (pv 0)) fun _ _ _ _=>(Ad (AA (pv 0) (AX (BY m hr.mm (AX (LY J (pv 1) (pv 0))))))))))))) AN) (AG (AQ (pv 0)))))),?_⟩;cases hv with
  |int i=>exact⟨_,rfl,_,"list","int",rfl,rfl,.n (.int i),_,rfl,BE ⟨_,rfl,_,"tuple","int",rfl,rfl,.n (.int i),_,rfl,BE ⟨_,rfl,_,"dict","int",rfl,rfl,.n (.int i),_,rfl,BE ⟨_,rfl,q _ H (AF.refl H) (.int i)⟩⟩⟩⟩
  |str i=>exact⟨_,rfl,_,"list","str",rfl,rfl,.n (.str i),_,rfl,BE ⟨_,rfl,_,"tuple","str",rfl,rfl,.n (.str i),_,rfl,BE ⟨_,rfl,_,"dict","str",rfl,rfl,.n (.str i),_,rfl,BE ⟨_,rfl,q _ H (AF.refl H) (.str i)⟩⟩⟩⟩
  |bl i=>exact⟨_,rfl,_,"list","bool",rfl,rfl,.n (.bl i),_,rfl,BE ⟨_,rfl,_,"tuple","bool",rfl,rfl,.n (.bl i),_,rfl,BE ⟨_,rfl,_,"dict","bool",rfl,rfl,.n (.bl i),_,rfl,BE ⟨_,rfl,q _ H (AF.refl H) (.bl i)⟩⟩⟩⟩
  |Ah=>exact⟨_,rfl,_,"list","NoneType",rfl,rfl,.n .Ah,_,rfl,BE ⟨_,rfl,_,"tuple","NoneType",rfl,rfl,.n .Ah,_,rfl,BE ⟨_,rfl,_,"dict","NoneType",rfl,rfl,.n .Ah,_,rfl,BE ⟨_,rfl,q _ H (AF.refl H) .Ah⟩⟩⟩⟩
  |@lst a V B h r=>
   refine⟨_,rfl,_,"list","list",rfl,rfl,.n (.lst h),_,rfl,Cc ?_⟩;simp only[Pt.nice]at M;simp only[Pt.deep]at S;have lv:=r.length;refine⟨_,rfl,a,rfl,⟨_,.inl h⟩,?_⟩;refine DP none B.length (fun i=>V.getD i .Ah) (fun i g d=>g=B.take i) (by lia) (fun D C=>rfl) (fun i g d D G s C c=>c) (fun l z=>nomatch z) (fun i g d I s c=>⟨_,_,.inl (h.up (s.same _)),yn (by lia)⟩) (fun i g d v H' I s c y=>?_) (fun g d s c=>⟨_,.inl (h.up (s.same _)),by lia⟩) (fun i g d R I s c Y k=>?_) (fun D d G g C s Z Y X c=>?_)
   ·obtain⟨e,y⟩:=y;refine⟨?_,e⟩;have:=y _ (.inl (h.up (s.same _)));rw[List.getD_eq_getElem?_getD,this];rfl
   ·obtain⟨u,J⟩:∃u,B[i]?=some u:=⟨_,yn I⟩;obtain⟨x,hx,vx⟩:=r.get' J;have N:=yr J;have dx:=Pt.Ap N;have ev:V.getD i .Ah=x:=by rw[List.getD_eq_getElem?_getD,hx];rfl
    rw[ev];refine⟨_,rfl,x,u,rfl,vx.up s.same,Pt.GF M.2 u N,by lia,fun w H3 s3 v3=>k w u H3 (.of s3) v3 ?_⟩;rw[c,List.take_add_one,J];rfl
   ·rw[List.take_length]at c;subst c;exact q _ d s.same (.lst (.inl (by rw[AY C];exact Z)) X)
  |@tup a V B h r=>
   refine⟨_,rfl,_,"list","tuple",rfl,rfl,.t h,_,rfl,BE ⟨_,rfl,_,"tuple","tuple",rfl,rfl,.t h,_,rfl,Cc ?_⟩⟩;simp only[Pt.nice]at M;simp only[Pt.deep]at S;have lv:=r.length;refine⟨_,rfl,a,rfl,⟨_,h⟩,?_⟩;refine DP none B.length (fun i=>V.getD i .Ah) (fun i g d=>g=B.take i) (by lia) (fun D C=>rfl) (fun i g d D G s C c=>c) (fun l z=>nomatch z) (fun i g d I s c=>⟨_,_,h.up s.same,yn (by lia)⟩) (fun i g d v H' I s c y=>?_) (fun g d s c=>⟨_,h.up s.same,by lia⟩) (fun i g d R I s c Y k=>?_) (fun D d G g C s Z Y X c=>?_)
   ·obtain⟨e,y⟩:=y;refine⟨?_,e⟩;have:=y _ (h.up s.same);rw[List.getD_eq_getElem?_getD,this];rfl
   ·obtain⟨u,J⟩:∃u,B[i]?=some u:=⟨_,yn I⟩;obtain⟨x,hx,vx⟩:=r.get' J;have N:=yr J;have dx:=Pt.Ap N;have ev:V.getD i .Ah=x:=by rw[List.getD_eq_getElem?_getD,hx];rfl
    rw[ev];refine⟨_,rfl,x,u,rfl,vx.up s.same,Pt.GF M.2 u N,by lia,fun w H3 s3 v3=>k w u H3 (.of s3) v3 ?_⟩;rw[c,List.take_add_one,J];rfl
   ·rw[List.take_length]at c;subst c;refine⟨D,G,rfl,.inl ⟨As.of Z,fun p O=>?_⟩⟩;have Yv:=s.same.free O;exact q _ _ (s.same.trans (AF.new O)) (.tup (Bg.of (by rw[AY Yv,AD])) (X.up (BB (fun b h=>h) fun b e h1 L=>by rw[AH (fun z=>by rw[z,O]at L;cases L)];exact L)))
  |@Ar a kvs U B h hk r=>
   refine⟨_,rfl,_,"list","dict",rfl,rfl,.n (.dK h),_,rfl,BE ⟨_,rfl,_,"tuple","dict",rfl,rfl,.n (.dK h),_,rfl,BE ⟨_,rfl,_,"dict","dict",rfl,rfl,.n (.dK h),_,rfl,Cc ?_⟩⟩⟩;simp only[Pt.nice]at M;simp only[Pt.deep]at S;obtain⟨nl,Zt,n9,M⟩:=M;have kl:kvs.length=U.length:=by have:=congrArg List.length hk;simpa using this
   refine⟨a,_,h,fun o Hf F=>⟨_,rfl,a,o,_,rfl,F.at_,?_⟩⟩;refine Lw none B.length (fun i=>.str (U.getD i "")) U (fun i g d=>g=B.take i) (by lia) (fun D C=>rfl) (fun i g d D G s C c=>c) (fun l z=>nomatch z) (fun i g d I s c=>⟨s.same _ _ F.at_,by lia⟩) (fun i g d v H' I s c y=>?_) (fun g d s c=>⟨s.same _ _ F.at_,by lia⟩) (fun i g d R I s c Y k=>?_) (fun D d qs G g C s Z lq Y tt X c=>?_)
   ·obtain⟨e,k,w',e1,e2⟩:=y;rw[(Qp hk e1).2]at e2;exact⟨e2,e⟩
   ·obtain⟨x,u,g1,g2,g3⟩:=Mx hk r Zt (i:=i) (by lia);have N:=yr g2;have dx:=Pt.Ap N;have mL:FH H d:=F.rd.trans s.same.r;refine⟨_,rfl,_,rfl,_,rfl,a,x,rfl,.inl ⟨kvs,Sum.inr (U.getD i ""),mL a _ h,rfl,g1.symm⟩,x,u,rfl,g3.Lr ((GB.Ba F).trans (.of s.same)),Pt.GF M u N,by lia,fun w H3 s3 v3=>⟨Ac,fun t ht=>k w u H3 t (.of s3) v3 ?_ ht⟩⟩;rw[c,List.take_add_one,g2];rfl
   ·refine⟨s.same _ _ F.at_,?_⟩;rw[List.take_length]at c;subst c;have sb:=F.back s.same;have ba:∀b,b≠a->back a H d b=d b:=fun b hb=>Cy hb;have Da:D≠a:=(F.free C).2;have lw:=X.length;have el:U.length=G.length:=by lia
    refine⟨D,qs,Cb U G,rfl,As.of (by rw[ba D Da];exact Z),by rw[B_ el];lia,fun j k v e=>?_,by rw[B_ el];lia,fun p O=>?_⟩
    ·obtain⟨x,h1,L,h3⟩:=HQ e;obtain⟨t,ht⟩:∃t,qs[j]?=some t:=⟨_,yn (by have:=(yo h1).1;lia)⟩;obtain⟨g2,g3⟩:=tt j t v ht L;refine⟨t,ht,?_⟩;rw[ba t (F.free g3).2,g2,h3,List.getD_eq_getElem?_getD,h1];rfl
    ·rw[Di el Zt];have gx:H p=none:=sb.free O;have Yw:AS (nw H (upd (back a H d) p (.dK (Cb U G)))) G g:=X.up (BB (fun b h=>(F.free h).1) fun b e h1 L=>by
      have hb:=(F.free h1).2;have nb:b≠p:=fun z=>by rw[z]at L hb;rw[ba p hb,L]at O;cases O
      rw[AH nb,ba b hb];exact L)
     exact q _ _ (sb.trans (AF.new O)) (.Ar (.inl (by rw[AY gx,AD])) (Bn el) (by rw[CP el];exact Yw))
theorem K'{f:Addr}{a:FuncData}(F:Co K "_law_copy" "_law_copy" Sf f a)(T:Txt mg)(b:Binds K a ["_law_thing"] [])(m:mg "_law_copy"=some (.ref f)):∀n:Nat,Au P w K mg base CK n f a ["_law_thing"] (GG n)
 |0=>Iq (fun vs H Q E h=>by obtain⟨v,t,_,_,_,c,_⟩:=h;have:=Pt.Oi t;omega)
 |n+1=>ZE F T (Df.mk' F b m (K' F T b m n))
theorem XE:AZ ["_law_thing","_law_name","_law_one"] ["_law_thing"] (AM Sg):={}
theorem ZF(F:Co K "_law_ruin" "_law_ruin" Sg f fd)(T:Txt mg)(y:Df P w K mg base "_law_ruin" ["_law_thing"] n (JZ n)):Au P w K mg base CK (n+1) f fd ["_law_thing"] (JZ (n+1)):=by
 refine F.oq XE fun Jr A outer s H I Q E hr h=>?_
 ·obtain⟨G,v,t,c,rfl,kf,J,X,Y,hz,hw,q⟩:=h;have nd:=XE.nd;have l:=BJ hr;refine⟨_,(AB (Aa (BV (Am (Bl:Bh _ _ (Ed K)) rfl T.isinstance Af (AA (pv 0) (AX (BU (v:=.ty "dict") rfl T.dict CZ rfl))))) (AB (Mp (LC (F' (pv 0)) (CJ 1 nd) (AG (Cf (BY y hr.mm (AX (LY l (pv 0) (pv 1)))))))) (AG (D' l (pv 0) AU AE rfl))) AN) (AB (Aa (BV (Am (Qo:Bh _ _ (Vm K)) rfl T.isinstance Af (AA (pv 0) (AX (Ad (AA (BU (v:=.ty "list") rfl T.list DG rfl) (AX (BU (v:=.ty "tuple") rfl T.tuple Mj rfl)))))))) (AG (Va (LC (CT (pv 0)) (CJ 2 nd) (AG (Cf (BY y hr.mm (AX (pv 2)))))) (LC (Jj (pv 0)) (CJ 2 nd) (AG (Cf (BY y hr.mm (AX (pv 2)))))))) AN) (AG (Aa (BV (Am (Bl:Bh _ _ (Ed K)) rfl T.isinstance Af (AA (pv 0) (AX (BU (v:=.ty "list") rfl T.list DG rfl))))) (AG (Cf (FW PySem.F.plainAttrs_list PySem.F.slot_list_append PySem.F.type_list_append ES (pv 0) (AX AE)))) AN)))),?_⟩;rcases J.kinds with⟨T,ty,k1,k2,k3,k4⟩|⟨a,I,d,rfl,rfl,O,S⟩|⟨a,I,d,rfl,rfl,O,S⟩|⟨a,kvs,ks,d,rfl,rfl,O,hk,S⟩
  ·refine⟨_,rfl,_,"dict",T,rfl,rfl,ty _,_,rfl,BF k1 ?_⟩;refine⟨_,rfl,Ac,fun p Z=>⟨_,p,T,rfl,AD,ty _,_,rfl,BF k2 ?_⟩⟩;refine⟨_,rfl,_,"list",T,rfl,rfl,ty _,_,rfl,BF k3 ?_⟩;have m:=AF.new (o:=.tup [V.ty "list",V.ty "tuple"]) Z;exact q _ ((hw.up m).mono (Nat.le_refl _) (by lia)) (.of m)
  ·simp only[Pt.NA]at X;simp only[Pt.FO]at Y;simp only[Pt.size]at hz;simp only[Pt.JK]at q;have la:=S.length;have lt:d.length<=Pt.AI d:=Pt.Cr d;have hh:(Pt.lst d).FO=1+Pt.Fj d:=by simp only[Pt.FO]
   obtain⟨u',ea,wo⟩:=hw a (.lst I) _ trivial O J (Nat.le_refl _);cases wo with
   |lst _ k hk=>
    obtain⟨us,ru,wt⟩:=Wt.lst S k;have lu:=ru.length;refine⟨_,rfl,_,"dict","list",rfl,rfl,.n (.lst (.inl ea)),_,rfl,BF rfl ?_⟩;refine⟨_,rfl,Ac,fun p Z=>?_⟩;have m:=AF.new (o:=.tup [V.ty "list",V.ty "tuple"]) Z;have e1:=m _ _ ea;have w1:=hw.up m;refine⟨_,p,"list",rfl,AD,.n (.lst (.inl e1)),_,rfl,Cv rfl ?_⟩;generalize upd H p (.tup [V.ty "list",V.ty "tuple"])=H1 at m e1 w1⊢;refine .inl ⟨_,rfl,a,rfl,⟨_,As.of e1⟩,Dl (K:=K) (xs:=I++List.replicate k (.int 77)) (fun i D g=>∃(L M:Option V),D=[some (.ref a),L,M]/\Wn G (Pt.lst d).FO (c+Pt.BI (us.take i)) g/\IW G (Pt.Fj d) H1 g)
     ⟨none,none,rfl,w1,.refl⟩ (fun i D g _ ⟨_,_,_,_,f⟩=>As.of (f.at_ kf J (by lia) e1)) ?_ ?_⟩
    ·rintro i x D g hx ⟨L,M,rfl,B,C⟩;obtain⟨u,l,vu⟩:=ru.get hx;have z1:=wt.size l;have z2:=wt.FO l;refine⟨_,rfl,G,x,u,c+Pt.BI (us.take i),rfl,kf,vu,wt.NA X l,by lia,by lia,B.mono (by lia) (Nat.le_refl _),fun H2 U N=>?_⟩;refine⟨_,_,rfl,?_,C.trans (N.mono z2)⟩;rw[Pt.Gh l,<-Nat.add_assoc];exact B.next kf U N (by lia)
    ·rintro D g ⟨L,M,rfl,B,C⟩;have z3:=wt.take (I++List.replicate k (V.int 77)).length;have z4:=Pt.Dv d (I++List.replicate k (V.int 77)).length;have ei:=C.at_ kf J (by lia) e1;refine⟨_,rfl,_,"list","list",rfl,rfl,.n (.lst (.inl ei)),_,rfl,Cv rfl ?_⟩;refine⟨_,rfl,.inl ⟨rfl,_,As.of ei⟩,a,_,_,rfl,rfl,ei,WI (by rw[List.length_append,List.length_replicate];lia),?_⟩;rw[List.append_assoc,show List.replicate k (V.int 77)++[V.int 77]=List.replicate (k+1) (V.int 77)from(List.replicate_succ' ..).symm];exact q _ ((B.mono (Nat.le_refl _) (by lia)).change (u:=.lst I) trivial O (.lst I (k+1) (by lia))) (((IW.of m).trans (C.mono (by lia))).change (u:=.lst I) trivial O J (Nat.le_refl _))
  ·simp only[Pt.NA]at X;simp only[Pt.FO]at Y;simp only[Pt.size]at hz;simp only[Pt.JK]at q;have la:=S.length;have lt:d.length<=Pt.AI d:=Pt.Cr d;have hh:(Pt.tup d).FO=1+Pt.Fj d:=by simp only[Pt.FO]
   have tq:∀{g:Hp},Wn G (Pt.tup d).FO (c+Pt.BI d) g->Bg K g a I:=fun w=>O.imp (fun r=>by
    obtain⟨u',e,wo⟩:=w a (.tup I) _ trivial r J (Nat.le_refl _);cases wo;exact .inl e) id
   have w0:=hw.mono (Nat.le_refl _) (show c<=c+Pt.BI d by lia);refine⟨_,rfl,_,"dict","tuple",rfl,rfl,.t (tq w0),_,rfl,BF rfl ?_⟩;refine⟨_,rfl,Ac,fun p Z=>?_⟩;have m:=AF.new (o:=.tup [V.ty "list",V.ty "tuple"]) Z;have w1:=hw.up m;refine⟨_,p,"tuple",rfl,AD,.t (tq (w0.up m)),_,rfl,Cv rfl ?_⟩;generalize upd H p (.tup [V.ty "list",V.ty "tuple"])=H1 at m w1⊢;have mo:∀{g:Hp}{i:Nat},Wn G (Pt.tup d).FO (c+Pt.BI (d.take i)) g->Wn G (Pt.tup d).FO (c+Pt.BI d) g:=fun{g i} w=>w.mono (Nat.le_refl _) (by have:=Pt.Dv d i;lia);refine .inr ⟨_,rfl,a,rfl,⟨_,tq (w1.mono (Nat.le_refl _) (by lia))⟩,JN (K:=K) (xs:=I) (fun i D g=>∃(L M:Option V),D=[some (.ref a),L,M]/\Wn G (Pt.tup d).FO (c+Pt.BI (d.take i)) g/\IW G (Pt.Fj d) H1 g)
    ⟨none,none,rfl,w1,.refl⟩ (fun i D g _ ⟨_,_,_,w,f⟩=>tq (mo w)) ?_ ?_⟩
   ·rintro i x D g hx ⟨L,M,rfl,B,C⟩;obtain⟨u,l,vu⟩:=S.get hx;have wt:Wt d d:=fun _ _ h=>.inl h;have z1:=wt.size l;have z2:=wt.FO l;refine⟨_,rfl,G,x,u,c+Pt.BI (d.take i),rfl,kf,vu,wt.NA X l,by lia,by lia,B.mono (by lia) (Nat.le_refl _),fun H2 U N=>?_⟩;refine⟨_,_,rfl,?_,C.trans (N.mono z2)⟩;rw[Pt.Gh l,<-Nat.add_assoc];exact B.next kf U N (by lia)
   ·rintro D g ⟨L,M,rfl,B,C⟩;exact⟨_,rfl,_,"list","tuple",rfl,rfl,.t (tq (mo B)),_,rfl,BF rfl (q _ (mo B) ((IW.of m).trans (C.mono (by lia))))⟩
  ·simp only[Pt.NA]at X;simp only[Pt.FO]at Y;simp only[Pt.size]at hz;simp only[Pt.JK]at q;have la:=S.length;have lt:d.length<=Pt.AI d:=Pt.Cr d;rw[List.length_map]at la;have hh:(Pt.Ar ks d).FO=1+Pt.Fj d:=by simp only[Pt.FO]
   obtain⟨u',ea,wo⟩:=hw a (.dK kvs) _ trivial O J (Nat.le_refl _);cases wo with
   |Ar _ j wd=>
    have nd:(kvs.map (·.1)).Nodup:=by
     rw[hk];exact List.Pairwise.map _ (fun a b h e=>h (Sum.inr.inj e)) X.1
    obtain⟨us,ru,wt⟩:=Wt.Ar S wd;have lu:=ru.length;have wl:=wd.len;refine⟨_,rfl,_,"dict","dict",rfl,rfl,.n (.dK (.inl ea)),_,rfl,Cv rfl ?_⟩;refine⟨a,_,.inl ea,fun o Hf F=>⟨_,rfl,a,o,_,rfl,F.at_,?_⟩⟩;have wf:Wn G (Pt.Fj d) c Hf:=fun b u t p r v z=>by
     have R:b≠a:=fun e=>by
      subst e;have:=Val.bU kf _ J v;subst this;lia
     rw[F.ne b R];exact hw b u t p r v (by lia)
    refine J' (fun i D g=>∃(L M:Option V),D=[some (.ref a),L,M]/\Wn G (Pt.Fj d) (c+Pt.BI (us.take i)) g/\IW G (Pt.Fj d) Hf g)
     ⟨none,none,rfl,wf,.refl⟩ (fun i D g _ ⟨_,_,_,_,f⟩=>f.at_ kf J (by lia) F.at_) ?_ ?_
    ·rintro i key x D g hx ⟨L,M,rfl,B,C⟩;obtain⟨u,l,vu⟩:=ru.get (show(j.map (·.2))[i]?=some x by rw[List.getElem?_map,hx];rfl);have z1:=wt.size l;have z2:=wt.FO l;have rd:Rd g a (.dK j):=.inr ⟨o,C.at_ kf J (by lia) F.at_⟩;refine⟨_,rfl,_,rfl,a,x,rfl,.inl ⟨_,key,rd,rfl,(Hb (wd.nd nd) hx).symm⟩,G,x,u,c+Pt.BI (us.take i),rfl,kf,vu,wt.NA X.2 l,by lia,by lia,B.mono (by lia) (Nat.le_refl _),fun H2 U N=>?_⟩;refine⟨_,_,rfl,?_,C.trans (N.mono z2)⟩;rw[Pt.Gh l,<-Nat.add_assoc];exact B.next kf U N (by lia)
    ·rintro D g ⟨L,M,rfl,B,C⟩;have z3:=wt.take j.length;have z4:=Pt.Dv d j.length;refine⟨C.at_ kf J (by lia) F.at_,?_⟩;have eb:back a H g a=some (.dK j):=by rw[Eu];exact ea
     have wb:Wn G (Pt.Ar ks d).FO (c+Pt.BI d) (back a H g):=fun b u t p r v z=>by
      by_cases R:b=a
      ·subst R;obtain⟨u',e,w⟩:=hw b u t p r v z;exact⟨u',by rw[Eu];exact e,w.mono (by lia)⟩
      ·rw[Cy R];rcases Nat.lt_or_ge (Pt.Fj d) t.FO with z'|z'
       ·obtain⟨u',e,w⟩:=hw b u t p r v z;exact⟨u',C.at_ kf v z' (by rw[F.ne b R];exact e),w.mono (by lia)⟩
       ·obtain⟨u',e,w⟩:=B b u t p r v z';exact⟨u',e,w.mono (by lia)⟩
     have fb:IW G (Pt.Ar ks d).FO H (back a H g):=fun b o' e=>by
      by_cases R:b=a
      ·subst R;exact .inl (by rw[Eu];exact e)
      ·rw[Cy R];exact(C b o' (by rw[F.ne b R];exact e)).imp id fun⟨u,t,p,r,v,z⟩=>⟨u,t,p,r,v,by lia⟩
     have U:=wb.change (u:=.dK kvs) trivial O (.Ar _ _ wd.put);have N:=fb.change (u:=.dK kvs) (u':=.dK (putK j T_ (.int 77))) trivial O J (Nat.le_refl _);refine⟨_,rfl,a,_,rfl,TN.k (k:=T_) eb (WI (by lia)),?_⟩;have e2:upd (back a H g) a (.dK (putK j T_ (.int 77))) a=some (.dK (putK j T_ (.int 77))):=AD;generalize upd (back a H g) a (.dK (putK j T_ (.int 77)))=H3 at U N e2⊢;refine⟨_,rfl,Ac,fun p Z=>?_⟩;have m:=AF.new (o:=.tup [V.ty "list",V.ty "tuple"]) Z;refine⟨_,p,"dict",rfl,AD,.n (.dK (.inl (m _ _ e2))),_,rfl,BF rfl ?_⟩;exact⟨_,rfl,_,"list","dict",rfl,rfl,.n (.dK (.inl (m _ _ e2))),_,rfl,BF rfl (q _ (U.up m) (N.trans (.of m)))⟩
theorem P_{f:Addr}{a:FuncData}(F:Co K "_law_ruin" "_law_ruin" Sg f a)(T:Txt mg)(b:Binds K a ["_law_thing"] [])(m:mg "_law_ruin"=some (.ref f)):∀n:Nat,Au P w K mg base CK n f a ["_law_thing"] (JZ n)
 |0=>Iq (fun vs H Q E h=>by obtain⟨_,_,t,_,_,_,_,_,c,_⟩:=h;omega)
 |n+1=>ZF F T (Df.mk' F b m (P_ F T b m n))
theorem XF:AZ ["_law_cells","_law_deep","_law_names_here","_law_cell_here","_law_kind","_law_more","_law_told_here","_law_lacking","_law_k","_law_way"] ["_law_cells","_law_deep","_law_names_here"] (AM Sh):={}
theorem ZG(F:Co K "_law_asks" "_law_asks" Sh f fd)(T:Txt mg)(M:Df P w K mg base "_law_mix" ["_law_cell_here","_law_k"] 1 Ea)(UW:Df P w K mg base "_law_doc" ["_law_cell_here","_law_k","_law_names_here"] 2 Ga)(O:Df P w K mg base "_law_asks" ["_law_cells","_law_deep","_law_names_here"] n (My n)):Au P w K mg base CK (n+1) f fd ["_law_cells","_law_deep","_law_names_here"] (My (n+1)):=by
 refine F.oq XF fun Jr A outer s H vs Q E Y h=>?_
 ·obtain⟨l,d,nm,J,ys,rfl,hd,hl,lc,nl,hn,q⟩:=h;have nd:=XF.nd;have hu:=BJ Y;refine⟨_,(AB (Aa (AR (VP (Bi.MT Y)) (pv 0) (BD CH) (AV _)) (AG (AQ (Ad (AX AU)))) AN) (AB (Ae 3 nd (Dq (FW PySem.F.plainAttrs_list PySem.F.slot_list_pop PySem.F.type_list_pop Jm (pv 0) (AX AE)) (Jq (pv 0) AE ⟨rfl,rfl,rfl,rfl⟩))) (AB (Ae 4 nd (AO Aq (BY M Y.mm (AA (pv 3) (AX AE))) AE)) (AB (Ae 5 nd (Dz BC (AO Aq (BY M Y.mm (AA (pv 3) (AX AE))) AE) AE (AV _))) (AB (Aa (PW.pt (pw_or (AR BC (pv 4) AE (AV _)) (pw_or1 (PW.pt (pw_and (AR BC (pv 1) AE (AV _)) (pw_and1 (AR Rl (pv 4) AE (AV _)))))))) (AG (AQ (Ad (AX AU)))) AN) (AB (Aa (AR La (pv 4) AE (AV _)) (AG (AQ (Ad (AA AU (AX (BY UW Y.mm (AA (pv 3) (AA AE (AX (pv 2)))))))))) AN) (AB (Aa (AR La (pv 4) AE (AV _)) (AG (AQ (Ad (AA AU (AA (cmp ["_law_cells","_law_names_here","_law_deep"] [0,2,1] (Ao rfl T.range (AX (AO Aq (BY M Y.mm (AA (pv 3) (AX AE))) AE))) fun _ _ _ _=>(BY O Y.mm (AA (pv 1) (AA (AO GW (pv 3) AE) (AX (pv 2)))))) (AX (pv 5))))))) AN) (AB (Ae 6 nd G') (AB (Ae 7 nd (BD CH)) (AB (LC (Ao rfl T.range (AX AE)) (CJ 8 nd) (AB (Ae 9 nd (AO Aq (AO By (BY M Y.mm (AA (pv 3) (AX AE))) (FF K (BD (AA AE (AA AE (AA AE (AX AE))))) (pv 8))) AE)) (AB (Aa (AR Rl (pv 9) AE (AV _)) (AG (D' hu (pv 6) (FF K (pv 2) (pv 8)) (BY O Y.mm (AA (pv 0) (AA (AO GW (pv 1) AE) (AX (pv 2))))) rfl)) AN) (AG (Aa (AR BC (pv 9) AE (AV _)) (AG (Cf (FW PySem.F.plainAttrs_list PySem.F.slot_list_append PySem.F.type_list_append ES (pv 7) (AX (FF K (pv 2) (pv 8)))))) AN))))) (AG (AQ (Ad (AA AU (AA (pv 6) (AA (Am (M_ rfl:Bh _ _ (Vs K)) rfl T.sorted EZ (AX (pv 7))) (AX (pv 5)))))))))))))))))),?_⟩;have mM:H l≠none:=by rw[hl];exact fun z=>nomatch z
  refine⟨_,rfl,Nat.zero_le _,fun pe Xb=>⟨l,pe,_,rfl,rfl,As.of ((AF.new Xb) _ _ hl),As.of AD,_,rfl,?_⟩⟩;have se:=AF.new (o:=.lst []) Xb;generalize upd H pe (.lst [])=H1 at se⊢;have Z:=se _ _ hl;cases J with
  |nil=>
   refine Cc ⟨BG,fun p B=>?_⟩;have Yv:=se.free B;have lp:l≠p:=fun z=>by rw[<-z,Z]at B;cases B
   exact q _ .any [] _ (.of (se.trans (AF.new B))) (by rw[AH lp];exact Z) (Nat.le_refl _) (.tup (Bg.of (by rw[AY Yv,AD])) (.cons (.str _) .nil)) trivial (by simp[Ak.size]) (by simp[Ak.deep]) trivial
  |cons c J=>
   refine BE ?_;refine .inl ⟨_,rfl,.inl ⟨rfl,_,As.of Z⟩,l,_,0,0,.int c,rfl,rfl,Z,by decide,by decide,(Fy (by unfold QE;rw[if_pos (by decide),if_pos (by simp)];rfl)).1,rfl,?_⟩;have u:Bt (some l) H (upd H1 l (.lst (J.map V.int))):=(Bt.of se).put;have I:upd H1 l (.lst (J.map V.int)) l=some (.lst (J.map V.int)):=AD;show QK _ _ _ _ (upd H1 l (.lst (J.map V.int)));generalize upd H1 l (.lst (J.map V.int))=H2 at u I⊢;have dY:=hn.but u nl;simp only[List.length_cons]at lc q;have uo:∀{N H4:Hp}{v:V}{t:Pt},Val (nw H2 N) v t->(∀b o,N b=some o->H4 b=some o)->Val (nw H H4) v t:=fun h s=>h.up (BB (fun b h=>u.EC b h) fun b e _ h=>s b e h);refine⟨_,rfl,c,0,rfl,by decide,fun r0 _ _=>⟨_,_,rfl,rfl,(by show(0:Int)<_;decide),?_⟩⟩;have m8:=DL r0 (n:=8) (by decide);generalize r0 % 8=kd at m8⊢;refine⟨_,rfl,c,2,rfl,by decide,fun r2 _ _=>⟨_,_,rfl,rfl,(by show(0:Int)<_;decide),rfl,?_⟩⟩;generalize decide (V.int (r2 % 2)=V.int 1)=mo;dsimp only[CA];have gy:∀p,H2 p=none->Q (.ref p) (upd H2 p (.tup [.str "any"])):=fun p B=>by
    have lp:l≠p:=fun z=>by rw[<-z,I]at B;cases B
    exact q _ .any J _ (u.trans (.of (AF.new B))) (by rw[AH lp];exact I) (by lia) (.tup (Bg.of (by rw[AY (u.EC p B),AD])) (.cons (.str _) .nil)) trivial (by simp[Ak.size]) (by simp[Ak.deep]) trivial
   refine VY (t:=Ny _ _ _) (fun H5=>H2=H5/\(d=0->kd<=2)) (fun H5 ⟨e5,hk⟩=>?_) (fun key=>?_);rotate_left
   ·refine⟨_,rfl,rfl,_,rfl,Bx (fun _=>Cc ⟨BG,gy⟩) (fun _=>⟨_,rfl,rfl,_,rfl,Bx (fun h2=>?_) (fun h2=>?_)⟩)⟩
    ·refine⟨_,rfl,_,_,rfl,rfl,_,rfl,Bx (fun _=>⟨BG,gy⟩) (fun h3=>key H2 ⟨rfl,fun _=>?_⟩)⟩;have:=of_decide_eq_false h3;lia
    ·refine BE (key H2 ⟨rfl,fun z=>?_⟩);have:=of_decide_eq_false h2;subst z;exact absurd rfl this
   subst e5;refine⟨_,rfl,_,_,rfl,rfl,_,rfl,Bx (fun _=>?_) (fun h3=>?_)⟩
   ·refine⟨_,rfl,_,rfl,c,1,nm,ys,rfl,by decide,dY,fun v t N s3 sm=>⟨Ac,fun p B=>?_⟩⟩;have S:=s3.free B;have lp:l≠p:=fun z=>by rw[<-z,I]at S;cases S
    refine q _ (.Ag t) J _ (u.trans (.of (s3.trans (AF.new B)))) (by rw[AH lp];exact s3 _ _ I) (by lia) (.tup (Bg.of (by rw[AY (u.EC p S),AD])) (.cons (.str _) (.cons (uo sm.val (AF.new B)) .nil))) ?_ (by simp[Ak.size]) (by simp[Ak.deep]) trivial;simp only[Ak.ok];exact⟨sm.sm,sm.doc,by have:=sm.size;lia⟩
   have h3:=of_decide_eq_false h3;obtain⟨X,rfl⟩:∃X,d=X+1:=⟨d-1,by lia⟩;have ed:(((X+1:Nat):Int)-1)=(X:Int):=by lia
   refine⟨_,rfl,_,_,rfl,rfl,_,rfl,Bx (fun _=>?_) (fun _=>?_)⟩
   ·refine⟨_,rfl,c,1,rfl,by decide,fun r1 _ _=>⟨_,_,rfl,rfl,(by show(0:Int)<_;decide),?_⟩⟩;have m4:=DL r1 (n:=4) (by decide);obtain⟨k4,mN⟩:∃k:Nat,r1 % 4=(k:Int):=⟨(r1 % 4).toNat,by lia⟩;have mO:k4<4:=by lia
    rw[mN];refine⟨k4,rfl,by lia,by lia,?_⟩;refine DP (some l) k4 (fun i=>.int (0+(i:Int))) (fun i us N=>∃(L:List Ak)(g:List Int),us=Ak.CO L/\N l=some (.lst (g.map V.int))/\g.length<=J.length/\Ak.DW L/\Ak.AI L<=i+4*(J.length-g.length)/\Ak.AJ L<=X+1/\Ak.IP L) (by lia) (fun D hD=>⟨[],J,rfl,by rw[AH (fun z=>by rw[<-z,I]at hD;cases hD)];exact I,Nat.le_refl _,trivial,by simp[Ak.AI],by simp[Ak.AJ],trivial⟩) (fun i us N D ws bt hD ⟨L,g,h1,h2,h3⟩=>⟨L,g,h1,by rw[AH (fun z=>by rw[<-z,I]at hD;cases hD)];exact h2,h3⟩) (fun l' z=>by cases z;rw[I];exact fun z=>nomatch z) (fun i us N hi s iv=>hi) (fun i us N v H' hi s iv y=>⟨y.2,y.1⟩) (fun us N s iv=>Nat.le_refl _) (fun i us N R hi bt ⟨L,g,e1,e2,e3,e4,e5,e6,e7⟩ lu k=>?_) (fun D N ws us hD bt d2 lu vl ⟨L,g,e1,e2,e3,e4,e5,e6,e7⟩=>?_)
    ·refine⟨_,rfl,_,rfl,_,_,rfl,rfl,_,rfl,l,X,nm,g,ys,by rw[ed];rfl,by lia,e2,by lia,nl,dY.but bt nl,fun v a Xc H4 Xd Zx mP v4 uq uu uv uw=>k v a.pt H4 Xd v4 ⟨L++[a],Xc,?_,Zx,by lia,Ak.Cm e4 (Ak.JV uq),?_,?_,Ak.EB e7 ⟨uw,trivial⟩⟩⟩
     ·rw[Ak.Ck,e1];rfl
     ·rw[Ak.Ab,Ak.GH];lia
     ·rw[Ak.Az,Ak.GK];lia
    ·refine⟨_,rfl,Fu,fun p B=>?_⟩;have S:=bt.EC p B;have pD:D≠p:=fun z=>by rw[<-z,d2]at B;cases B
     have lp:l≠p:=fun z=>by rw[<-z,e2]at B;cases B
     subst e1;refine q _ (.row L mo) g _ ((u.trans bt).trans (.of (AF.new B))) (by rw[AH lp];exact e2) (by lia) (.tup (Bg.of (by rw[AY (u.EC p S),AD])) (.cons (.str _) (.cons (.lst (.inl (by rw[AY (u.EC D hD),AH pD];exact d2)) (vl.up (BB (fun b h=>u.EC b h) fun b e _ h=>AF.new B b e h))) (.cons (.bl _) .nil)))) e4 ?_ ?_ e7
     ·simp only[Ak.size];lia
     ·simp only[Ak.deep];lia
   ·refine fun p6 dZ=>?_;obtain⟨N,eH,t6,f6⟩:=DA (o:=.dK []) dZ;rw[eH];clear eH;refine⟨Nat.zero_le _,fun p7 pQ=>?_⟩;have t7:=AF.new (o:=.lst []) pQ;have f7:upd N p7 (.lst []) p7=some (.lst []):=AD;have U:=t7 _ _ f6;generalize upd N p7 (.lst [])=H4 at t7 f7 U⊢;have Xd:Bt (some l) H H4:=u.trans (.of (t6.trans t7));have T0:GQ H H4 l p6 p7 ys (X+1) J.length 0 H4 [] [] [] J []:={
     n6:=u.EC p6 dZ
     n7:=u.EC p7 (t6.free pQ)
     o6:=by rw[U];exact fun z=>nomatch z
     o7:=by rw[f7];exact fun z=>nomatch z
     ne:=fun z=>by rw[z,f7]at U;cases U
     hl:=mM
     h4:=Xd.EC
     bt:=Xd
     dm:=fun b h=>h
     e6:=U
     e7:=f7
     el:=(t6.trans t7) _ _ I
     le:=Nat.le_refl _
     lw:=rfl
     la:=rfl
     vl:=.nil
     ok:=trivial
     fw:=trivial
     lm:=Nat.le_refl _
     sz:=by simp[Ak.AI]
     dp:=by simp[Ak.AJ]
     ik:=fun k h=>nomatch h
     il:=fun k h=>nomatch h
     nk:=.nil
     dj:=fun k h=>nomatch h
     l4:=Nat.le_refl _
     m4:=Nat.le_refl _
     nl:=.nil}
    refine⟨4,rfl,by decide,by decide,CU (lo:=0) (n:=4) (fun i σ Hi=>∃(ks:List Str)(L:List Ak)(ls:List Str)(g:List Int)(ws:List V)(o8 o9:Option V),σ=[some (.ref l),some (.int ((X+1:Nat):Int)),some (.ref nm),some (.int c),some (.int kd),some (.bl mo),some (.ref p6),some (.ref p7),o8,o9]/\GQ H H4 l p6 p7 ys (X+1) J.length i Hi ks L ls g ws)
     ⟨[],[],[],J,[],none,none,rfl,T0⟩ ?_ ?_⟩
    ·rintro i σ Hi hi ⟨ks,L,ls,g,ws,o8,o9,rfl,TI⟩;obtain⟨y,hy⟩:∃y,ys[i]?=some y:=⟨_,yn (by rw[hn.len];exact hi)⟩;have ay:Lh (ys.map V.str) (0+(i:Int))=some (.str y):=by
      have e0:(0:Int)+(i:Int)=(i:Int):=by lia
      rw[e0];exact Av (by rw[List.getElem?_map,hy];rfl)
     obtain⟨v4,mQ,g_⟩:=Dp (xs:=[V.int 1,V.int 4,V.int 16,V.int 64]) (i:=0+(i:Int)) (by lia) (by simp only[List.length_cons,List.length_nil];lia);have vb:∃m:Int,v4=.int m/\0<m/\m<1073741824:=by
      simp only[List.mem_cons,List.not_mem_nil,or_false]at g_;rcases g_ with rfl|rfl|rfl|rfl
      ·exact⟨_,rfl,by decide,by decide⟩
      ·exact⟨_,rfl,by decide,by decide⟩
      ·exact⟨_,rfl,by decide,by decide⟩
      ·exact⟨_,rfl,by decide,by decide⟩
     obtain⟨m,rfl,de,df⟩:=vb;refine⟨_,rfl,c,1,rfl,by decide,fun r1 _ _=>⟨An (show 4<=1000 by decide),fun pl bM=>⟨_,rfl,pl,_,_,_,rfl,rfl,As.of AD,mQ,_,_,rfl,rfl,⟨de,df⟩,_,_,rfl,rfl,(by show(0:Int)<_;decide),?_⟩⟩⟩;have C:=TI.up (AF.new (o:=.lst [V.int 1,V.int 4,V.int 16,V.int 64]) bM);generalize upd Hi pl (.lst [V.int 1,V.int 4,V.int 16,V.int 64])=Hj at C⊢;clear TI;generalize r1/m % 4=wy;have mR:=hn.but C.bt nl;dsimp only[CA];refine⟨_,rfl,_,_,rfl,rfl,_,rfl,Bx (fun h1=>?_) (fun h1=>?_)⟩
     ·have h1:=of_decide_eq_true h1;refine⟨_,rfl,_,rfl,_,_,rfl,rfl,_,rfl,l,X,nm,g,ys,by rw[ed];rfl,by lia,C.el,by have:=C.le;lia,nl,mR,fun v a Xc H5 jC mS pR v5 mT pU pV uy=>?_⟩;obtain⟨g1,g2,uz⟩:=C.asked hy hn.nd jC mS pR v5 mT pU pV uy;have l4:=C.l4;refine⟨_,rfl,_,rfl,_,rfl,nm,_,_,_,rfl,rfl,As.of (mR.but jC nl).at_,ay,p6,_,rfl,.inl ⟨_,Sum.inr y,g1,rfl,Aw (by rw[B_ C.lw];lia),rfl⟩,?_⟩;rw[g2];refine⟨_,rfl,rfl,_,rfl,BF (decide_eq_false fun z=>?_) ⟨_,_,_,_,_,_,_,rfl,uz⟩⟩;have:=V.int.inj z;lia
     ·refine⟨_,rfl,rfl,_,rfl,Bx (fun _=>?_) (fun _=>⟨_,_,_,_,_,_,_,rfl,C.weak⟩)⟩;have m4:=C.m4;exact⟨_,rfl,.inl ⟨rfl,_,As.of C.e7⟩,_,rfl,_,rfl,nm,_,_,_,rfl,rfl,As.of mR.at_,ay,p7,_,_,rfl,rfl,C.e7,Aw (by rw[List.length_map];lia),_,_,_,_,_,_,_,rfl,C.kq hy hn.nd⟩
    ·rintro σ Hi ⟨ks,L,ls,g,ws,o8,o9,rfl,TI⟩;have l4:=TI.l4;have m4:=TI.m4;refine⟨_,rfl,_,rfl,p7,ls,rfl,As.of TI.e7,by lia,fun p8 ss H5 u_ s5 f8 pm vD=>⟨_,rfl,An (show 4<=1000 by decide),fun p B=>?_⟩⟩;have Nn:=s5.free B;have Yv:=TI.bt.EC p Nn;have vE:p8≠p:=fun z=>by rw[<-z,f8]at B;cases B
     have h8:H p8=none:=TI.bt.EC p8 u_;have lp:l≠p:=fun z=>mM (by rw[z];exact Yv);have yG:p6≠p:=fun z=>by have:=s5 _ _ TI.e6;rw[z,B]at this;cases this
     have s6:=s5.trans (AF.new (o:=.tup [.str "table",.ref p6,.ref p8,.bl mo]) B);refine q _ (.tab ks L ss mo) g _ (TI.bt.trans (.of s6)) (s6 _ _ TI.el) (by have:=TI.le;lia) (.tup (Bg.of (by rw[AY Yv,AD])) (.cons (.str _) (.cons (.Ar (.inl (by rw[AY TI.n6];exact s6 _ _ TI.e6)) (Bn TI.lw) ?_) (.cons (.lst (.inl (by rw[AY h8,AH vE];exact f8)) ?_) (.cons (.bl _) .nil))))) ?_ ?_ ?_ ?_
     ·rw[CP TI.lw];exact TI.vl.up (BB (fun b h=>TI.h4 b h) fun b e _ h=>s6 _ _ h)
     ·have gen:∀{G:Hp}(ls:List Str),AS G (ls.map V.str) (ls.map Pt.str):=by
       intro G ls
       induction ls with
       |nil=>exact .nil
       |cons x r ih=>exact .cons (.str x) ih
      exact gen ss
     ·simp only[Ak.ok];exact⟨TI.la,TI.nk,fun k hk=>let⟨j,_,h2⟩:=TI.ik k hk;hn.nb k (yr h2),by lia,⟨by rw[pm.length_eq];lia,pm.nodup_iff.mpr TI.nl,vD⟩,fun x hx=>TI.dj x (pm.mem_iff.mp hx),TI.ok⟩
     ·have:=TI.sz;have:=TI.le;simp only[Ak.size];lia
     ·have:=TI.dp;simp only[Ak.deep];lia
     ·have:=TI.lm;exact⟨by rw[pm.length_eq];exact this,TI.fw⟩
theorem P'{f:Addr}{d:FuncData}(F:Co K "_law_asks" "_law_asks" Sh f d)(T:Txt mg)(b:Binds K d ["_law_cells","_law_deep","_law_names_here"] [])(m:mg "_law_asks"=some (.ref f))(a:Df P w K mg base "_law_mix" ["_law_cell_here","_law_k"] 1 Ea)(c:Df P w K mg base "_law_doc" ["_law_cell_here","_law_k","_law_names_here"] 2 Ga):∀n:Nat,Au P w K mg base CK n f d ["_law_cells","_law_deep","_law_names_here"] (My n)
 |0=>Iq (fun vs H Q E h=>by obtain⟨_,_,_,_,_,_,e,_⟩:=h;omega)
 |n+1=>ZG F T a c (Df.mk' F b m (P' F T b m a c n))
theorem Zy:AZ ["_law_asks_here","_law_cells","_law_names_here","_law_cell_here","_law_some","_law_doc_here","_law_k","_law_name"] ["_law_asks_here","_law_cells","_law_names_here"] (AM Yu):={}
theorem cX(F:Co K "_law_fit" "_law_fit" Yu f fd)(T:Txt mg)(ZH:Df P w K mg base "_law_mix" ["_law_cell_here","_law_k"] 1 Ea)(UW:Df P w K mg base "_law_doc" ["_law_cell_here","_law_k","_law_names_here"] 2 Ga)(XG:Df P w K mg base "_law_copy" ["_law_thing"] 22 (GG 22))(ZI:Df P w K mg base "_law_fit" ["_law_asks_here","_law_cells","_law_names_here"] n (NU n)):Au P w K mg base CK (n+1) f fd ["_law_asks_here","_law_cells","_law_names_here"] (NU (n+1)):=by
 refine F.oq Zy fun Jr A outer s H vs Q E hr h=>?_
 ·obtain⟨w,a0,l,nm,cs,ys,rfl,hw,Ax,hd,cY,za,hl,lc,nl,hn,q⟩:=h;have nd:=Zy.nd;have hu:=BJ hr;refine⟨_,(AB (EG (i:=3) nd rfl (Or.inr rfl) AE) (AB (Aa (AR (VR (Bi.MT hr)) (pv 1) (BD CH) (AV _)) (AG (EG (i:=3) nd rfl (Or.inr rfl) (Dq (FW PySem.F.plainAttrs_list PySem.F.slot_list_pop PySem.F.type_list_pop Jm (pv 1) (AX AE)) (Jq (pv 1) AE ⟨rfl,rfl,rfl,rfl⟩)))) AN) (AB (Aa (AR BC (Br K 0) AU (AV _)) (AG (AQ (BY UW hr.mm (AA (pv 3) (AA AE (AX (pv 2))))))) AN) (AB (Aa (AR BC (Br K 0) AU (AV _)) (AG (AQ (BY XG hr.mm (AX (Br K 0))))) AN) (AB (Es (i:=4) (fv:=["_law_cell_here","_law_names_here"]) (fs:=[3,2]) rfl (.of (by rfl)) nd rfl (Or.inl rfl) (Ao rfl T.range (AX (AO Aq (BY ZH hr.mm (AA (pv 3) (AX AE))) AE))) (fun _ _ _ _=>Fz) (fun C s0 H0 fp=>(BY UW hr.mm (AA (pv 1) (AA (AO Bp AE (pv 0)) (AX (pv 2))))))) (AB (Aa (AR BC (Br K 0) AU (AV _)) (AG (AQ (AO Jn (cmp ["_law_cells","_law_names_here"] [1,2] (CT (Br K 0)) fun _ _ _ _=>(BY ZI hr.mm (AA (pv 0) (AA (pv 1) (AX (pv 2)))))) (AO VA (pv 4) (A' Fx rfl T.int Rv (AX (Br K 0))))))) AN) (AB (Ae 5 nd (A' (CB rfl) rfl T.dict CZ (AX (cmp ["_law_cells","_law_names_here","_law_asks_here"] [1,2,0] (CT (Am (Cu rfl) rfl T.sorted EZ (AX (Br K 0)))) fun _ _ _ _=>(Ad (AA (pv 0) (AX (BY ZI hr.mm (AA (LY hu (Br K 3) (pv 0)) (AA (pv 1) (AX (pv 2)))))))))))) (AB (LC (Ao rfl T.range (AX (AO Em (Fv T.len (pv 4)) (A' Fx rfl T.int Rv (AX (Br K 0)))))) (CJ 6 nd) (AB (Ae 7 nd (FF K (pv 2) (AO Aq (AO Bp (BY ZH hr.mm (AA (pv 3) (AX AE))) (pv 6)) AE))) (AG (Aa (PW.pt (pw_and (QH (Lk hu (pv 7) (Br K 0))) (pw_and1 (AR (MZ:Ek _ _ (dI K true)) (pv 7) (Br K 0) rfl)))) (AG (D' hu (pv 5) (pv 7) (FF K (pv 4) (pv 6)) rfl)) AN)))) (AG (AQ (pv 5))))))))))),?_⟩;have mM:H l≠none:=by rw[hl];exact fun z=>nomatch z
  refine Zj ?_;refine Fb (t:=Ny _ _ _) (fun σ' H1=>∃(c:Int)(XH:List Int),σ'=[some w,some (.ref l),some (.ref nm),some (.int c),none,none,none,none]/\Bt (some l) H H1/\H1 l=some (.lst (XH.map V.int))/\XH.length<=cs.length) (fun σ' H1 ⟨c,XH,es,L,O,jD⟩=>?_) (fun key=>?_);rotate_left
  ·refine⟨_,rfl,Nat.zero_le _,fun pe Xb=>⟨l,pe,_,rfl,rfl,As.of ((AF.new Xb) _ _ hl),As.of AD,_,rfl,?_⟩⟩;have se:=AF.new (o:=.lst []) Xb;generalize upd H pe (.lst [])=H1 at se⊢;have O:=se _ _ hl;cases cs with
   |nil=>exact BE (key _ _ ⟨1001,[],rfl,.of se,O,Nat.le_refl _⟩)
   |cons c cs=>
    refine Cc ?_;exact .inl ⟨_,rfl,.inl ⟨rfl,_,As.of O⟩,l,_,0,0,.int c,rfl,rfl,O,by decide,by decide,(Fy (by unfold QE;rw[if_pos (by decide),if_pos (by simp)];rfl)).1,rfl,key _ _ ⟨c,cs,rfl,(Bt.of se).put,AD,by simp⟩⟩
  subst es;have cZ:=hn.but L nl;have vF:=hw.up L.Cs;obtain⟨U,w0,rest,rfl,Sl,kinds⟩:=vF.ak;have Y:=Sl.up Bs;rcases kinds with⟨rfl,rfl,rfl⟩|⟨d,u,rfl,rfl,rfl,LA⟩|⟨xs,m,u,rfl,rfl,rfl,LA⟩|⟨ks,xs,ls,m,u,z,rfl,rfl,rfl,LA,hz⟩
  ·refine⟨_,rfl,U,_,0,_,rfl,rfl,Y,B',rfl,_,rfl,DB ?_⟩;refine⟨_,rfl,_,rfl,c,3,nm,ys,rfl,by decide,cZ,fun v t X s2 sm=>q v t XH X (L.trans (.of s2)) (s2 _ _ O) jD (sm.val.up (BB (fun b h=>L.EC b h) fun b e _ h=>h)) sm.doc ?_ ?_ (by simp only[Ak.lets])⟩
   ·have:=sm.size;simp only[Ak.GO];lia
   ·have:=sm.deep;simp only[Ak.dp];lia
  ·refine⟨_,rfl,U,_,0,_,rfl,rfl,Y,B',rfl,_,rfl,BO ?_⟩;refine⟨_,rfl,U,_,0,_,rfl,rfl,Y,B',rfl,_,rfl,DB ?_⟩;simp only[Ak.CF]at Ax;simp only[Ak.dp]at hd cY;simp only[Ak.GO]at za;refine⟨_,rfl,U,_,1,u,rfl,rfl,Y,CD,u,d,rfl,LA.up Bs,Pt.Fg d Ax (by lia),by lia,fun v X s2 v2=>q v d XH X (L.trans (.of s2)) (s2 _ _ O) jD (v2.up (BB (fun b h=>L.EC b h) fun b e _ h=>h)) Ax ?_ ?_ (by simp only[Ak.lets];exact Pt.Du _ (Pt.KZ d Ax))⟩
   ·simp only[Ak.GO];lia
   ·simp only[Ak.dp];lia
  ·skip
   refine⟨_,rfl,U,_,0,_,rfl,rfl,Y,B',rfl,_,rfl,BO ?_⟩;refine⟨_,rfl,U,_,0,_,rfl,rfl,Y,B',rfl,_,rfl,BO ?_⟩;refine⟨_,rfl,c,3,rfl,by decide,fun r3 _ _=>⟨_,_,rfl,rfl,(by show(0:Int)<_;decide),?_⟩⟩;have m3:=DL r3 (n:=3) (by decide);obtain⟨k3,hJ⟩:∃k:Nat,r3 % 3=(k:Int):=⟨(r3 % 3).toNat,by lia⟩;have mU:k3<3:=by lia
   rw[hJ];refine⟨k3,rfl,by lia,by lia,?_⟩;refine DP none k3 (fun i=>.int (0+(i:Int))) (fun i B X=>EK B) (by lia) (fun D hD u h=>nomatch h) (fun i B X D ws J hD iv=>iv) (fun l' z=>nomatch z) (fun i B X Z s iv=>Z) (fun i B X v H' Z s iv y=>⟨y.2,y.1⟩) (fun B X s iv=>Nat.le_refl _) (fun i B X R Z J iv lu k=>?_) (fun D4 X M jE hO mV d4 vG XI hR=>?_)
   ·have e0:(4:Int)+(0+(i:Int))=((4+i:Nat):Int):=by lia
    refine⟨_,rfl,_,rfl,_,_,rfl,rfl,_,rfl,c,4+i,nm,ys,by rw[e0];rfl,by lia,cZ.up J.same,fun v t g s3 sm=>k v t g (.of s3) sm.val ?_⟩;intro x hx;rcases List.mem_append.mp hx with hx|hx
    ·exact iv x hx
    ·rw[List.mem_singleton.mp hx];exact⟨sm.doc,sm.size,sm.deep⟩
   have S:=mV.same;have hU:Bt (some l) H X:=L.trans (.of S);have UU:=S _ _ O;have QA:=Y.up S;have dY:=cZ.up S;have vH:=XI.length;refine⟨_,rfl,U,_,0,_,rfl,rfl,QA,B',rfl,_,rfl,DB ?_⟩;simp only[Ak.CF]at Ax;simp only[Ak.dp]at hd cY;simp only[Ak.GO]at za;have vI:=Ak.NO xs;cases LA with
   |@lst a vs _ hV ra=>
    have la:=ra.length;rw[Ak.AW,List.length_map]at la;have jF:Rd H1 a (.lst vs):=hV.up (Bs _);have al:a≠l:=fun z=>by
     subst z;rcases hV with h|⟨o,h⟩<;>(unfold Cs at h;rw[if_pos rfl]at h;cases h)
    have cb:∀{g:Hp},Bt (some l) H1 g->Rd g a (.lst vs):=fun J=>jF.up fun o e=>J.keep a o (fun z=>al (yq z).symm) e;have b12:Bt (some l) H1 X:=.of S;refine⟨_,rfl,U,_,1,_,rfl,rfl,QA,CD,a,rfl,⟨_,.inl (cb b12)⟩,?_⟩;refine DP (some l) xs.length (fun i=>vs.getD i .Ah) (fun i B g=>∃I:List Int,g l=some (.lst (I.map V.int))/\I.length<=XH.length/\Pt.Cj B/\Pt.AI B<=Ak.Cn (xs.take i)/\Pt.AJ B<=Ak.JJ xs+2/\Ak.LP xs B) (by lia) (fun D hD=>⟨XH,by rw[AH (fun z=>by rw[<-z,UU]at hD;cases hD)];exact UU,Nat.le_refl _,trivial,by simp[Pt.AI],by simp[Pt.AJ],fun j x y _ h=>nomatch h⟩) (fun i B g D ws J hD ⟨I,h1,h2⟩=>⟨I,by rw[AH (fun z=>by rw[<-z,UU]at hD;cases hD)];exact h1,h2⟩) (fun l' z=>by cases z;rw[UU];exact fun z=>nomatch z) (fun i B g Z s iv=>⟨_,_,.inl (cb (b12.trans s)),yn (by lia)⟩) (fun i B g v H' Z s iv y=>?_) (fun B g s iv=>⟨_,.inl (cb (b12.trans s)),by lia⟩) (fun i B g R Z J ⟨I,e2,e3,e4,e5,e6,lp⟩ lu k=>?_) (fun D g ws B hD J d2 lu vl ⟨I,e2,e3,e4,e5,e6,lp⟩=>?_)
    ·obtain⟨e,y⟩:=y;refine⟨?_,e⟩;have:=y _ (.inl (cb (b12.trans s)));rw[List.getD_eq_getElem?_getD,this];rfl
    ·obtain⟨x,hx⟩:∃x,vs[i]?=some x:=⟨_,yn (by lia)⟩;obtain⟨px,g1,vx⟩:=ra.get hx;obtain⟨ax,ZJ⟩:∃ax,xs[i]?=some ax:=⟨_,yn Z⟩;rw[Ak.AW,List.getElem?_map,ZJ]at g1;cases g1;have m1:=yr ZJ;have d1:=Ak.HU m1;have z1:=Ak.Kp m1;have ev:vs.getD i .Ah=x:=by rw[List.getD_eq_getElem?_getD,hx];rfl
     rw[ev];refine⟨_,rfl,_,rfl,_,rfl,x,ax,l,nm,I,ys,rfl,vx.up (b12.trans J).Cs,Ak.Bd Ax _ m1,by lia,by lia,by lia,e2,by lia,nl,dY.but J nl,fun v t Xc H4 Xd Zx mP v4 mW z4 p4 l4=>k v t H4 Xd v4 ⟨Xc,Zx,by lia,Pt.Fh e4 ⟨mW,trivial⟩,?_,?_,lp.snoc lu ZJ l4⟩⟩
     ·rw[Pt.Ab,List.take_add_one,ZJ,Ak.Ft];simp only[Pt.AI,Option.toList,Ak.Cn];lia
     ·rw[Pt.Az];simp only[Pt.AJ];lia
    ·rw[List.take_length]at e5;have d43:=J.keep D4 _ (fun z=>by rw[<-yq z,O]at hO;cases hO) d4;have t3:=Sl.oU ((Bt.of S).trans J);refine⟨_,rfl,_,rfl,U,_,2,_,rfl,rfl,t3,at2,.inr ⟨m,rfl,?_⟩⟩;have uu:=hR.size;have uv:=hR.deep;have lv:=vl.length;have yH:=Pt.Cr B;have fin:∀(kk:Nat),kk<=1->(kk=1->m=true)->aN fK (fun σ H Q=>Q (V.ref D) H) (fun σ H Q=>fP (V.ref D4) (V.int (kk:Int)) H Q) [] g Q:=fun kk vJ hm=>by
      refine⟨D4,(kk:Int),M,rfl,rfl,d43,by lia,by lia,An (by rw[Int.toNat_natCast];have:M.length*kk<=M.length*1:=Nat.mul_le_mul_left _ vJ;lia),fun p hp=>?_⟩;rw[Int.toNat_natCast];obtain⟨wr,ur,rp,ru,um⟩:∃(wr:List V)(ur:List Pt),(List.replicate kk M).flatten=wr/\(wr=M/\ur=jE∨wr=[]/\ur=[])/\(ur=[]∨m=true):=by
       have:kk=0∨kk=1:=by lia
       rcases this with rfl|rfl
       ·exact⟨[],[],by simp,.inr ⟨rfl,rfl⟩,.inl rfl⟩
       ·exact⟨M,jE,by simp,.inl ⟨rfl,rfl⟩,.inr (hm rfl)⟩
      rw[rp];have lr:wr.length<=2:=by
       rcases ru with⟨rfl,rfl⟩|⟨rfl,rfl⟩
       ·lia
       ·simp
      have z4:Pt.AI ur<=8:=by
       rcases ru with⟨rfl,rfl⟩|⟨rfl,rfl⟩
       ·lia
       ·simp[Pt.AI]
      have y4:Pt.AJ ur<=2:=by
       rcases ru with⟨rfl,rfl⟩|⟨rfl,rfl⟩
       ·lia
       ·simp[Pt.AJ]
      have x4:Pt.Cj ur:=by
       rcases ru with⟨rfl,rfl⟩|⟨rfl,rfl⟩
       ·exact hR.kr
       ·trivial
      have v4:AS (nw H1 X) wr ur:=by
       rcases ru with⟨rfl,rfl⟩|⟨rfl,rfl⟩
       ·exact XI
       ·exact .nil
      obtain⟨H4,eH,sp,fp⟩:=DA (o:=.lst wr) hp;rw[eH];clear eH;refine⟨D,p,_,_,rfl,rfl,sp _ _ d2,fp,An (by lia),fun p2 Yx=>?_⟩;have jG:=sp.trans (AF.new (o:=.lst (ws++wr)) Yx);have mX:=hU.EC p2 (J.EC p2 (sp.free Yx));refine q _ (.lst (B++ur)) I _ ((hU.trans J).trans (.of jG)) (jG _ _ e2) (by lia) (.lst (.inl (by rw[AY mX,AD])) ((vl.up (BB (fun b h=>hU.EC b h) fun b e h1 h2=>jG _ _ h2)).append (v4.up (BB (fun b h=>L.EC b h) fun b e h1 h2=>jG _ _ (J.keep b e (fun z=>by rw[<-yq z,O]at h1;cases h1) h2))))) (Pt.Fh e4 x4) ?_ ?_ (lp.row lu um)
      ·simp only[Pt.size,Ak.GO];rw[Pt.Ab];lia
      ·simp only[Pt.deep,Ak.dp];rw[Pt.Az];lia
     cases m with
     |true=>exact fin 1 (by decide) (fun _=>rfl)
     |false=>exact fin 0 (by decide) (fun z=>nomatch z)
  ·skip
   refine⟨_,rfl,U,_,0,_,rfl,rfl,Y,B',rfl,_,rfl,BO ?_⟩;refine⟨_,rfl,U,_,0,_,rfl,rfl,Y,B',rfl,_,rfl,BO ?_⟩;refine⟨_,rfl,c,3,rfl,by decide,fun r3 _ _=>⟨_,_,rfl,rfl,(by show(0:Int)<_;decide),?_⟩⟩;have m3:=DL r3 (n:=3) (by decide);obtain⟨k3,hJ⟩:∃k:Nat,r3 % 3=(k:Int):=⟨(r3 % 3).toNat,by lia⟩;have mU:k3<3:=by lia
   rw[hJ];refine⟨k3,rfl,by lia,by lia,?_⟩;refine DP none k3 (fun i=>.int (0+(i:Int))) (fun i B X=>EK B) (by lia) (fun D hD u h=>nomatch h) (fun i B X D ws J hD iv=>iv) (fun l' z=>nomatch z) (fun i B X Z s iv=>Z) (fun i B X v H' Z s iv y=>⟨y.2,y.1⟩) (fun B X s iv=>Nat.le_refl _) (fun i B X R Z J iv lu k=>?_) (fun D4 X M jE hO mV d4 vG XI hR=>?_)
   ·have e0:(4:Int)+(0+(i:Int))=((4+i:Nat):Int):=by lia
    refine⟨_,rfl,_,rfl,_,_,rfl,rfl,_,rfl,c,4+i,nm,ys,by rw[e0];rfl,by lia,cZ.up J.same,fun v t g s3 sm=>k v t g (.of s3) sm.val ?_⟩;intro x hx;rcases List.mem_append.mp hx with hx|hx
    ·exact iv x hx
    ·rw[List.mem_singleton.mp hx];exact⟨sm.doc,sm.size,sm.deep⟩
   have S:=mV.same;have hU:Bt (some l) H X:=L.trans (.of S);have UU:=S _ _ O;have QA:=Y.up S;have dY:=cZ.up S;have vH:=XI.length;refine⟨_,rfl,U,_,0,_,rfl,rfl,QA,B',rfl,_,rfl,BO ?_⟩;simp only[Ak.CF]at Ax;simp only[Ak.dp]at hd cY;simp only[Ak.GO]at za;have vI:=Ak.NO xs;obtain⟨o1,o2,o3,o4,o5,o6,o7⟩:=Ax;cases LA with
   |@Ar a kvs _ _ hV YR ra=>
    cases hz with
    |@lst lz cc _ pW rl=>
     have kl:kvs.length=ks.length:=by have:=congrArg List.length YR;simpa using this
     have jF:Rd H1 a (.dK kvs):=hV.up (Bs _);have al:a≠l:=fun z=>by
      subst z;rcases hV with h|⟨o,h⟩<;>(unfold Cs at h;rw[if_pos rfl]at h;cases h)
     have cb:∀{g:Hp},Bt (some l) H1 g->Rd g a (.dK kvs):=fun J=>jF.up fun o e=>J.keep a o (fun z=>al (yq z).symm) e;have pX:Rd H1 lz (.lst cc):=pW.up (Bs _);have zl:lz≠l:=fun z=>by
      subst z;rcases pW with h|⟨o,h⟩<;>(unfold Cs at h;rw[if_pos rfl]at h;cases h)
     have yI:∀{g:Hp},Bt (some l) H1 g->Rd g lz (.lst cc):=fun J=>pX.up fun o e=>J.keep lz o (fun z=>zl (yq z).symm) e;have mY:∀{g:Hp},Bt (some l) H1 g->Bg K g U [.str "table",.ref a,.ref lz,.bl m]:=fun J=>Sl.oU J;have pY:cc=ls.map V.str:=by
      have gen:∀{G:Hp}{vs:List V}{ls:List Str},AS G vs (ls.map Pt.str)->vs=ls.map V.str:=by
       intro G vs ls
       induction ls generalizing vs with
       |nil=>intro h;cases h;rfl
       |cons x r ih=>
        intro h;cases h with
        |cons h1 h2=>cases h1;rw[List.map_cons,ih h2]
      exact gen rl
     have b12:Bt (some l) H1 X:=.of S;refine⟨_,rfl,U,_,1,_,rfl,rfl,QA,CD,a,kvs,ks,rfl,cb b12,YR,by lia,fun ps ss pZ pb hW pf pm st=>?_⟩;have bb:Bt (some l) H1 pZ:=b12.trans (.of hW);have ZK:=hW _ _ UU;obtain⟨as,jH⟩:=GZ o1 (ss:=ss) fun k hk=>pm.mem_iff.mp hk;have jI:=CV o1 o2 pm jH;have lS:as.length=ss.length:=by have:=congrArg List.length jH;simpa using this.symm
     have hX:=pm.length_eq;have ph:ss.Nodup:=pm.nodup_iff.mpr o2;refine⟨ps,rfl,⟨_,As.of pf⟩,?_⟩;have vL:l≠ps:=fun z=>by rw[<-z,UU]at pb;cases pb
     have mZ:∀{g:Hp},Bt (some l) pZ g->g ps=some (.lst (ss.map V.str)):=fun J=>J.keep _ _ (fun z=>vL (yq z)) pf;have li:∀i,i<ss.length->(ss.map V.str)[i]?=some (.str (ss.getD i "")):=fun i Z=>by
      rw[List.getElem?_map,yn Z,List.getD_eq_getElem?_getD,yn Z];rfl
     refine Lw (some l) ss.length (fun i=>.str (ss.getD i "")) ss (fun i B g=>∃I:List Int,g l=some (.lst (I.map V.int))/\I.length<=XH.length/\Pt.Cj B/\Pt.AI B<=Ak.Cn (as.take i)/\Pt.AJ B<=Ak.JJ xs+2/\Ak.LP as B) (by lia) (fun D hD=>⟨XH,by rw[AH (fun z=>by rw[<-z,ZK]at hD;cases hD)];exact ZK,Nat.le_refl _,trivial,by simp[Pt.AI],by simp[Pt.AJ],fun j x y _ h=>nomatch h⟩) (fun i B g D e J hD ⟨I,h1,h2⟩=>⟨I,by rw[AH (fun z=>by rw[<-z,ZK]at hD;cases hD)];exact h1,h2⟩) (fun l' z=>by cases z;rw[ZK];exact fun z=>nomatch z) (fun i B g Z s iv=>⟨_,_,As.of (mZ s),li i Z⟩) (fun i B g v H' Z s iv y=>?_) (fun B g s iv=>⟨_,As.of (mZ s),by rw[List.length_map];exact Nat.le_refl _⟩) (fun i B g R Z J ⟨I,e2,e3,e4,e5,e6,lp⟩ lu k=>?_) (fun D g ts ws B hD J d2 lt lu tt vl ⟨I,e2,e3,e4,e5,e6,lp⟩=>?_)
     ·obtain⟨e,y⟩:=y;have:=y _ (As.of (mZ s));rw[li i Z]at this;exact⟨(yq this).symm,e⟩
     ·have hk:ss[i]?=some (ss.getD i ""):=by rw[List.getD_eq_getElem?_getD,yn Z];rfl
      obtain⟨ax,ZJ⟩:∃ax,as[i]?=some ax:=⟨_,yn (by lia)⟩;have vM:lk ks xs (ss.getD i "")=some ax:=by
       have:=congrArg (fun z=>z[i]?) jH;simp only[List.getElem?_map,hk,ZJ]at this;exact yq this
      have pq:lk ks (Ak.CO xs) (ss.getD i "")=some ax.pt:=by rw[Ak.AW,Ds,vM];rfl
      rcases Val.Dd YR ra (ss.getD i "")with⟨x,tx,k1,k2,vx⟩|⟨_,k2⟩
      ·have vN:tx=ax.pt:=yq (k2.symm.trans pq);subst vN;have m1:=jI.mem_iff.mp (yr ZJ);have d1:=Ak.HU m1;have z1:=Ak.Kp m1;refine⟨_,rfl,_,rfl,U,_,1,_,rfl,rfl,mY (bb.trans J),CD,_,rfl,a,x,rfl,.inl ⟨kvs,Sum.inr (ss.getD i ""),cb (bb.trans J),rfl,k1.symm⟩,_,rfl,_,rfl,x,ax,l,nm,I,ys,rfl,vx.up (bb.trans J).Cs,Ak.Bd o7 _ m1,by lia,by lia,by lia,e2,by lia,nl,(dY.up hW).but J nl,fun v t Xc H4 Xd Zx mP v4 mW z4 p4 l4=>⟨Ac,fun pt ma=>k v t H4 pt Xd v4 ⟨Xc,Zx,by lia,Pt.Fh e4 ⟨mW,trivial⟩,?_,?_,lp.snoc lu ZJ l4⟩ ma⟩⟩
       ·rw[Pt.Ab,List.take_add_one,ZJ,Ak.Ft];simp only[Pt.AI,Option.toList,Ak.Cn];lia
       ·rw[Pt.Az];simp only[Pt.AJ];lia
      ·exact absurd (k2.symm.trans pq) (fun z=>nomatch z)
     ·rw[<-lS,List.take_length,Ak.MJ jI]at e5;have lw:=vl.length;have el:ss.length=ws.length:=by lia
      refine⟨D,ts,Cb ss ws,rfl,As.of d2,by rw[B_ el];lia,fun j k v e=>?_,by rw[B_ el];lia,fun p5 QG=>?_⟩
      ·obtain⟨x,h1,h2,h3⟩:=HQ e;obtain⟨t,ht⟩:∃t,ts[j]?=some t:=⟨_,yn (by have:=(yo h1).1;lia)⟩;obtain⟨g2,g3⟩:=tt j t v ht h2;refine⟨t,ht,?_⟩;rw[g2,h3,List.getD_eq_getElem?_getD,h1];rfl
      rw[Di el ph];have s4:=AF.new (o:=.dK (Cb ss ws)) QG;have f5:upd g p5 (.dK (Cb ss ws)) p5=some (.dK (Cb ss ws)):=AD;have b13:=bb.trans J;have b23:Bt (some l) X g:=(Bt.of hW).trans J;have d43:=b23.keep D4 _ (fun z=>by rw[<-yq z,O]at hO;cases hO) d4;have me:AS (nw H g) ws B:=vl.up (BB (fun b h=>hU.EC b (hW.free h)) fun b e _ h=>h);have mf:AS (nw H g) M jE:=XI.up (BB (fun b h=>L.EC b h) fun b e h1 h2=>b23.keep b e (fun z=>by rw[<-yq z,O]at h1;cases h1) h2);have mh:H p5=none:=L.EC p5 (b13.EC p5 QG);generalize upd g p5 (.dK (Cb ss ws))=H4 at s4 f5⊢;have b14:Bt (some l) H1 H4:=b13.trans (.of s4);have Zx:=s4 _ _ e2;refine⟨_,rfl,D4,_,rfl,.inl (As.of (s4 _ _ d43)),_,rfl,U,_,3,_,rfl,rfl,mY b14,Av (j:=3) rfl,.inr ⟨m,rfl,_,_,rfl,rfl,.inl ⟨by lia,by lia⟩,?_⟩⟩;obtain⟨N,hN,yJ,vO⟩:∃N:Nat,((M.length:Nat):Int)*(if m=true then 1 else 0)=(N:Int)/\N<=M.length/\(0<N->m=true):=by
       cases m with
       |true=>exact⟨M.length,by simp,Nat.le_refl _,fun _=>rfl⟩
       |false=>exact⟨0,by simp,Nat.zero_le _,fun z=>by lia⟩
      rw[hN];refine⟨N,rfl,by lia,by lia,CU (lo:=0) (n:=N) (fun i σ Hi=>∃(So:List Str)(dh:List V)(UX:List Pt)(o6 o7:Option V),σ=[some (.ref U),some (.ref l),some (.ref nm),some (.int c),some (.ref D4),some (.ref p5),o6,o7]/\(∀b,b≠p5->Hi b=H4 b)/\Hi p5=some (.dK (Cb So dh))/\So.length=dh.length/\So.Nodup/\AS (nw H g) dh UX/\ (∀k∈So,Dn k=true)/\Pt.Cj UX/\(∀u∈UX,u.deep<=Ak.JJ xs+2)/\Pt.AI UX<=Ak.Cn xs+4*i/\So.length<=ks.length+i/\Ak.LT ks xs ls m So UX)
       ⟨ss,ws,B,none,none,rfl,fun b _=>rfl,f5,el,ph,me,fun k hk=>o3 k (pm.mem_iff.mp hk),e4,fun u hu=>Nat.le_trans (Pt.Ap hu) e6,by lia,by lia,.of o1 o2 pm jH (by lia) lp o6⟩ ?_ ?_⟩
      ·rintro i σ Hi Z ⟨So,dh,UX,vP,vQ,rfl,FL,jJ,l2,jK,Yw,jL,jM,jN,mC,ln2,ltI⟩;have ne5:∀{b:Addr}{o:HO},H1 b=some o->b≠p5:=fun h z=>by rw[z,b13.EC p5 QG]at h;cases h
       have vR:Hi nm=some (.lst (ys.map V.str)):=by
        rw[FL nm (ne5 cZ.at_)];exact(cZ.but b14 nl).at_
       have Xe:=mY b14;have gZ:Bg K Hi U [.str "table",.ref a,.ref lz,.bl m]:=Sl.imp (fun r=>r.up fun o e=>by
        have hb:U≠l:=fun z=>by unfold Cs at e;rw[if_pos z]at e;cases e
        rw[CI hb]at e;rw[FL U (ne5 e)];exact b14.keep _ _ (fun z=>hb (yq z).symm) e) id
       have vS:Rd Hi a (.dK kvs):=by
        rcases jF with h|⟨o,h⟩
        ·exact .inl (by rw[FL a (ne5 h)];exact b14.keep a _ (fun z=>al (yq z).symm) h)
        ·exact .inr ⟨o,by rw[FL a (ne5 h)];exact b14.keep a _ (fun z=>al (yq z).symm) h⟩
       have vT:Rd Hi lz (.lst cc):=by
        rcases pX with h|⟨o,h⟩
        ·exact .inl (by rw[FL lz (ne5 h)];exact b14.keep lz _ (fun z=>zl (yq z).symm) h)
        ·exact .inr ⟨o,by rw[FL lz (ne5 h)];exact b14.keep lz _ (fun z=>zl (yq z).symm) h⟩
       have vU:D4≠p5:=fun z=>by rw[z,QG]at d43;cases d43
       have vV:Hi D4=some (.lst M):=by rw[FL D4 vU];exact s4 _ _ d43
       refine⟨_,rfl,_,rfl,c,6,rfl,by decide,fun r6 _ _=>⟨_,rfl,_,_,rfl,rfl,_,_,rfl,rfl,(by show(0:Int)<_;decide),?_⟩⟩;have m4:=DL (r6+(0+(i:Int))) (n:=4) (by decide);obtain⟨jj,cQ⟩:∃j:Nat,(r6+(0+(i:Int))) % 4=(j:Int):=⟨((r6+(0+(i:Int))) % 4).toNat,by lia⟩;obtain⟨y,hy⟩:∃y,ys[jj]?=some y:=⟨_,yn (by rw[hn.len];lia)⟩;refine⟨nm,_,_,_,rfl,rfl,As.of vR,by rw[cQ];exact Av (by rw[List.getElem?_map,hy];rfl),?_⟩;dsimp only[CA];have keep:∃(UY:List Str)(cf:List V)(XJ:List Pt)(o6 o7:Option V),[some (V.ref U),some (V.ref l),some (V.ref nm),some (V.int c),some (V.ref D4),some (V.ref p5),some (V.int (0+(i:Int))),some (V.str y)]=[some (.ref U),some (.ref l),some (.ref nm),some (.int c),some (.ref D4),some (.ref p5),o6,o7]/\(∀b,b≠p5->Hi b=H4 b)/\Hi p5=some (.dK (Cb UY cf))/\UY.length=cf.length/\UY.Nodup/\AS (nw H g) cf XJ/\ (∀k∈UY,Dn k=true)/\Pt.Cj XJ/\(∀u∈XJ,u.deep<=Ak.JJ xs+2)/\Pt.AI XJ<=Ak.Cn xs+4*(i+1)/\UY.length<=ks.length+(i+1)/\Ak.LT ks xs ls m UY XJ:=⟨So,dh,UX,_,_,rfl,FL,jJ,l2,jK,Yw,jL,jM,jN,by lia,by lia,ltI⟩;refine⟨_,rfl,_,rfl,U,_,1,_,rfl,rfl,gZ,CD,a,_,rfl,.inl ⟨kvs,Sum.inr y,vS,rfl,rfl⟩,_,rfl,?_⟩;refine Bx (fun tk=>?_) (fun _=>BE keep);refine⟨_,rfl,_,rfl,U,_,2,_,rfl,rfl,gZ,at2,lz,_,rfl,.inl (.inl vT),rfl,?_,_,rfl,?_⟩
       ·rw[pY,List.all_map];exact List.all_eq_true.mpr fun _ _=>rfl
       refine Bx (fun tl=>?_) (fun _=>keep);obtain⟨v,hv⟩:∃v,M[i]?=some v:=⟨_,yn (by lia)⟩;obtain⟨t,ht,vt⟩:=mf.get hv;have vW:=hR t (yr ht);have e0:(0:Int)+(i:Int)=(i:Int):=by lia
       obtain⟨vX,vY,vZ,g1,g2,g3,g4,g5,g6,g7,g8,_,g9,g10⟩:=R' (y:=y) vt l2 jK Yw;refine⟨_,rfl,_,rfl,D4,_,_,_,rfl,rfl,As.of vV,by rw[e0];exact Av hv,_,rfl,_,rfl,p5,_,rfl,.inl ⟨_,Sum.inr y,jJ,rfl,Aw (by rw[B_ l2];lia),rfl⟩,vX,vY,vZ,_,_,rfl,fun b hb=>by rw[AH hb];exact FL b hb,by rw[AD,g1],g2,g3,g4,fun k hk=>?_,Pt.JU fun u hu=>?_,fun u hu=>?_,by lia,by lia,ltI.put (vO (by lia)) ?_ ?_ g5 g9 g10⟩
       ·rcases g5 k hk with h|rfl
        ·exact jL k h
        ·exact hn.nb _ (yr hy)
       ·rcases g6 u hu with h|rfl
        ·exact Pt.CN jM u h
        ·exact vW.1
       ·rcases g6 u hu with h|rfl
        ·exact jN u h
        ·lia
       ·rw[Vr YR]at tk;simpa using tk
       ·rw[pY]at tl;simp only[Fc]at tl;simpa using tl
      ·rintro σ Hi ⟨So,dh,UX,vP,vQ,rfl,FL,jJ,l2,jK,Yw,jL,jM,jN,mC,ln2,ltI⟩;have vc:l≠p5:=fun z=>by rw[<-z,e2]at QG;cases QG
       have dW:=Yw.length;have ve:=Ce fun u hu=>jN u hu;refine⟨_,rfl,q _ (.Ar So UX) I _ ⟨fun b e n h=>?_,fun b h=>?_⟩ (by rw[FL l vc];exact Zx) (by lia) (.Ar (.inl (by rw[AY mh];exact jJ)) (Bn l2) ?_) ?_ ?_ ?_ ?_⟩
       ·rw[FL b (fun z=>by rw[z,mh]at h;cases h)];exact(L.trans b14).keep b e n h
       ·by_cases hb:b=p5
        ·rw[hb];exact mh
        ·rw[FL b hb]at h;exact(L.trans b14).EC b h
       ·rw[CP l2];exact Yw.up (BB (fun b h=>h) fun b e h1 h2=>by
         have hb:b≠p5:=fun z=>by rw[z,QG]at h2;cases h2
         rw[FL b hb];exact s4 _ _ h2)
       ·simp only[Pt.doc];exact⟨by lia,jK,jL,by lia,jM⟩
       ·simp only[Pt.size,Ak.GO];lia
       ·simp only[Pt.deep,Ak.dp];lia
       ·exact ltI.lets o1 o2
theorem Sq{f:Addr}{e:FuncData}(F:Co K "_law_fit" "_law_fit" Yu f e)(T:Txt mg)(b:Binds K e ["_law_asks_here","_law_cells","_law_names_here"] [])(m:mg "_law_fit"=some (.ref f))(c:Df P w K mg base "_law_mix" ["_law_cell_here","_law_k"] 1 Ea)(d:Df P w K mg base "_law_doc" ["_law_cell_here","_law_k","_law_names_here"] 2 Ga)(a:Df P w K mg base "_law_copy" ["_law_thing"] 22 (GG 22)):∀n:Nat,Au P w K mg base CK n f e ["_law_asks_here","_law_cells","_law_names_here"] (NU n)
 |0=>Iq (fun vs H Q E h=>by obtain⟨_,_,_,_,_,_,_,_,_,g,_⟩:=h;omega)
 |n+1=>cX F T c d a (Df.mk' F b m (Sq F T b m c d a n))
theorem XM:AZ ["_law_asks_here","_law_path","_law_found","_law_k","_law_name"] ["_law_asks_here","_law_path"] (AM Si):={}
theorem ZL(F:Co K "_law_told" "_law_told" Si f fd)(T:Txt mg)(S:Df P w K mg base "_law_told" ["_law_asks_here","_law_path"] n (Hg n)):Au P w K mg base CK (n+1) f fd ["_law_asks_here","_law_path"] (Hg (n+1)):=by
 refine F.oq XM fun Jr A outer s H vs Q E hr h=>?_
 ·obtain⟨G,v,a,p,ks,rfl,O,hv,Ax,hs,iz,hp,hl,mi,q⟩:=h;have nd:=XM.nd;have hu:=BJ hr;refine⟨_,(AB (Ae 2 nd (BD (AX (Ad (AA (pv 1) (AX (pv 0))))))) (AB (Aa (PW.pt (pw_and (AR BC (Br K 0) AU (AV _)) (pw_and1 (BV (Am (Bl:Bh _ _ (Ed K)) rfl T.isinstance Af (AA (Br K 0) (AX (BU (v:=.ty "list") rfl T.list DG rfl)))))))) (AG (LC (Ao rfl T.range (AX (Fv T.len (Br K 0)))) (CJ 3 nd) (AG (Cf (FW PySem.F.plainAttrs_list PySem.F.slot_list_extend PySem.F.type_list_extend ET (pv 2) (AX (BY S hr.mm (AA (Ad (AA AU (AX (FF K (Br K 0) (pv 3))))) (AX (AO ED (pv 1) (Ad (AX (pv 3))))))))))))) AN) (AB (Aa (PW.pt (pw_and (AR BC (Br K 0) AU (AV _)) (pw_and1 (BV (Am (Bl:Bh _ _ (Ed K)) rfl T.isinstance Af (AA (Br K 0) (AX (BU (v:=.ty "dict") rfl T.dict CZ rfl)))))))) (AG (LC (CT (Am (Cu rfl) rfl T.sorted EZ (AX (Br K 0)))) (CJ 4 nd) (AG (Cf (FW PySem.F.plainAttrs_list PySem.F.slot_list_extend PySem.F.type_list_extend ET (pv 2) (AX (BY S hr.mm (AA (Ad (AA AU (AX (LY hu (Br K 0) (pv 4))))) (AX (AO ED (pv 1) (Ad (AX (pv 4))))))))))))) AN) (AB (Aa (AR BC (Br K 0) AU (AV _)) (AG (LC (Ao rfl T.range (AX (Fv T.len (Br K 0)))) (CJ 3 nd) (AG (Cf (FW PySem.F.plainAttrs_list PySem.F.slot_list_extend PySem.F.type_list_extend ET (pv 2) (AX (BY S hr.mm (AA (FF K (Br K 0) (pv 3)) (AX (AO ED (pv 1) (Ad (AX (pv 3))))))))))))) AN) (AB (Aa (AR BC (Br K 0) AU (AV _)) (AG (LC (CT (Am (Cu rfl) rfl T.sorted EZ (AX (Br K 0)))) (CJ 4 nd) (AG (Cf (FW PySem.F.plainAttrs_list PySem.F.slot_list_extend PySem.F.type_list_extend ET (pv 2) (AX (BY S hr.mm (AA (LY hu (Br K 0) (pv 4)) (AX (AO ED (pv 1) (Ad (AX (pv 4))))))))))))) AN) (AG (AQ (pv 2)))))))),?_⟩;obtain⟨g,w0,rest,rfl,Sl,kinds⟩:=hv.ak;have Yv:H p=some (.tup (ks.map kV)):=O _ _ hp;refine⟨_,rfl,_,rfl,Ac,fun pT hT=>⟨BG,fun D hD=>?_⟩⟩;have sT:=AF.new (o:=.tup [.ref p,.ref g]) hT;have fT:upd H pT (.tup [.ref p,.ref g]) pT=some (.tup [.ref p,.ref g]):=AD;generalize upd H pT (.tup [.ref p,.ref g])=H1 at sT fT hD⊢;have vf:pT≠D:=fun z=>by rw[z,hD]at fT;cases fT
  have mq:=AF.new (o:=.lst [.ref pT]) hD;have fD:upd H1 D (.lst [.ref pT]) D=some (.lst [.ref pT]):=AD;have pw:=mq _ _ fT;generalize upd H1 D (.lst [.ref pT])=H2 at mq fD pw⊢;have y:=sT.trans mq;have HD:H D=none:=sT.free hD;have GD:G D=none:=O.free HD;have oG:∀{t:Hp},AF G (Cs D (ov G H t)):=fun b o e=>by
   rw[CI (fun z=>by rw[z,GD]at e;cases e)];exact Dt _ _ e
  have tX:Cs D (ov G H H2) pT=some (.tup [.ref p,.ref g]):=by rw[CI vf,Fo O hT];exact pw
  have T0:Fp (K:=K) G H a ks D [.ref pT] [] H2:=⟨y,fD,by simp,fun w hw=>by rw[List.mem_singleton.mp hw];exact⟨pT,p,.ref g,[],a,rfl,tX,by rw[List.append_nil];exact oG _ _ hp,rfl,hv.up oG⟩,fun r b _ h=>by
   cases r with
   |nil=>exact⟨_,List.mem_singleton.mpr rfl,pT,p,_,rfl,tX,by rw[List.append_nil];exact oG _ _ hp⟩
   |cons k r=>exact nomatch h k r rfl⟩
  have l:∀{t:Hp},AF H t->Bg K t g (.str w0::rest):=fun s=>Sl.up (O.trans s);dsimp only[CA];have fin:∀(I:List V)(dn:List Key)(t:Hp),Fp (K:=K) G H a ks D I dn t->I.length<=a.wt->(∀k b,a.Dj k=some b->k∈dn)->Q (.ref D) t:=fun I dn t T lw hd=>q D I t T.si HD T.hD T.ne lw (fun w hw=>(T.ta w hw).up Bs) fun r b e=>(T.cv r b e fun k r' z=>by
   subst z;simp only[Ak.sub]at e;cases h:a.Dj k with
   |none=>rw[h]at e;cases e
   |some c=>exact hd k c h).up Bs fun _ m=>m
  have yK:=Ak.bN a;have ZM:∀{k:Key}{b:Ak},a.Dj k=some b->b.CF/\b.Hu/\ks.length+1+b.dp<=100/\b.dp+3<=n:=fun e=>by
   obtain⟨bG,U,bw,bd⟩:=Ak.RF Ax hs e;exact⟨bG,U,by lia,by lia⟩
  rcases kinds with⟨rfl,rfl,rfl⟩|⟨d,u,rfl,rfl,rfl,LA⟩|⟨xs,m,u,rfl,rfl,rfl,LA⟩|⟨ns,xs,ls,m,u,z,rfl,rfl,rfl,LA,hz⟩
  ·refine⟨_,rfl,g,_,0,_,rfl,rfl,l y,B',rfl,_,rfl,BO (BE ?_)⟩;refine⟨_,rfl,g,_,0,_,rfl,rfl,l y,B',rfl,_,rfl,BO (BE ?_)⟩;refine⟨_,rfl,g,_,0,_,rfl,rfl,l y,B',rfl,_,rfl,BO ?_⟩;refine⟨_,rfl,g,_,0,_,rfl,rfl,l y,B',rfl,_,rfl,BO ?_⟩;exact⟨_,rfl,fin _ _ _ T0 (by simp;lia) fun k b z=>by cases k<;>cases z⟩
  ·have J:=iz;simp only[Ak.wt]at J;have XN:d.doc:=Ax;have sj:∀{t:Hp}{x:V}{e:Pt}{pj:Addr},AF H t->t D≠none->t pj=none->Val G x e->Val (Cs D (ov G H (upd t pj (.tup [.str "just",x])))) (.ref pj) (Ak.Ag e).pt:=fun{t x e pj} s hd hj vx=>.tup (.of (by rw[CI (fun z=>hd (by rw[<-z];exact hj)),Fo O (s.free hj),AD])) (.cons (.str _) (.cons (vx.up oG) .nil));refine⟨_,rfl,g,_,0,_,rfl,rfl,l y,B',rfl,_,rfl,DB ?_⟩;refine⟨_,rfl,g,_,1,_,rfl,rfl,l y,CD,_,"list",_,rfl,rfl,(LA.up (O.trans y)).ty,_,rfl,?_⟩;cases LA with
   |@lst a1 M R C r1=>
    refine Cv rfl ?_;have ZN:M.length=(R.map Ak.Ag).length:=by rw[List.length_map];exact r1.length
    have lt:=Pt.Cr R;simp only[Pt.size]at J;have l2:(R.map Ak.Ag).length=R.length:=by rw[List.length_map]
    have wj:=Ak.Kh (xs:=R);have cg:∀(i:Nat) x,M[i]?=some x->∃b,(R.map Ak.Ag)[i]?=some b/\∃e,b=.Ag e/\Val G x e:=fun i x N=>by
     obtain⟨e,h1,h2⟩:=r1.get N;exact⟨.Ag e,by rw[List.getElem?_map,h1];rfl,e,rfl,h2⟩
    have mu:∀(i:Nat) b,(R.map Ak.Ag)[i]?=some b->(Ak.Ag (.lst R)).Dj (.inl (i:Int))=some b:=fun i b h=>by
     simp only[Ak.Dj,Pt.Fn,if_pos (Int.natCast_nonneg i),Int.toNat_natCast];rw[List.getElem?_map]at h;exact h
    refine⟨_,rfl,g,_,1,_,rfl,rfl,l y,CD,a1,_,rfl,.inl (.inl (C.up ((O.trans y) _))),M.length,rfl,by lia,by lia,?_⟩;refine CU (lo:=0) (n:=M.length) (fun i σ t=>∃(I:List V)(o:Option V),σ=[some (.ref g),some (.ref p),some (.ref D),o,none]/\Fp (K:=K) G H (.Ag (.lst R)) ks D I (Ak.nK i) t/\I.length<=1+Ak.Ee ((R.map Ak.Ag).take i)) ⟨_,_,rfl,T0,by simp⟩ ?_ ?_
    ·rintro i σ t hi ⟨I,o,rfl,T,lw⟩;have e0:(0:Int)+(i:Int)=(i:Int):=by lia
     rw[e0];obtain⟨x,N⟩:∃x,M[i]?=some x:=⟨_,yn hi⟩;obtain⟨b,Y,vx⟩:=cg i x N;have eb:=mu i b Y;obtain⟨bG,U,bl,bd⟩:=ZM eb;obtain⟨z1,z2⟩:=Ak.Hd Y;dsimp only[CA];obtain⟨e,rfl,vx⟩:=vx;have nD:t D≠none:=by rw[T.hD];exact fun z=>nomatch z
     refine⟨_,rfl,.inl ⟨rfl,_,As.of T.hD⟩,_,rfl,g,_,1,_,rfl,rfl,l T.si,CD,_,rfl,a1,_,_,_,rfl,rfl,.inl (C.up ((O.trans T.si) _)),Av N,Ac,fun pj di=>⟨_,rfl,_,rfl,BG,fun pk UZ=>Hh (k:=.inl (i:Int)) O HD hp T eb (AF.new di) (sj T.si nD di vx) bG U bl bd UZ (by lia) fun H8 cj T' l' keep=>⟨cj,_,rfl,by rw[Ak.SO];exact T',by lia⟩⟩⟩
    ·rintro σ t ⟨I,o,rfl,T,lw⟩;rw[ZN,List.take_length]at lw;refine⟨_,rfl,g,_,0,_,rfl,rfl,l T.si,B',rfl,_,rfl,DB ?_⟩;refine⟨_,rfl,g,_,1,_,rfl,rfl,l T.si,CD,_,"dict","list",rfl,rfl,.n (.lst (C.up ((O.trans T.si) _))),_,rfl,BF rfl ?_⟩;refine⟨_,rfl,g,_,0,_,rfl,rfl,l T.si,B',rfl,_,rfl,BO ?_⟩;refine⟨_,rfl,g,_,0,_,rfl,rfl,l T.si,B',rfl,_,rfl,BO ?_⟩;exact⟨_,rfl,fin _ _ _ T (by simp only[Ak.wt,Pt.size];lia) (by rw[ZN];exact(Ak.Zo.list (xs:=R.map Ak.Ag) (by simp only[Ak.wt,Pt.size];lia) (fun i=>by simp only[Ak.Dj,Pt.Fn];split<;>simp) fun x=>rfl).c)⟩
   |@Ar a1 B ns R C Nq r1=>
    refine BF rfl ?_;simp only[Pt.doc]at XN;obtain⟨ol,XO,_,o4,_⟩:=XN;have kl:B.length=ns.length:=by have:=congrArg List.length Nq;simpa using this
    have lt:=Pt.Cr R;simp only[Pt.size]at J;have wj:=Ak.Kh (xs:=R);refine⟨_,rfl,g,_,0,_,rfl,rfl,l y,B',rfl,_,rfl,DB ?_⟩;refine⟨_,rfl,g,_,1,_,rfl,rfl,l y,CD,_,"dict","dict",rfl,rfl,.n (.dK (C.up ((O.trans y) _))),_,rfl,Cv rfl ?_⟩;refine⟨_,rfl,g,_,1,_,rfl,rfl,l y,CD,a1,B,ns,rfl,C.up ((O.trans y) _),Nq,by lia,fun L ss H3 nL s3 fL pm st=>?_⟩;obtain⟨as,X⟩:=GZ (xs:=R.map Ak.Ag) (by rw[List.length_map];exact ol) (ss:=ss) fun k hk=>pm.mem_iff.mp hk;have hX:ss.length=as.length:=by have:=congrArg List.length X;simpa using this
    have jI:=Ak.HV (CV (by rw[List.length_map];exact ol) XO pm X);have LD:L≠D:=fun z=>by rw[z,fD]at nL;cases nL
    have cg:∀(i:Nat) nm,ss[i]?=some nm->∃w b,as[i]?=some b/\BQ B (Sum.inr nm)=some w/\(∃e,b=.Ag e/\Val G w e)/\(Ak.Ag (.Ar ns R)).Dj (.inr nm)=some b:=fun i nm h=>by
     obtain⟨b,Y⟩:∃b,as[i]?=some b:=⟨_,yn (by have:=(yo h).1;lia)⟩;have e1:lk ns (R.map Ak.Ag) nm=some b:=by
      have:=congrArg (fun z=>z[i]?) X;simp only[List.getElem?_map,h,Y]at this;exact yq this
     rw[Ds]at e1;rcases Val.Dd Nq r1 nm with⟨w,tx,k1,Z,vx⟩|⟨_,Z⟩
     ·have Z:lk ns R nm=some tx:=Z;rw[Z]at e1;cases e1;exact⟨w,_,Y,k1,⟨tx,rfl,vx⟩,by simp only[Ak.Dj,Pt.Fn];rw[Z];rfl⟩
     ·have Z:lk ns R nm=none:=Z;rw[Z]at e1;cases e1
    refine⟨L,rfl,⟨_,As.of fL⟩,Dl (K:=K) (xs:=ss.map V.str) (fun i σ t=>∃(I:List V)(o:Option V),σ=[some (.ref g),some (.ref p),some (.ref D),none,o]/\t L=some (.lst (ss.map V.str))/\Fp (K:=K) G H (.Ag (.Ar ns R)) ks D I ((ss.take i).map Sum.inr) t/\I.length<=1+Ak.Ee (as.take i)) ⟨_,_,rfl,fL,T0.up s3,by simp⟩ (fun i σ t _ ⟨_,_,_,h,_⟩=>As.of h) ?_ ?_⟩
    ·rintro i x σ t N ⟨I,o,rfl,hL,T,lw⟩;rw[List.getElem?_map]at N;cases hk:ss[i]? with
     |none=>rw[hk]at N;cases N
     |some nm=>
      rw[hk]at N;cases N;obtain⟨w,b,Y,k1,vx,eb⟩:=cg i nm hk;obtain⟨bG,U,bl,bd⟩:=ZM eb;obtain⟨z1,z2⟩:=Ak.Hd Y;dsimp only[CA];obtain⟨e,rfl,vx⟩:=vx;have nD:t D≠none:=by rw[T.hD];exact fun z=>nomatch z
      refine⟨_,rfl,.inl ⟨rfl,_,As.of T.hD⟩,_,rfl,g,_,1,_,rfl,rfl,l T.si,CD,_,rfl,a1,w,rfl,.inl ⟨B,Sum.inr nm,C.up ((O.trans T.si) _),rfl,k1.symm⟩,Ac,fun pj di=>⟨_,rfl,_,rfl,BG,fun pk UZ=>Hh (k:=.inr nm) O HD hp T eb (AF.new di) (sj T.si nD di vx) bG U bl bd UZ (by lia) fun H8 cj T' l' keep=>⟨cj,_,rfl,keep _ _ LD ((AF.new di) _ _ hL),by rw[List.take_add_one,hk,List.map_append];exact T',by lia⟩⟩⟩
    ·rintro σ t ⟨I,o,rfl,hL,T,lw⟩;rw[List.length_map,hX,List.take_length]at lw;refine⟨_,rfl,g,_,0,_,rfl,rfl,l T.si,B',rfl,_,rfl,BO ?_⟩;refine⟨_,rfl,g,_,0,_,rfl,rfl,l T.si,B',rfl,_,rfl,BO ?_⟩;exact⟨_,rfl,fin _ _ _ T (by simp only[Ak.wt,Pt.size];lia) (by rw[List.length_map,List.take_length];exact(Ak.Zo.gE (by rw[List.length_map];exact ol) XO (by simp only[Ak.wt,Pt.size];lia) pm X (fun x=>by simp only[Ak.Dj,Pt.Fn,Ds]) fun i=>rfl).c)⟩
   |int j=>
    refine BF rfl ?_;refine⟨_,rfl,g,_,0,_,rfl,rfl,l y,B',rfl,_,rfl,DB ?_⟩;refine⟨_,rfl,g,_,1,_,rfl,rfl,l y,CD,_,"dict","int",rfl,rfl,.n (.int j),_,rfl,BF rfl ?_⟩;refine⟨_,rfl,g,_,0,_,rfl,rfl,l y,B',rfl,_,rfl,BO ?_⟩;refine⟨_,rfl,g,_,0,_,rfl,rfl,l y,B',rfl,_,rfl,BO ?_⟩;exact⟨_,rfl,fin _ _ _ T0 (by simp;lia) fun k b z=>by cases k<;>cases z⟩
   |str j=>
    refine BF rfl ?_;refine⟨_,rfl,g,_,0,_,rfl,rfl,l y,B',rfl,_,rfl,DB ?_⟩;refine⟨_,rfl,g,_,1,_,rfl,rfl,l y,CD,_,"dict","str",rfl,rfl,.n (.str j),_,rfl,BF rfl ?_⟩;refine⟨_,rfl,g,_,0,_,rfl,rfl,l y,B',rfl,_,rfl,BO ?_⟩;refine⟨_,rfl,g,_,0,_,rfl,rfl,l y,B',rfl,_,rfl,BO ?_⟩;exact⟨_,rfl,fin _ _ _ T0 (by simp;lia) fun k b z=>by cases k<;>cases z⟩
   |bl j=>simp[Pt.doc]at XN
   |Ah=>simp[Pt.doc]at XN
   |tup _ _=>simp[Pt.doc]at XN
  ·refine⟨_,rfl,g,_,0,_,rfl,rfl,l y,B',rfl,_,rfl,BO (BE ?_)⟩;refine⟨_,rfl,g,_,0,_,rfl,rfl,l y,B',rfl,_,rfl,BO (BE ?_)⟩;refine⟨_,rfl,g,_,0,_,rfl,rfl,l y,B',rfl,_,rfl,DB ?_⟩;obtain⟨a1,M,rfl,C,r1⟩:=LA.KJ;have ZN:M.length=xs.length:=by rw[r1.length,Ak.AW,List.length_map]
   have l1:=Ak.Cr xs;have l2:=Ak.C_ xs;have J:=iz;simp only[Ak.wt]at J;have cg:∀(i:Nat) x,M[i]?=some x->∃b,xs[i]?=some b/\Val G x b.pt:=fun i x N=>by
    obtain⟨e,h1,h2⟩:=r1.get N;rw[Ak.AW,List.getElem?_map]at h1;cases Y:xs[i]? with
    |none=>rw[Y]at h1;cases h1
    |some b=>rw[Y]at h1;cases h1;exact⟨b,rfl,h2⟩
   have mu:∀(i:Nat) b,xs[i]?=some b->(Ak.row xs m).Dj (.inl (i:Int))=some b:=fun i b h=>by
    simp only[Ak.Dj,if_pos (Int.natCast_nonneg i),Int.toNat_natCast];exact h
   refine⟨_,rfl,g,_,1,_,rfl,rfl,l y,CD,a1,_,rfl,.inl (.inl (C.up ((O.trans y) _))),M.length,rfl,by lia,by lia,?_⟩;refine CU (lo:=0) (n:=M.length) (fun i σ t=>∃(I:List V)(o:Option V),σ=[some (.ref g),some (.ref p),some (.ref D),o,none]/\Fp (K:=K) G H (.row xs m) ks D I (Ak.nK i) t/\I.length<=1+Ak.Ee (xs.take i)) ⟨_,_,rfl,T0,by simp⟩ ?_ ?_
   ·rintro i σ t hi ⟨I,o,rfl,T,lw⟩;have e0:(0:Int)+(i:Int)=(i:Int):=by lia
    rw[e0];obtain⟨x,N⟩:∃x,M[i]?=some x:=⟨_,yn hi⟩;obtain⟨b,Y,vx⟩:=cg i x N;have eb:=mu i b Y;obtain⟨bG,U,bl,bd⟩:=ZM eb;obtain⟨z1,z2⟩:=Ak.Hd Y;dsimp only[CA];refine⟨_,rfl,.inl ⟨rfl,_,As.of T.hD⟩,_,rfl,g,_,1,_,rfl,rfl,l T.si,CD,_,rfl,a1,_,_,_,rfl,rfl,.inl (C.up ((O.trans T.si) _)),Av N,_,rfl,_,rfl,BG,fun pk UZ=>Hh (k:=.inl (i:Int)) O HD hp T eb (AF.refl _) (vx.up oG) bG U bl bd UZ (by lia) fun H8 cj T' l' keep=>⟨cj,_,rfl,by rw[Ak.SO];exact T',by lia⟩⟩
   ·rintro σ t ⟨I,o,rfl,T,lw⟩;rw[ZN,List.take_length]at lw;refine⟨_,rfl,g,_,0,_,rfl,rfl,l T.si,B',rfl,_,rfl,BO ?_⟩;exact⟨_,rfl,fin _ _ _ T (by simp only[Ak.wt];lia) (by rw[ZN];exact(Ak.Zo.list (by simp only[Ak.wt];lia) (fun i=>rfl) fun x=>rfl).c)⟩
  ·refine⟨_,rfl,g,_,0,_,rfl,rfl,l y,B',rfl,_,rfl,BO (BE ?_)⟩;refine⟨_,rfl,g,_,0,_,rfl,rfl,l y,B',rfl,_,rfl,BO (BE ?_)⟩;refine⟨_,rfl,g,_,0,_,rfl,rfl,l y,B',rfl,_,rfl,BO ?_⟩;refine⟨_,rfl,g,_,0,_,rfl,rfl,l y,B',rfl,_,rfl,DB ?_⟩;have J:=iz;simp only[Ak.wt]at J;have hY:=Ax;simp only[Ak.CF]at hY;obtain⟨ol,XO,_,o4,_⟩:=hY;obtain⟨a1,B,rfl,C,Nq,r1⟩:=LA.Oj;have kl:B.length=ns.length:=by have:=congrArg List.length Nq;simpa using this
   refine⟨_,rfl,g,_,1,_,rfl,rfl,l y,CD,a1,B,ns,rfl,C.up ((O.trans y) _),Nq,by lia,fun L ss H3 nL s3 fL pm st=>?_⟩;obtain⟨as,X⟩:=GZ (xs:=xs) ol (ss:=ss) fun k hk=>pm.mem_iff.mp hk;have hX:ss.length=as.length:=by have:=congrArg List.length X;simpa using this
   have jI:=Ak.HV (CV ol XO pm X);have LD:L≠D:=fun z=>by rw[z,fD]at nL;cases nL
   have cg:∀(i:Nat) nm,ss[i]?=some nm->∃w b,as[i]?=some b/\BQ B (Sum.inr nm)=some w/\Val G w b.pt/\(Ak.tab ns xs ls m).Dj (.inr nm)=some b:=fun i nm h=>by
    obtain⟨b,Y⟩:∃b,as[i]?=some b:=⟨_,yn (by have:=(yo h).1;lia)⟩;have e1:lk ns xs nm=some b:=by
     have:=congrArg (fun z=>z[i]?) X;simp only[List.getElem?_map,h,Y]at this;exact yq this
    rcases Val.Dd Nq r1 nm with⟨w,tx,k1,Z,vx⟩|⟨_,Z⟩
    ·have Z:lk ns (Ak.CO xs) nm=some tx:=Z;rw[Ak.AW,Ds,e1]at Z;cases Z;exact⟨w,b,Y,k1,vx,e1⟩
    ·have Z:lk ns (Ak.CO xs) nm=none:=Z;rw[Ak.AW,Ds,e1]at Z;cases Z
   refine⟨L,rfl,⟨_,As.of fL⟩,Dl (K:=K) (xs:=ss.map V.str) (fun i σ t=>∃(I:List V)(o:Option V),σ=[some (.ref g),some (.ref p),some (.ref D),none,o]/\t L=some (.lst (ss.map V.str))/\Fp (K:=K) G H (.tab ns xs ls m) ks D I ((ss.take i).map Sum.inr) t/\I.length<=1+Ak.Ee (as.take i)) ⟨_,_,rfl,fL,T0.up s3,by simp⟩ (fun i σ t _ ⟨_,_,_,h,_⟩=>As.of h) ?_ ?_⟩
   ·rintro i x σ t N ⟨I,o,rfl,hL,T,lw⟩;rw[List.getElem?_map]at N;cases hk:ss[i]? with
    |none=>rw[hk]at N;cases N
    |some nm=>
     rw[hk]at N;cases N;obtain⟨w,b,Y,k1,vx,eb⟩:=cg i nm hk;obtain⟨bG,U,bl,bd⟩:=ZM eb;obtain⟨z1,z2⟩:=Ak.Hd Y;dsimp only[CA];refine⟨_,rfl,.inl ⟨rfl,_,As.of T.hD⟩,_,rfl,g,_,1,_,rfl,rfl,l T.si,CD,_,rfl,a1,w,rfl,.inl ⟨B,Sum.inr nm,C.up ((O.trans T.si) _),rfl,k1.symm⟩,_,rfl,_,rfl,BG,fun pk UZ=>Hh (k:=.inr nm) O HD hp T eb (AF.refl _) (vx.up oG) bG U bl bd UZ (by lia) fun H8 cj T' l' keep=>⟨cj,_,rfl,keep _ _ LD hL,by rw[List.take_add_one,hk,List.map_append];exact T',by lia⟩⟩
   ·rintro σ t ⟨I,o,rfl,hL,T,lw⟩;rw[List.length_map,hX,List.take_length]at lw;exact⟨_,rfl,fin _ _ _ T (by simp only[Ak.wt];lia) (by rw[List.length_map,List.take_length];exact(Ak.Zo.gE ol XO (by simp only[Ak.wt];lia) pm X (fun x=>rfl) fun i=>rfl).c)⟩
theorem QB{f:Addr}{a:FuncData}(F:Co K "_law_told" "_law_told" Si f a)(T:Txt mg)(b:Binds K a ["_law_asks_here","_law_path"] [])(m:mg "_law_told"=some (.ref f)):∀n:Nat,Au P w K mg base CK n f a ["_law_asks_here","_law_path"] (Hg n)
 |0=>Iq (fun vs H Q E h=>by obtain⟨_,_,_,_,_,_,_,_,_,_,_,_,_,c,_⟩:=h;omega)
 |n+1=>ZL F T (Df.mk' F b m (QB F T b m n))
theorem Zz:AZ ["_law_path","_law_there","_law_names_here"] ["_law_path","_law_there"] (AM cG):={}
theorem ck(F:Co K "_law_out" "_law_out" cG f fd)(T:Txt mg):Au P w K mg base CK 2 f fd ["_law_path","_law_there"] RK:=by
 refine F.oq Zz fun Jr A outer s H vs Q E hr h=>?_
 ·obtain⟨G,p,u,A,b,X,rfl,sG,hA,hp,M,vh,q⟩:=h;have nd:=Zz.nd;have hu:=BJ hr;refine⟨_,(AB (Aa (AR BC (Br K 1) AU (AV _)) (AG (AQ (Ad (AA AU (AA (cmp ["_law_path"] [0] (Ao rfl T.range (AX (Fv T.len (Br K 1)))) fun _ _ _ _=>(Ad (AA AU (AX (AO ED (pv 1) (Ad (AX (pv 0)))))))) (AX (FF K (BD (AA CW (AX (pv 0)))) (A' Fx rfl T.int Rv (AX (Br K 1)))))))))) AN) (AB (Aa (AR BC (Br K 1) AU (AV _)) (AB (Ae 2 nd (A' (CB rfl) rfl T.dict CZ (AX (cmp ["_law_path"] [0] (bW rfl T.reversed Qg (AX (Am (Cu rfl) rfl T.sorted EZ (AX (Br K 1))))) fun _ _ _ _=>(Ad (AA (pv 0) (AX (Ad (AA AU (AX (AO ED (pv 1) (Ad (AX (pv 0)))))))))))))) (AG (AQ (Ad (AA AU (AA (pv 2) (AX (FF K (BD (AA CW (AX (pv 0)))) (A' Fx rfl T.int Rv (AX (Br K 1))))))))))) AN) (AB (Aa (PW.pt (pw_and (AR BC (Br K 1) AU (AV _)) (pw_and1 (BV (Am (Bl:Bh _ _ (Ed K)) rfl T.isinstance Af (AA (Br K 1) (AX (BU (v:=.ty "list") rfl T.list DG rfl)))))))) (AG (AQ (Ad (AA AU (AA (cmp ["_law_path"] [0] (Ao rfl T.range (AX (Fv T.len (Br K 1)))) fun _ _ _ _=>(Ad (AA AU (AX (AO ED (pv 1) (Ad (AX (pv 0)))))))) (AX CW)))))) AN) (AB (Aa (PW.pt (pw_and (AR BC (Br K 1) AU (AV _)) (pw_and1 (BV (Am (Bl:Bh _ _ (Ed K)) rfl T.isinstance Af (AA (Br K 1) (AX (BU (v:=.ty "dict") rfl T.dict CZ rfl)))))))) (AG (AQ (Ad (AA AU (AA (A' (CB rfl) rfl T.dict CZ (AX (Mo (cmp ["_law_there"] [1] (F' (Br K 1)) fun _ _ _ _=>(Ad (AA (pv 0) (AX (Ad (AA AU (AX (LY hu (Br K 1) (pv 0)))))))))))) (AX CW)))))) AN) (AG (AQ (Ad (AA AU (AX (pv 0)))))))))),?_⟩;obtain⟨l20,dq,p_,cm,jO⟩:=hA.len M;obtain⟨C,w0,rest,rfl,Sl,kinds⟩:=vh.ak;have B:=Sl.up sG;have gx:H p=some (.tup (X.map kV)):=sG _ _ hp;have dG:∀b,H b=none->G b=none:=fun b h=>sG.free h;have oG:∀{H':Hp},AF G (ov G H H'):=Dt;have Ua:(∀xs mm,b≠.row xs mm)->∀t,H t=none->Q (.ref t) (upd H t (.tup [.str "from",.ref p])):=fun nr t h=>by
   refine q _ (.IX X) _ (AF.new h) ⟨.tup (.of (by rw[Fo sG h,AD])) (.cons (.str _) (.cons (Ej (.of (oG _ _ hp))) .nil)),by simp only[AL.ok];lia,by simp only[AL.good];rw[M];rfl,by simp only[AL.size];lia,by simp only[AL.deep];lia⟩ (fun xs mm e=>absurd e (nr xs mm))
  rcases kinds with⟨rfl,rfl,rfl⟩|⟨d,u,rfl,rfl,rfl,LA⟩|⟨xs,m,u,rfl,rfl,rfl,LA⟩|⟨Z,xs,ls,m,u,z,rfl,rfl,rfl,LA,hz⟩
  ·refine⟨_,rfl,C,_,0,_,rfl,rfl,B,B',rfl,_,rfl,BO ?_⟩;refine⟨_,rfl,C,_,0,_,rfl,rfl,B,B',rfl,_,rfl,BO ?_⟩;refine⟨_,rfl,C,_,0,_,rfl,rfl,B,B',rfl,_,rfl,BO (BE ?_)⟩;refine⟨_,rfl,C,_,0,_,rfl,rfl,B,B',rfl,_,rfl,BO (BE ?_)⟩;exact⟨_,rfl,Ac,Ua (fun _ _ e=>nomatch e)⟩
  ·refine⟨_,rfl,C,_,0,_,rfl,rfl,B,B',rfl,_,rfl,BO ?_⟩;refine⟨_,rfl,C,_,0,_,rfl,rfl,B,B',rfl,_,rfl,BO ?_⟩;refine⟨_,rfl,C,_,0,_,rfl,rfl,B,B',rfl,_,rfl,DB ?_⟩;refine⟨_,rfl,C,_,1,_,rfl,rfl,B,CD,_,"list",_,rfl,rfl,(LA.up sG).ty,_,rfl,?_⟩;have XN:d.doc:=dq;simp only[Ak.wt]at cm;simp only[Ak.dp]at jO;cases LA with
   |int j=>
    refine BF rfl ⟨_,rfl,C,_,0,_,rfl,rfl,B,B',rfl,_,rfl,DB ?_⟩;exact⟨_,rfl,C,_,1,_,rfl,rfl,B,CD,_,"dict","int",rfl,rfl,.n (.int j),_,rfl,BF rfl ⟨_,rfl,Ac,Ua (fun _ _ e=>nomatch e)⟩⟩
   |str j=>
    refine BF rfl ⟨_,rfl,C,_,0,_,rfl,rfl,B,B',rfl,_,rfl,DB ?_⟩;exact⟨_,rfl,C,_,1,_,rfl,rfl,B,CD,_,"dict","str",rfl,rfl,.n (.str j),_,rfl,BF rfl ⟨_,rfl,Ac,Ua (fun _ _ e=>nomatch e)⟩⟩
   |bl j=>simp[Pt.doc]at XN
   |Ah=>simp[Pt.doc]at XN
   |tup _ _=>simp[Pt.doc]at XN
   |@lst a1 I ts Ud r1=>
    refine Cv rfl ?_;have ZN:=r1.length;have lt:=Pt.Cr ts;simp only[Pt.size]at cm;refine⟨_,rfl,C,_,1,_,rfl,rfl,B,CD,a1,_,rfl,.inl (.inl (Ud.up (sG _))),I.length,rfl,by lia,by lia,?_⟩;rw[Int.toNat_natCast];refine Jd G none I.length (fun i=>.int (0+(i:Int))) (fun i c a=>c=(List.range i).map fun j=>(AL.IX (X++[.inl (j:Int)])).pt) (by lia) (fun D hD=>rfl) (fun i c a D Y S hD g=>g) (fun l z=>nomatch z) (fun i c a U s g=>U) (fun i c a v H' U s g y=>⟨y.2,y.1⟩) (fun c a s g=>Nat.le_refl _) (fun i c a R U S g lu k=>?_) (fun D a Y c hD S d2 lu vl g=>?_)
    ·have s3:=S.same;have e0:(0:Int)+(i:Int)=(i:Int):=by lia
     rw[e0];refine⟨_,rfl,_,rfl,BG,fun pk UZ=>Kj (k:=.inl (i:Int)) (fun b h=>dG b (s3.free h)) (s3 _ _ gx) (by lia) UZ fun t H4 s4 nt v4=>k _ _ H4 (.of s4) v4 ?_⟩;rw[g,List.range_succ,List.map_append];rfl
    ·have s3:=S.same;have cn:c=AL.CO (AL.Fs X ((List.range I.length).map fun(j:Nat)=>(Sum.inl (j:Int):Key))):=by
      rw[g,AL.AW];unfold AL.Fs;rw[List.map_map,List.map_map];rfl
     rw[cn]at vl;generalize N:(List.range I.length).map (fun(j:Nat)=>(Sum.inl (j:Int):Key))=keys at vl;have lk:keys.length=I.length:=by rw[<-N,List.length_map,List.length_range]
     have my:∀k∈keys,((Ak.Ag (.lst ts)).Dj k).isSome=true:=fun k hk=>by
      rw[<-N]at hk;obtain⟨j,hj,rfl⟩:=List.mem_map.mp hk;have hj:=List.mem_range.mp hj;simp only[Ak.Dj,Pt.Fn,if_pos (Int.natCast_nonneg j),Int.toNat_natCast];rw[yn (by lia)];rfl
     refine⟨Fu,fun t Xe=>?_⟩;refine q _ (.row (AL.Fs X keys) none) _ (s3.trans (AF.new Xe)) ⟨RI sG (fun b h=>s3.free h) hD d2 vl .Ah Xe,?_,?_,?_,?_⟩ (fun h_ mm e=>nomatch e)
     ·simp only[AL.ok];exact⟨by rw[AL.Ho];lia,trivial,AL.NI (by lia)⟩
     ·simp only[AL.good,Bool.and_eq_true];exact⟨rfl,AL.Ia M my⟩
     ·simp only[AL.size];rw[AL.GN];lia
     ·simp only[AL.deep];have:=AL.Ib X keys;lia
   |@Ar a1 O Z ts Ud Nq r1=>
    refine BF rfl ⟨_,rfl,C,_,0,_,rfl,rfl,B,B',rfl,_,rfl,DB ?_⟩;refine⟨_,rfl,C,_,1,_,rfl,rfl,B,CD,_,"dict","dict",rfl,rfl,.n (.dK (Ud.up (sG _))),_,rfl,Cv rfl ?_⟩;simp only[Pt.doc]at XN;obtain⟨ol,XO,yL,o4,vi⟩:=XN;have kl:O.length=Z.length:=by have:=congrArg List.length Nq;simpa using this
    have lt:=Pt.Cr ts;simp only[Pt.size]at cm;simp only[Pt.deep]at jO;have iA:=Ud.up (sG _);refine⟨a1,O,iA,fun o Hf F=>⟨_,rfl,C,_,1,_,rfl,rfl,Bg.Lr B (.Ba F),CD,a1,o,O,rfl,F.at_,?_⟩⟩;refine Ki G none Z.length (fun i=>.str (Z.getD i "")) Z (fun i c a=>c=(ts.take i).map fun e=>(AL.JL e).pt) (by lia) (fun D hD=>rfl) (fun i c a D e S hD g=>g) (fun l z=>nomatch z) (fun i c a U s g=>⟨s.same _ _ F.at_,by rw[kl];exact U⟩) (fun i c a v H' U s g y=>?_) (fun c a s g=>⟨s.same _ _ F.at_,kl.symm⟩) (fun i c a R U S g lu k=>?_) (fun D a qs Y c hD S d2 lq lu tt vl g=>?_)
    ·obtain⟨e,k,w',e1,e2⟩:=y;rw[(Qp Nq e1).2]at e2;exact⟨e2,e⟩
    ·obtain⟨x,e,g1,g2,g3⟩:=Mx Nq r1 XO (i:=i) (by lia);have mL:FH H a:=F.rd.trans S.same.r;have jP:Bg K a C [.str "just",.ref a1]:=Bg.Lr B ((GB.Ba F).trans (.of S.same));refine⟨_,rfl,_,rfl,C,_,1,_,rfl,rfl,jP,CD,_,rfl,a1,x,rfl,.inl ⟨O,Sum.inr (Z.getD i ""),mL a1 _ iA,rfl,g1.symm⟩,Ac,fun tj m_=>⟨Ac,fun t2 QA=>k (.ref tj) (AL.JL e).pt _ t2 (.of (AF.new m_)) (.tup (.of ?_) (.cons (.str _) (.cons (g3.up Dt) .nil))) ?_ QA⟩⟩
     ·have n0:H tj=none:=(F.free (S.same.free m_)).1;unfold ov;rw[dG tj n0];show nw a _ tj=_;rw[AY m_,AD]
     ·rw[g,List.take_add_one,g2,List.map_append];rfl
    ·refine⟨S.same _ _ F.at_,?_⟩;rw[<-ol.symm.trans rfl,List.take_length]at g;have cn:c=AL.CO (ts.map AL.JL):=by rw[g,AL.AW,List.map_map];rfl
     have sb:=F.back S.same;have ba:∀b,b≠a1->back a1 H a b=a b:=fun b hb=>Cy hb;have Da:D≠a1:=(F.free hD).2;have lw:=vl.length;have el:Z.length=Y.length:=by lia
     refine⟨D,qs,Cb Z Y,rfl,As.of (by rw[ba D Da];exact d2),by rw[B_ el];lia,fun j k v e=>?_,by rw[B_ el];lia,fun pd cp=>?_⟩
     ·obtain⟨x,h1,h2,h3⟩:=HQ e;obtain⟨t,B⟩:∃t,qs[j]?=some t:=⟨_,yn (by have:=(yo h1).1;lia)⟩;obtain⟨g2,g3⟩:=tt j t v B h2;refine⟨t,B,?_⟩;rw[ba t (F.free g3).2,g2,h3,List.getD_eq_getElem?_getD,h1];rfl
     rw[Di el XO];have Zt:H pd=none:=sb.free cp;have s4:=sb.trans (AF.new (o:=.dK (Cb Z Y)) cp);have f4:upd (back a1 H a) pd (.dK (Cb Z Y)) pd=some (.dK (Cb Z Y)):=AD;have XI:AS (ov G H (upd (back a1 H a) pd (.dK (Cb Z Y)))) Y c:=vl.up (BL (fun b h=>(F.free h).1) fun b e h1 h2=>by
      have hb:=(F.free h1).2;have nb:b≠pd:=fun z=>by rw[z]at h2 hb;rw[ba pd hb,h2]at cp;cases cp
      rw[AH nb,ba b hb];exact h2)
     generalize upd (back a1 H a) pd (.dK (Cb Z Y))=H4 at s4 f4 XI⊢;rw[cn]at XI;refine⟨Fu,fun t Xe=>?_⟩;refine q _ (.tab Z (ts.map AL.JL) none) _ (s4.trans (AF.new Xe)) ⟨RJ sG (fun b h=>s4.free h) Zt el f4 XI .Ah Xe,?_,?_,?_,?_⟩ (fun h_ mm e=>nomatch e)
     ·simp only[AL.ok];refine⟨by rw[List.length_map];exact ol,XO,o4,trivial,AL.Fe fun x hx=>?_⟩;obtain⟨e,he,rfl⟩:=List.mem_map.mp hx;have:=Pt.Cq he;have:=Pt.Ap he;simp only[AL.ok];exact⟨Pt.CN vi e he,by lia,by lia⟩
     ·simp only[AL.good,Bool.and_eq_true];refine⟨rfl,?_⟩;rw[AL.Bw,List.all_eq_true];intro x hx;obtain⟨e,he,rfl⟩:=List.mem_map.mp hx;rfl
     ·simp only[AL.size];rw[AL.MF];lia
     ·simp only[AL.deep];have:AL.AJ (ts.map AL.JL)<=1:=AL.Ce fun x hx=>by
       obtain⟨e,he,rfl⟩:=List.mem_map.mp hx;exact Nat.le_refl 1
      lia
  ·refine⟨_,rfl,C,_,0,_,rfl,rfl,B,B',rfl,_,rfl,DB ?_⟩;obtain⟨a1,I,rfl,Ud,r1⟩:=LA.KJ;have ZN:I.length=xs.length:=by rw[r1.length,Ak.AW,List.length_map]
   have l1:=Ak.Cr xs;have l2:=Ak.C_ xs;simp only[Ak.wt]at cm;refine⟨_,rfl,C,_,1,_,rfl,rfl,B,CD,a1,_,rfl,.inl (.inl (Ud.up (sG _))),I.length,rfl,by lia,by lia,?_⟩;rw[Int.toNat_natCast];refine Jd G none I.length (fun i=>.int (0+(i:Int))) (fun i c a=>c=(List.range i).map fun j=>(AL.IX (X++[.inl (j:Int)])).pt) (by lia) (fun D hD=>rfl) (fun i c a D Y S hD g=>g) (fun l z=>nomatch z) (fun i c a U s g=>U) (fun i c a v H' U s g y=>⟨y.2,y.1⟩) (fun c a s g=>Nat.le_refl _) (fun i c a R U S g lu k=>?_) (fun D a Y c hD S d2 lu vl g=>?_)
   ·have s3:=S.same;have e0:(0:Int)+(i:Int)=(i:Int):=by lia
    rw[e0];refine⟨_,rfl,_,rfl,BG,fun pk UZ=>Kj (k:=.inl (i:Int)) (fun b h=>dG b (s3.free h)) (s3 _ _ gx) (by lia) UZ fun t H4 s4 nt v4=>k _ _ H4 (.of s4) v4 ?_⟩;rw[g,List.range_succ,List.map_append];rfl
   ·have s3:=S.same;have cn:c=AL.CO (AL.Fs X ((List.range I.length).map fun(j:Nat)=>(Sum.inl (j:Int):Key))):=by
     rw[g,AL.AW];unfold AL.Fs;rw[List.map_map,List.map_map];rfl
    rw[cn]at vl;generalize N:(List.range I.length).map (fun(j:Nat)=>(Sum.inl (j:Int):Key))=keys at vl;have lk:keys.length=I.length:=by rw[<-N,List.length_map,List.length_range]
    have my:∀k∈keys,((Ak.row xs m).Dj k).isSome=true:=fun k hk=>by
     rw[<-N]at hk;obtain⟨j,hj,rfl⟩:=List.mem_map.mp hk;have hj:=List.mem_range.mp hj;simp only[Ak.Dj,if_pos (Int.natCast_nonneg j),Int.toNat_natCast];rw[yn (by lia)];rfl
    obtain⟨z,az,vz⟩:=tail_at (K:=K) hp (oG (H':=a)) m;refine⟨_,rfl,Ac,fun q1 Np=>⟨_,rfl,C,_,2,.bl m,rfl,rfl,(B.up s3).up (AF.new Np),at2,.inr ⟨m,rfl,q1,_,_,_,rfl,rfl,As.of AD,az,Fu,fun t Xe=>?_⟩⟩⟩;have s4:=AF.new (o:=.lst [V.Ah,.ref p]) Np;have d4:=s4 _ _ d2;generalize upd a q1 (.lst [V.Ah,.ref p])=H4 at s4 d4 Xe⊢;have qA:AF (ov G H a) (ov G H H4):=BL (fun b h=>h) fun b o _ e=>s4 _ _ e;have s34:=s3.trans s4;refine q _ (.row (AL.Fs X keys) (if m=true then some X else none)) _ (s34.trans (AF.new Xe)) ⟨RI sG (fun b h=>s34.free h) hD d4 (vl.up qA) (vz.up qA) Xe,?_,?_,?_,?_⟩ (fun h_ mm e=>?_)
    ·simp only[AL.ok];refine⟨by rw[AL.Ho];lia,?_,AL.NI (by lia)⟩;cases m with
     |true=>show X.length<=200;lia
     |false=>trivial
    ·simp only[AL.good,Bool.and_eq_true];refine⟨?_,AL.Ia M my⟩;cases m with
     |true=>show AL.LV A X=true;unfold AL.LV;rw[M]
     |false=>rfl
    ·simp only[AL.size];rw[AL.GN];lia
    ·simp only[AL.deep];have:=AL.Ib X keys;lia
    ·cases e;exact⟨_,rfl,by rw[AL.Ho];lia⟩
  ·refine⟨_,rfl,C,_,0,_,rfl,rfl,B,B',rfl,_,rfl,BO ?_⟩;refine⟨_,rfl,C,_,0,_,rfl,rfl,B,B',rfl,_,rfl,DB ?_⟩;obtain⟨a1,O,rfl,Ud,Nq,r1⟩:=LA.Oj;have kl:O.length=Z.length:=by have:=congrArg List.length Nq;simpa using this
   have iB:=dq;simp only[Ak.CF]at iB;obtain⟨ol,XO,_,o4,_⟩:=iB;simp only[Ak.wt]at cm;have l1:=Ak.Cr xs;have l2:=Ak.C_ xs;refine⟨_,rfl,C,_,1,_,rfl,rfl,B,CD,a1,O,Z,rfl,Ud.up (sG _),Nq,by lia,fun L ss H1 nL s1 fL pm st=>?_⟩;have hX:=pm.length_eq;refine⟨L,_,rfl,As.of fL,?_⟩;generalize jQ:ss.reverse=J;have vn:J.length=ss.length:=by rw[<-jQ,List.length_reverse]
   have qB:J.Nodup:=by rw[<-jQ];exact(List.reverse_perm ss).nodup_iff.mpr (pm.nodup_iff.mpr XO)
   have mem:∀k,k∈J↔k∈Z:=fun k=>by rw[<-jQ,List.mem_reverse,pm.mem_iff]
   have qC:∀{i:Nat},i<(ss.map V.str).length->(ss.map V.str)[(ss.map V.str).length-1-i]?=some (.str (J.getD i "")):=fun{i} U=>by
    rw[List.length_map]at U⊢;have e:J[i]?=ss[ss.length-1-i]?:=by rw[<-jQ,List.getElem?_reverse U]
    rw[List.getElem?_map,<-e,List.getD_eq_getElem?_getD,yn (by lia)];rfl
   refine Ki G none (ss.map V.str).length (fun i=>.str (J.getD i "")) J (fun i c a=>c=(List.range i).map fun j=>(AL.IX (X++[.inr (J.getD j "")])).pt) (by rw[List.length_map];lia) (fun D hD=>rfl) (fun i c a D e S hD g=>g) (fun l z=>nomatch z) (fun i c a U s g=>⟨_,_,s.same.seq (As.of fL),rfl,U,qC U⟩) (fun i c a v H' U s g y=>?_) (fun c a s g=>⟨⟨_,s.same.seq (As.of fL)⟩,rfl⟩) (fun i c a R U S g lu k=>?_) (fun D a qs Y c hD S d2 lq lu tt vl g=>?_)
   ·have:=y.2 _ (s.same.seq (As.of fL));rw[qC U]at this;exact⟨(yq this).symm,y.1⟩
   ·have s3:=s1.trans S.same;refine⟨_,rfl,_,rfl,_,rfl,BG,fun pk UZ=>Kj (k:=.inr (J.getD i "")) (R:=fun x H5=>[V.str (J.getD i ""),x].length<=sizeLine/\∀t2,H5 t2=none->R (.ref t2) (upd H5 t2 (.tup [.str (J.getD i ""),x]))) (fun b h=>dG b (s3.free h)) (s3 _ _ gx) (by lia) UZ fun t H4 s4 nt v4=>⟨Ac,fun t2 QA=>k _ _ H4 t2 (.of s4) v4 ?_ QA⟩⟩;rw[g,List.range_succ,List.map_append];rfl
   ·have s3:=s1.trans S.same;have cn:c=AL.CO (AL.Fs X (J.map Sum.inr)):=by
     rw[g,AL.AW,List.length_map,<-vn];unfold AL.Fs;rw[List.map_map,List.map_map];refine List.ext_getElem (by simp) fun i h1 h2=>?_;have U:i<J.length:=by simpa using h1
     simp only[List.getElem_map,List.getElem_range,Function.comp];rw[List.getD_eq_getElem?_getD,yn U];rfl
    have lw:=vl.length;rw[List.length_map]at lq lu;have el:J.length=Y.length:=by lia
    refine⟨D,qs,Cb J Y,rfl,As.of d2,by rw[B_ el];lia,fun j k v e=>?_,by rw[B_ el];lia,fun pd cp=>?_⟩
    ·obtain⟨x,h1,h2,h3⟩:=HQ e;obtain⟨t,B⟩:∃t,qs[j]?=some t:=⟨_,yn (by have:=(yo h1).1;lia)⟩;obtain⟨g2,g3⟩:=tt j t v B h2;refine⟨t,B,?_⟩;rw[g2,h3,List.getD_eq_getElem?_getD,h1];rfl
    rw[Di el qB];have s4:=AF.new (o:=.dK (Cb J Y)) cp;have f4:upd a pd (.dK (Cb J Y)) pd=some (.dK (Cb J Y)):=AD;have Zt:H pd=none:=s3.free cp;generalize upd a pd (.dK (Cb J Y))=H4 at s4 f4⊢;have s34:=s3.trans s4;rw[cn]at vl;have XI:AS (ov G H H4) Y (AL.CO (AL.Fs X (J.map Sum.inr))):=vl.up (BL (fun b h=>s1.free h) fun b o _ e=>s4 _ _ e);obtain⟨z,az,vz⟩:=tail_at (K:=K) hp (oG (H':=H4)) m;dsimp only[CA];refine⟨_,rfl,_,rfl,Ac,fun q1 Np=>⟨_,rfl,C,_,3,.bl m,rfl,rfl,(B.up s34).up (AF.new Np),Av (j:=3) rfl,.inr ⟨m,rfl,q1,_,_,_,rfl,rfl,As.of AD,az,Fu,fun t nA=>?_⟩⟩⟩;have s5:=AF.new (o:=.lst [V.Ah,.ref p]) Np;have f5:=s5 _ _ f4;generalize upd H4 q1 (.lst [V.Ah,.ref p])=H5 at s5 f5 nA⊢;have qD:AF (ov G H H4) (ov G H H5):=BL (fun b h=>h) fun b o _ e=>s5 _ _ e;have s35:=s34.trans s5;refine q _ (.tab J (AL.Fs X (J.map Sum.inr)) (if m=true then some X else none)) _ (s35.trans (AF.new nA)) ⟨RJ sG (fun b h=>s35.free h) Zt el f5 (XI.up qD) (vz.up qD) nA,?_,?_,?_,?_⟩ (fun h_ mm e=>nomatch e)
    ·simp only[AL.ok];refine⟨by rw[AL.Ho,List.length_map],qB,by lia,?_,AL.NI (by lia)⟩;cases m with
     |true=>show X.length<=200;lia
     |false=>trivial
    ·simp only[AL.good,Bool.and_eq_true];refine⟨?_,AL.Ia M fun k hk=>?_⟩
     ·cases m with
      |true=>
       show AL.LW A J X=true;unfold AL.LW;rw[M];simp only[Bool.true_and,List.all_eq_true];intro k hk;show(decide (k∈Z)||decide (k∈ls))=true;rw[decide_eq_true ((mem k).mp hk)];rfl
      |false=>rfl
     ·obtain⟨y,hy,rfl⟩:=List.mem_map.mp hk;obtain⟨x,hx⟩:=GC ol ((mem y).mp hy);show(lk Z xs y).isSome=true;rw[hx];rfl
    ·simp only[AL.size];rw[AL.GN,List.length_map];lia
    ·simp only[AL.deep];have:=AL.Ib X (J.map Sum.inr);lia
theorem XP:AZ ["_law_cell_here","_law_k","_law_told_here","_law_word","_law_some"] ["_law_cell_here","_law_k","_law_told_here","_law_word"] (AM Ww):={}
theorem ZO(F:Co K "_law_open" "_law_open" Ww f fd)(T:Txt mg)(x:Df P w K mg base "_law_mix" ["_law_cell_here","_law_k"] 1 Ea):Au P w K mg base CK 2 f fd ["_law_cell_here","_law_k","_law_told_here","_law_word"] SV:=by
 refine F.oq XP fun Jr A outer s H vs Q E N h=>?_
 ·obtain⟨G,c,k,D,B,A,ws,rfl,hk,X,hA,Y,J,q0,q1⟩:=h;have nd:=XP.nd;have hu:=BJ N;refine⟨_,(AB (PJ (i:=4) (fv:=["_law_word"]) (fs:=[3]) rfl (.of (by rfl)) nd rfl (Or.inl rfl) (CT (pv 2)) (fun C s0 H0 fp=>Xz (PW.pt (pw_and (AR BC (Br K 1) (pv 2) (AV _)) (pw_and1 (BV (FG (r:=MX K) FR (pv 1) (Uo QQ AE) (fun _ _=>rfl))))))) (fun C s0 H0 fp=>(pv 0))) (AB (Aa (PW.pt (pw_or (AR (VP (Bi.MT N)) (pv 4) (BD CH) (AV _)) (pw_or1 (AR BC (AO Aq (BY x N.mm (AA (pv 0) (AX (pv 1)))) AE) AE (AV _))))) (AG (AQ CW)) AN) (AG (AQ (FF K (pv 4) (AO Aq (AO By (BY x N.mm (AA (pv 0) (AX (pv 1)))) AE) (Fv T.len (pv 4)))))))),?_⟩;obtain⟨a,rfl,Z⟩:=Y.ents;have O:=X _ _ Y.at_;have lE:a.length<=900:=by have:=Y.len;rw[List.length_map]at this;exact this
  have ix:∀{i:Nat},i<a.length->a[i]?=some (a.getD i default):=fun{i} h=>by rw[List.getD_eq_getElem?_getD,yn h];rfl
  have l:∀{i:Nat},i<a.length->iZ (K:=K) G A (a.getD i default):=fun h=>Z _ (yr (ix h));have lt:∀{i:Nat},i<a.length->(a.map fun e=>V.ref e.t)[i]?=some (.ref (a.getD i default).t):=fun h=>by rw[List.getElem?_map,ix h];rfl
  refine⟨_,rfl,D,rfl,⟨_,As.of O⟩,?_⟩;refine RE (n:=a.length) (fun i=>(a.getD i default).t) (fun i=>.ref (a.getD i default).p) (fun i=>(a.getD i default).u) (fun i=>.ref (a.getD i default).p) (fun i=>NJ B (a.getD i default).b) (An (by omega)) (fun i q I j g=>⟨_,_,(AF.new g).seq (As.of O),lt j⟩) (fun i q I v H' j g y=>?_) (fun i q I j g=>.of ((AF.new g) _ _ (X _ _ (l j).tp))) (fun q I g=>⟨_,(AF.new g).seq (As.of O),by rw[List.length_map];exact Nat.le_refl _⟩) (fun i q I R j g r=>?_) (fun i q I R j g _ r=>⟨_,rfl,r⟩) fun q g=>?_
  ·obtain⟨e,yl⟩:=y;have:=yl _ ((AF.new g).seq (As.of O));rw[lt j]at this;exact⟨(yq this).symm,e⟩
  ·obtain⟨t0,w1,rest,eu,ht,cs⟩:=(((l j).val.up X).up (AF.new (o:=.lst I) g)).ak;rw[eu];refine⟨_,rfl,t0,_,0,.str w1,rfl,rfl,ht,B',_,rfl,rfl,_,rfl,?_⟩;generalize hb:(a.getD i default).b=b at cs r⊢;rcases cs with⟨rfl,rfl,rfl⟩|⟨d,u,rfl,rfl,rfl,_⟩|⟨xs,m,u,rfl,rfl,rfl,_⟩|⟨ks,xs,ls,m,u,z,rfl,rfl,rfl,_⟩
   ·refine BF ?_ r;rcases J with rfl|rfl<;>decide+kernel
   ·refine BF ?_ r;rcases J with rfl|rfl<;>decide+kernel
   ·refine Bx (fun h=>?_) (fun h=>?_)
    ·refine⟨_,rfl,1,rfl,t0,_,_,_,rfl,rfl,ht,OD [.str "row",u] (.bl m),_,rfl,?_⟩;have e:NJ B (.row xs m)=m:=by show(decide _&&m)=m;rw[h];rfl
     rw[e]at r;exact r
    ·have e:NJ B (.row xs m)=false:=by show(decide _&&m)=false;rw[h];rfl
     rw[e]at r;exact r
   ·refine Bx (fun h=>?_) (fun h=>?_)
    ·refine⟨_,rfl,1,rfl,t0,_,_,_,rfl,rfl,ht,OD [.str "table",u,z] (.bl m),_,rfl,?_⟩;have e:NJ B (.tab ks xs ls m)=m:=by show(decide _&&m)=m;rw[h];rfl
     rw[e]at r;exact r
    ·have e:NJ B (.tab ks xs ls m)=false:=by show(decide _&&m)=false;rw[h];rfl
     rw[e]at r;exact r
  dsimp only;have M:∀v∈List.map (fun i=>V.ref (a.getD i default).p) (List.filter (fun i=>NJ B (a.getD i default).b) (List.range a.length)),∃i,i<a.length/\v=.ref (a.getD i default).p/\NJ B (a.getD i default).b=true:=fun v hv=>by
   obtain⟨i,j,rfl⟩:=List.mem_map.mp hv;obtain⟨h1,h2⟩:=List.mem_filter.mp j;exact⟨i,List.mem_range.mp h1,rfl,h2⟩
  generalize List.map (fun i=>V.ref (a.getD i default).p) (List.filter (fun i=>NJ B (a.getD i default).b) (List.range a.length))=L at M⊢;obtain⟨H1,eH,s1,f1⟩:=DA (o:=.lst L) g;rw[eH];clear eH;refine⟨_,rfl,Nat.zero_le _,fun pe Xb=>?_⟩;have U:=AF.new (o:=.lst []) Xb;refine⟨q,pe,L,rfl,rfl,As.of (U _ _ f1),As.of AD,_,rfl,?_⟩;have f2:=U _ _ f1;generalize upd H1 pe (.lst [])=H2 at U f2⊢;have S:=s1.trans U;cases L with
  |nil=>exact Cc (Cc (q0 H2 S))
  |cons v0 L0=>
   refine BE ?_;refine⟨_,rfl,_,rfl,c,k,rfl,by omega,fun r _ _=>⟨_,_,rfl,rfl,(by show(0:Int)<_;decide),rfl,_,rfl,?_⟩⟩;refine Bx (fun _=>q0 H2 S) (fun _=>?_);refine⟨_,rfl,_,rfl,_,rfl,c,k,rfl,by omega,fun r2 _ _=>⟨_,_,rfl,rfl,⟨by decide,by decide⟩,_,rfl,q,_,rfl,.inl (As.of f2),_,_,rfl,rfl,(by show(0:Int)<_;simp only[List.length_cons];omega),?_⟩⟩;have mb:=DL (r2/4) (n:=((v0::L0).length:Int)) (by simp only[List.length_cons];omega);obtain⟨v,hv,mv⟩:=Dp (xs:=v0::L0) mb.1 mb.2;obtain⟨i,j,rfl,ho⟩:=M v mv;exact⟨q,_,_,_,rfl,rfl,As.of f2,hv,q1 _ (a.getD i default).ks (a.getD i default).b H2 S ⟨⟨_,_,List.mem_map.mpr ⟨_,yr (ix j),rfl⟩,(l j).tp⟩,(l j).WX,(l j).sub⟩ (UH ho)⟩
theorem Sr:AZ ["_law_cells","_law_cell_here","_law_deep","_law_told_here","_law_names_here","_law_rest","_law_known","_law_inner","_law_k","_law_way","_law_free"] ["_law_cells","_law_cell_here","_law_deep","_law_told_here","_law_names_here"] (AM Na):={}
theorem XQ(F:Co K "_law_table" "_law_table" Na f fd)(T:Txt mg)(ZH:Df P w K mg base "_law_mix" ["_law_cell_here","_law_k"] 1 Ea)(Z:Df P w K mg base "_law_open" ["_law_cell_here","_law_k","_law_told_here","_law_word"] 2 SV)(R:Df P w K mg base "_law_makes" ["_law_cells","_law_deep","_law_told_here","_law_names_here"] n (Hq n)):Au P w K mg base CK (n+1) f fd ["_law_cells","_law_cell_here","_law_deep","_law_told_here","_law_names_here"] (NK (n+1)):=by
 refine F.oq Sr fun Jr A outer s H vs Q E hr h=>?_
 ·obtain⟨G,A,l,D,nm,ws,ys,cs,c,d,rfl,C,vo,q⟩:=h;have nd:=Sr.nd;have hu:=BJ hr;refine⟨_,(AB (Ae 5 nd (BY Z hr.mm (AA (pv 1) (AA AE (AA (pv 3) (AX AU)))))) (AB (Ae 6 nd (A' (Dx rfl (Bi.units hr)) rfl T.dict CZ (AX (pv 3)))) (AB (Ae 7 nd G') (AB (LC (Ao rfl T.range (AX AE)) (CJ 8 nd) (AB (Ae 9 nd (AO Aq (AO By (BY ZH hr.mm (AA (pv 1) (AX AE))) (FF K (BD (AA AE (AA AE (AA AE (AX AE))))) (pv 8))) AE)) (AB (Ae 10 nd (Uh (Dz MR (pv 5) CW (AV _)) (Uh (Ug (QX hu (FF K (pv 4) (pv 8)) (FG (r:=MX K) FR (LY hu (pv 6) (pv 5)) AE (fun _ _=>rfl)))) (Ji (Dz (IC:Ek _ _ (dI K false)) (FF K (pv 4) (pv 8)) (FG (r:=MX K) FR (LY hu (pv 6) (pv 5)) AE (fun _ _=>rfl)) rfl))))) (AB (Aa (PW.pt (pw_and (AR Rl (pv 9) AE (AV _)) (pw_and (AR JO (pv 5) CW (AV _)) (pw_and1 (QH (QX hu (FF K (pv 4) (pv 8)) (FG (r:=MX K) FR (LY hu (pv 6) (pv 5)) AE (fun _ _=>rfl)))))))) (AG (D' hu (pv 7) (FF K (pv 4) (pv 8)) (Ad (AA AU (AX (AO ED (pv 5) (Ad (AX (FF K (pv 4) (pv 8)))))))) rfl)) AN) (AG (Aa (PW.pt (pw_and (AR BC (pv 9) AE (AV _)) (pw_and1 (BV (pv 10))))) (AG (D' hu (pv 7) (FF K (pv 4) (pv 8)) (BY R hr.mm (AA (pv 0) (AA (AO GW (pv 2) AE) (AA (pv 3) (AX (pv 4)))))) rfl)) AN)))))) (AG (AQ (Ad (AA AU (AA (pv 7) (AX (pv 5))))))))))),?_⟩;have sG:=C.sG;have hl:=C.hl;have Hl:H l≠none:=by rw[hl];exact fun z=>nomatch z
  have ed:(((d+1:Nat):Int)-1)=(d:Int):=by lia
  refine Fb (t:=QL (Lb _ _ _ _) _) (fun j H1=>∃(rv:V)(J lt:List Str)(o:Option (List Key)),j=[some (.ref l),some (.int c),some (.int ((d+1:Nat):Int)),some (.ref D),some (.ref nm),some rv,none,none,none,none,none]/\AF H H1/\bg G A ws rv J lt o) ?_ ?_;rotate_left
  ·intro go;refine⟨_,rfl,_,rfl,G,c,3,D,"table",A,ws,rfl,by decide,sG,C.as,C.td,.inr rfl,fun H1 s1=>go _ _ ⟨.Ah,[],[],none,rfl,s1,.inl ⟨rfl,rfl⟩⟩,fun p a b H1 s1 pk op=>?_⟩;rcases op with⟨e,_⟩|⟨_,J,xs,lt,rfl⟩
   ·exact absurd e (by decide)
   ·exact go _ _ ⟨.ref p,J,lt,some a,rfl,s1,.inr ⟨p,a,xs,rfl,rfl,pk⟩⟩
  rintro j H1 ⟨rv,J,lt,o,rfl,s1,ro⟩;refine⟨_,rfl,Gj C.td (sG.trans s1) fun M H2 s2 n5 kn=>?_⟩;dsimp only[CA];refine fun B dZ=>?_;have S2:=s1.trans s2;have t6:=AF.new (o:=.dK []) dZ;have f6:upd H2 B (.dK []) B=some (.dK []):=AD;have n6:H B=none:=S2.free dZ;generalize upd H2 B (.dK [])=S at t6 f6⊢;have S6:=S2.trans t6;have vp:=sG.trans S6;have vq:Known (K:=K) G S A ws M:=kn.up fun o e=>t6 _ _ e;have p56:M≠B:=fun z=>by obtain⟨kvs,h,_⟩:=kn;rw[z,dZ]at h;cases h
  have v_:M≠l:=fun z=>by rw[z]at n5;exact Hl (s1.free n5)
  have qE:B≠l:=fun z=>Hl (by rw[<-z];exact n6);have h66:S B≠none:=by rw[f6];exact fun z=>nomatch z
  have qF:S l≠none:=by rw[S6 _ _ hl];exact fun z=>nomatch z
  have g6:G B=none:=sG.free n6;have gl:=C.nl;have l4:=C.nm.len;have qG:=WW d;have T0:XZ (K:=K) G S A l B ys (fun y=>∀a,o=some a->AL.FI J lt y=true) (Mb d) (d+2) cs.length S [] [] [] cs:={kp:=fun b e _ _ h=>h,dm:=fun b h=>h,e6:=f6,el:=S6 _ _ hl,le:=Nat.le_refl _,lw:=rfl,nk:=.nil,vl:=.nil,ms:=fun u h=>(nomatch h),iy:=fun k h=>(nomatch h),tl:=fun k h=>(nomatch h)};have qH:∀{O:Hp}{a:List Str}{g:List V}{us:List Pt}{LB:List Int},XZ (K:=K) G S A l B ys (fun y=>∀a,o=some a->AL.FI J lt y=true) (Mb d) (d+2) cs.length O a g us LB->AF G O:=fun T b e h=>T.kp b e (fun z=>by rw[z,gl]at h;cases h) (fun z=>by rw[z,g6]at h;cases h) (vp _ _ h);refine⟨4,rfl,by decide,by decide,CU (lo:=0) (n:=4) (fun i σ O=>∃(a:List Str)(g:List V)(us:List Pt)(LB:List Int)(o8 o9 o10:Option V),σ=[some (.ref l),some (.int c),some (.int ((d+1:Nat):Int)),some (.ref D),some (.ref nm),some rv,some (.ref M),some (.ref B),o8,o9,o10]/\XZ (K:=K) G S A l B ys (fun y=>∀a,o=some a->AL.FI J lt y=true) (Mb d) (d+2) cs.length O a g us LB)
   ⟨[],[],[],cs,none,none,none,rfl,T0⟩ ?_ ?_⟩
  ·rintro i σ O hi ⟨U,qI,nB,L,o8,o9,o10,rfl,T⟩;obtain⟨y,hy⟩:∃y,ys[i]?=some y:=⟨_,yn (by rw[l4];exact hi)⟩;have ym:=yr hy;have ay:Lh (ys.map V.str) (0+(i:Int))=some (.str y):=by
    have e0:(0:Int)+(i:Int)=(i:Int):=by lia
    rw[e0];exact Av (by rw[List.getElem?_map,hy];rfl)
   obtain⟨v4,mQ,g_⟩:=Dp (xs:=[V.int 1,V.int 4,V.int 16,V.int 64]) (i:=0+(i:Int)) (by lia) (by simp only[List.length_cons,List.length_nil];lia);have vb:∃m:Int,v4=.int m/\0<m/\m<1073741824:=by
    simp only[List.mem_cons,List.not_mem_nil,or_false]at g_;rcases g_ with rfl|rfl|rfl|rfl<;>exact⟨_,rfl,by decide,by decide⟩
   obtain⟨m,rfl,de,df⟩:=vb;refine⟨_,rfl,c,4,rfl,by decide,fun r1 _ _=>⟨An (show 4<=1000 by decide),fun pl bM=>⟨_,rfl,pl,_,_,_,rfl,rfl,As.of AD,mQ,_,_,rfl,rfl,⟨de,df⟩,_,_,rfl,rfl,(by show(0:Int)<_;decide),?_⟩⟩⟩;have T1:=T.up (AF.new (o:=.lst [V.int 1,V.int 4,V.int 16,V.int 64]) bM);generalize upd O pl (.lst [V.int 1,V.int 4,V.int 16,V.int 64])=Hj at T1⊢;clear T;generalize r1/m % 4=wy;dsimp only[CA];have I:=qH T1;have N:=C.nm.up I;have qJ:Known (K:=K) G Hj A ws M:=vq.up fun o e=>T1.kp _ _ v_ p56 e;refine Fb (t:=QL (eD _ _) _) (fun j H'=>∃fb:Bool,j=[some (.ref l),some (.int c),some (.int ((d+1:Nat):Int)),some (.ref D),some (.ref nm),some rv,some (.ref M),some (.ref B),some (.int (0+(i:Int))),some (.int wy),some (.bl fb)]/\H'=Hj/\(fb=true->∀a,o=some a->AL.FI J lt y=true)) ?_ ?_;rotate_left
   ·intro go;rcases ro with⟨rfl,rfl⟩|⟨p,a,xs,rfl,rfl,pk⟩
    ·exact⟨_,rfl,rfl,_,rfl,Cv rfl (go _ _ ⟨true,rfl,rfl,fun _ a e=>nomatch e⟩)⟩
    ·obtain⟨kvs,t1,a1,l1,dU,k1,k2,k3,k4,k5,k6⟩:=(qJ.at I pk).ex;have dg:LM Hj M (.ref p) (some (.ref t1)):=.inr ⟨kvs,a,p,.inl k1,rfl,I _ _ pk.WX,k2.symm⟩;refine⟨_,rfl,rfl,_,rfl,BF rfl ?_⟩;refine⟨_,rfl,_,rfl,nm,_,_,_,rfl,rfl,As.of N.at_,ay,_,rfl,_,rfl,M,_,rfl,dg,t1,_,1,_,rfl,rfl,k3,CD,a1,_,rfl,.inl ⟨dU,Sum.inr y,k4,rfl,rfl⟩,_,rfl,?_⟩;rw[k5];refine Bx (fun h=>?_) (fun h=>?_)
     ·refine go _ _ ⟨true,rfl,rfl,fun _ nC _=>?_⟩;show(decide (y∈J)||decide (y∈lt))=true;rw[h];rfl
     ·refine⟨_,rfl,_,rfl,nm,_,_,_,rfl,rfl,As.of N.at_,ay,_,rfl,_,rfl,M,_,rfl,dg,t1,_,2,_,rfl,rfl,k3,at2,l1,_,rfl,.inl (.inl k6),rfl,(by rw[List.all_eq_true];intro z hz;obtain⟨y,_,rfl⟩:=List.mem_map.mp hz;rfl),?_⟩;refine go _ _ ⟨ZW (.str y) (lt.map V.str),rfl,rfl,fun hh nC _=>?_⟩;rw[Fc]at hh;show(decide (y∈J)||decide (y∈lt))=true;rw[hh,Bool.or_true]
   rintro j H' ⟨fb,rfl,rfl,wA⟩;refine Fb (t:=Ny _ _ _) (fun j H'=>∃(a:List Str)(g:List V)(us:List Pt),j=[some (.ref l),some (.int c),some (.int ((d+1:Nat):Int)),some (.ref D),some (.ref nm),some rv,some (.ref M),some (.ref B),some (.int (0+(i:Int))),some (.int wy),some (.bl fb)]/\XZ (K:=K) G S A l B ys (fun y=>∀a,o=some a->AL.FI J lt y=true) (Mb d) (d+2) cs.length H' a g us L) ?_ ?_;rotate_left
   ·intro go;have out:=go _ _ ⟨U,qI,nB,rfl,T1⟩;refine⟨_,rfl,_,_,rfl,rfl,_,rfl,Bx (fun h1=>?_) (fun _=>BE out)⟩;rcases ro with⟨rfl,rfl⟩|⟨p,a,xs,rfl,rfl,pk⟩
    ·exact⟨_,rfl,rfl,_,rfl,BF rfl (BE out)⟩
    ·obtain⟨kvs,t1,a1,l1,dU,k1,k2,k3,k4,k5,k6⟩:=(qJ.at I pk).ex;have dg:LM H' M (.ref p) (some (.ref t1)):=.inr ⟨kvs,a,p,.inl k1,rfl,I _ _ pk.WX,k2.symm⟩;refine⟨_,rfl,rfl,_,rfl,Cv rfl ?_⟩;refine⟨_,rfl,_,rfl,nm,_,_,_,rfl,rfl,As.of N.at_,ay,_,rfl,_,rfl,M,_,rfl,dg,t1,_,1,_,rfl,rfl,k3,CD,a1,_,rfl,.inl ⟨dU,Sum.inr y,k4,rfl,rfl⟩,_,rfl,?_⟩;rw[k5];refine Bx (fun Xf=>?_) (fun _=>out);obtain⟨l20,dq,p_,cm,jO⟩:=C.as.len pk.sub;have yk:=of_decide_eq_true Xf;have gd:AL.good A (.IX (a++[.inr y]))=true:=by
      simp only[AL.good];rw[AL.sub_snoc pk.sub];simp only[Ak.CF]at dq;obtain⟨x,hx⟩:=GC dq.1 yk;show(lk J xs y).isSome=true;rw[hx];rfl
     refine⟨_,rfl,_,rfl,_,rfl,nm,_,_,_,rfl,rfl,As.of N.at_,ay,BG,fun wB X=>⟨p,wB,_,_,rfl,rfl,(AF.new X) _ _ (I _ _ pk.WX),AD,An (by simp only[List.length_map,List.length_singleton];lia),fun p7 H7 s7 f7 n7=>⟨Ac,fun t ht=>?_⟩⟩⟩;obtain⟨s4,nt,v4⟩:=PQ (K:=K) (G:=G) (k:=.inr y) (fun b h=>I.free h) X s7 f7 n7 ht;generalize upd H7 t (.tup [.str "from",.ref p7])=H4 at s4 v4⊢;obtain⟨g1,g2,So,g,UX,g3,Y⟩:=T1.put l4 h66 qF qE (.of s4) (s4 _ _ T1.el) (Nat.le_refl _) v4 (by simp only[AL.ok,List.length_append,List.length_singleton];lia) gd (by simp only[AL.size];exact qG) (by simp only[AL.deep];lia) ym (fun nC _=>by show(decide (y∈J)||decide (y∈lt))=true;rw[Xf];rfl);refine⟨_,rfl,_,rfl,_,rfl,nm,_,_,_,rfl,rfl,As.of (s4 _ _ N.at_),ay,B,_,rfl,.inl ⟨_,Sum.inr y,g1,rfl,Aw (Nat.le_of_lt g2),rfl⟩,?_⟩;rw[g3];exact go _ _ ⟨So,g,UX,rfl,Y⟩
   rintro j Hk ⟨qK,qL,qM,rfl,Y⟩;have qN:=qH Y;have wC:=C.nm.up qN;have oY:=Y.le;have lc:=C.lc;refine⟨_,rfl,rfl,_,rfl,Bx (fun h1=>?_) (fun _=>BE ⟨qK,qL,qM,L,_,_,_,rfl,Y⟩)⟩;refine⟨_,rfl,_,rfl,Bx (fun hf=>?_) (fun _=>⟨qK,qL,qM,L,_,_,_,rfl,Y⟩)⟩;refine⟨_,rfl,_,rfl,_,_,rfl,rfl,_,rfl,_,rfl,G,A,l,D,nm,ws,ys,L,d,by rw[ed];rfl,⟨qN,gl,C.as,C.td,C.nm,Y.el,by lia⟩,by lia,fun v mm Xc H' bt el le md=>?_⟩;obtain⟨g1,g2,So,g,UX,g3,T3⟩:=Y.put l4 h66 qF qE bt el le md.val md.ok md.gd md.sz md.dp ym (wA hf);have wD:nm≠l:=fun z=>by have:=C.nm.at_;rw[z,gl]at this;cases this
   refine⟨_,rfl,_,rfl,_,rfl,nm,_,_,_,rfl,rfl,As.of (wC.but bt wD).at_,ay,B,_,rfl,.inl ⟨_,Sum.inr y,g1,rfl,Aw (Nat.le_of_lt g2),rfl⟩,?_⟩;rw[g3];exact⟨So,g,UX,Xc,_,_,_,rfl,T3⟩
  ·rintro σ O ⟨U,qI,nB,L,o8,o9,o10,rfl,T⟩;refine⟨_,rfl,_,rfl,Fu,fun t ht=>?_⟩;obtain⟨ms,rfl,m1,m2,m3,m4⟩:=WZ nB T.ms;have k4:=Kk T.nk T.iy;have lv:=T.vl.length;rw[AL.AW,List.length_map]at lv;have lw:=T.lw;have up:AF (ov G S O) (ov G H O):=BL (fun b h=>S6.free h) fun b o _ e=>e;have vz:Val (ov G H O) rv (FP o):=by
    rcases ro with⟨rfl,rfl⟩|⟨p,a,xs,rfl,rfl,pk⟩
    ·exact .Ah
    ·exact Ej (.of (Dt _ _ pk.WX))
   have m5:AL.AI ms<=4*Mb d:=Nat.le_trans m3 (Nat.mul_le_mul_right _ (by lia));refine q _ (.tab U ms o) L _ ⟨fun b e n h=>(AF.new ht) _ _ (T.kp b e (fun z=>n (by rw[z])) (fun z=>by rw[z,n6]at h;cases h) (S6 _ _ h)),fun b h=>S6.free (T.dm b ((AF.new ht).free h))⟩ ((AF.new ht) _ _ T.el) T.le ⟨RJ sG (fun b h=>S6.free (T.dm b h)) n6 T.lw T.e6 (T.vl.up up) vz ht,?_,?_,?_,?_⟩
   ·simp only[AL.ok];refine⟨by lia,T.nk,by lia,?_,m1⟩;rcases ro with⟨rfl,rfl⟩|⟨p,a,xs,rfl,rfl,pk⟩
    ·trivial
    ·have:=(C.as.len pk.sub).1;show a.length<=200;lia
   ·simp only[AL.good,Bool.and_eq_true];refine⟨?_,m2⟩;rcases ro with⟨rfl,rfl⟩|⟨p,a,xs,rfl,rfl,pk⟩
    ·rfl
    ·show AL.LW A U a=true;unfold AL.LW;rw[pk.sub];simp only[Bool.true_and,List.all_eq_true];exact fun k hk=>T.tl k hk a rfl
   ·simp only[AL.size,Mb];lia
   ·simp only[AL.deep];lia
theorem Ss:AZ ["_law_cells","_law_deep","_law_told_here","_law_names_here","_law_cell_here","_law_kind","_law_path","_law_there","_law_tail","_law_inner"] ["_law_cells","_law_deep","_law_told_here","_law_names_here"] (AM Nb):={}
theorem XR(F:Co K "_law_makes" "_law_makes" Nb f fd)(T:Txt mg)(Y:Df P w K mg base "_law_mix" ["_law_cell_here","_law_k"] 1 Ea)(UW:Df P w K mg base "_law_doc" ["_law_cell_here","_law_k","_law_names_here"] 2 Ga)(iC:Df P w K mg base "_law_out" ["_law_path","_law_there"] 2 RK)(iD:Df P w K mg base "_law_open" ["_law_cell_here","_law_k","_law_told_here","_law_word"] 2 SV)(cq:Df P w K mg base "_law_table" ["_law_cells","_law_cell_here","_law_deep","_law_told_here","_law_names_here"] n (NK n))(Ra:Df P w K mg base "_law_makes" ["_law_cells","_law_deep","_law_told_here","_law_names_here"] n (Hq n)):Au P w K mg base CK (n+1) f fd ["_law_cells","_law_deep","_law_told_here","_law_names_here"] (Hq (n+1)):=by
 refine F.oq Ss fun Jr A outer s H vs Q E Z h=>?_
 ·obtain⟨G,A,l,D,nm,ws,ys,cs,d,rfl,j,vo,q⟩:=h;have nd:=Ss.nd;have hu:=BJ Z;refine⟨_,(AB (Ae 4 nd AE) (AB (Aa (AR (VR (Bi.MT Z)) (pv 0) (BD CH) (AV _)) (AG (Ae 4 nd (Dq (FW PySem.F.plainAttrs_list PySem.F.slot_list_pop PySem.F.type_list_pop Jm (pv 0) (AX AE)) (Jq (pv 0) AE ⟨rfl,rfl,rfl,rfl⟩)))) AN) (AB (Ae 5 nd (AO Aq (BY Y Z.mm (AA (pv 4) (AX AE))) AE)) (AB (QM (FF K (pv 2) (AO Aq (BY Y Z.mm (AA (pv 4) (AX AE))) (Fv T.len (pv 2)))) (Uj rfl (Gy (CJ 6 nd) (Gy (CJ 7 nd) Rg)))) (AB (Aa (PW.pt (pw_or (AR BC (pv 5) AE (AV _)) (pw_or1 (AR BC (pv 1) AE (AV _))))) (AG (AQ (Ad (AA AU (AX (pv 6)))))) AN) (AB (Aa (AR BC (pv 5) AE (AV _)) (AG (AQ (Ad (AA AU (AX (BY UW Z.mm (AA (pv 4) (AA AE (AX (pv 3)))))))))) AN) (AB (Aa (AR La (pv 5) AE (AV _)) (AG (AQ (BY iC Z.mm (AA (pv 6) (AX (pv 7)))))) AN) (AB (Aa (AR Rl (pv 5) AE (AV _)) (AG (AQ (BY cq Z.mm (AA (pv 0) (AA (pv 4) (AA (pv 1) (AA (pv 2) (AX (pv 3))))))))) AN) (AB (Ae 8 nd (BY iD Z.mm (AA (pv 4) (AA AE (AA (pv 2) (AX AU)))))) (AB (Es (i:=9) (fv:=["_law_cells","_law_told_here","_law_names_here","_law_deep"]) (fs:=[0,2,3,1]) rfl (.of (by rfl)) nd rfl (Or.inl rfl) (Ao rfl T.range (AX (AO Aq (BY Y Z.mm (AA (pv 4) (AX AE))) AE))) (fun _ _ _ _=>Fz) (fun C s0 H0 fp=>(BY Ra Z.mm (AA (pv 1) (AA (AO GW (pv 4) AE) (AA (pv 2) (AX (pv 3)))))))) (AB (Aa (PW.pt (pw_and (AR JO (pv 8) CW (AV _)) (pw_and1 (AR BC (AO Aq (BY Y Z.mm (AA (pv 4) (AX AE))) AE) AE (AV _))))) (AG (Ae 9 nd (AO YM (FG (r:=MX K) FR (BY iC Z.mm (AA (pv 8) (AX (LY hu (A' (Dx rfl (Bi.units Z)) rfl T.dict CZ (AX (pv 2))) (pv 8))))) AE (fun _ _=>rfl)) (DK (r:=Uv K) JR (pv 9) (DX AE) Eo)))) AN) (AG (AQ (Ad (AA AU (AA (pv 9) (AX (pv 8)))))))))))))))))),?_⟩;have sG:=j.sG;have hl:=j.hl;have gl:=j.nl;have l4:=j.nm.len;have Hl:H l≠none:=by rw[hl];exact fun z=>nomatch z
  refine Zj ?_;refine Fb (t:=Ny _ _ _) (fun J H1=>∃(c:Int)(O:List Int),J=[some (.ref l),some (.int (d:Int)),some (.ref D),some (.ref nm),some (.int c),none,none,none,none,none]/\Bt (some l) H H1/\H1 l=some (.lst (O.map V.int))/\O.length<=cs.length) ?_ ?_;rotate_left
  ·intro go;refine⟨_,rfl,Nat.zero_le _,fun pe Xb=>⟨l,pe,_,rfl,rfl,As.of ((AF.new Xb) _ _ hl),As.of AD,_,rfl,?_⟩⟩;have se:=AF.new (o:=.lst []) Xb;generalize upd H pe (.lst [])=H1 at se⊢;have dN:=se _ _ hl;cases cs with
   |nil=>exact BE (go _ _ ⟨1013,[],rfl,.of se,dN,Nat.le_refl _⟩)
   |cons c cs=>
    refine Cc (.inl ⟨_,rfl,.inl ⟨rfl,_,As.of dN⟩,l,_,0,0,.int c,rfl,rfl,dN,by decide,by decide,(Fy (by unfold QE;rw[if_pos (by decide),if_pos (by simp)];rfl)).1,rfl,?_⟩);exact go _ _ ⟨c,cs,rfl,(Bt.of se).put,AD,by simp⟩
  rintro J H2 ⟨c,O,rfl,S,UU,jD⟩;have x:AF G H2:=fun b e h=>S.keep b e (fun z=>by rw[yq z,h]at gl;cases gl) (sG _ _ h);have lc:=j.lc;have jR:=j.td.up x;refine⟨_,rfl,c,0,rfl,by decide,fun r0 _ _=>⟨_,_,rfl,rfl,(by show(0:Int)<_;decide),?_⟩⟩;have m8:=DL r0 (n:=8) (by decide);generalize r0 % 8=kd at m8⊢;dsimp only[CA];refine⟨_,rfl,_,rfl,c,1,rfl,by decide,fun r1 _ _=>⟨_,rfl,D,_,rfl,.inl (As.of jR.at_),_,_,rfl,rfl,(by show(0:Int)<_;have:=jR.ne;cases ws with|nil=>exact absurd rfl this|cons _ _=>simp only[List.length_cons];omega),?_⟩⟩;have mb:=DL r1 (n:=(ws.length:Int)) (by have:=jR.ne;cases ws with|nil=>exact absurd rfl this|cons _ _=>simp only[List.length_cons];omega);obtain⟨w,hw,mw⟩:=Dp (xs:=ws) mb.1 mb.2;obtain⟨t,p,u,ks,b,rfl,x1,x2,x3,x4⟩:=j.td.ta w mw;have x2:UC G p ks:=x2;refine⟨D,_,_,_,rfl,rfl,As.of jR.at_,hw,?_⟩;refine⟨t,_,rfl,.of (x _ _ x1),rfl,_,_,rfl,_,_,rfl,rfl,?_⟩;dsimp only;have qO:∀b,H2 b=none->H b=none:=S.EC;have yM:UG G A ws p ks b:=⟨⟨t,u,mw,x1⟩,x2,x3⟩;obtain⟨l20,dq,p_,cm,jO⟩:=j.as.len x3;have ret:∀(v:V)(m:AL)(H':Hp),AF H2 H'->Md (K:=K) G H2 H' A v m (Mb d) (d+2)->Q v H':=fun v m H' s h=>q v m O H' (S.trans (.of s)) (s _ _ UU) jD ⟨h.val.up (BL qO fun b o _ e=>e),h.ok,h.gd,h.sz,h.dp⟩;have qG:=WW d;have Ua:∀t2,H2 t2=none->Q (.ref t2) (upd H2 t2 (.tup [.str "from",.ref p])):=fun t2 h=>ret _ (.IX ks) _ (AF.new h) ⟨.tup (.of (by rw[Fo x h,AD])) (.cons (.str _) (.cons (Ej (.of (Dt _ _ x2))) .nil)),by simp only[AL.ok];lia,by simp only[AL.good];rw[x3];rfl,by simp only[AL.size];lia,by simp only[AL.deep];lia⟩;refine VY (t:=Ny _ _ _) (fun H5=>H2=H5/\d≠0) (fun H5 ⟨e5,hd⟩=>?_) (fun key=>?_);rotate_left
  ·refine⟨_,rfl,rfl,_,rfl,Bx (fun _=>Cc ⟨_,rfl,Ac,Ua⟩) (fun _=>⟨_,rfl,rfl,_,rfl,Bx (fun h2=>?_) (fun h2=>?_)⟩)⟩
   ·exact⟨_,rfl,Ac,Ua⟩
   ·refine key H2 ⟨rfl,fun z=>?_⟩;subst z;exact absurd rfl (of_decide_eq_false h2)
  subst e5;obtain⟨U,rfl⟩:∃U,d=U+1:=⟨d-1,by lia⟩;have ed:(((U+1:Nat):Int)-1)=(U:Int):=by lia
  have yN:Mb (U+1)=801+4*Mb U:=rfl;have qP:=j.nm.up x;refine⟨_,rfl,rfl,_,rfl,Bx (fun _=>?_) (fun _=>?_)⟩
  ·refine⟨_,rfl,_,rfl,c,2,nm,ys,rfl,by decide,qP,fun v td H3 s3 sm=>⟨Ac,fun t2 QA=>?_⟩⟩;have wF:=s3.free QA;refine ret _ (.JL td) _ (s3.trans (AF.new QA)) ⟨.tup (.of (by rw[Fo x wF,AD])) (.cons (.str _) (.cons (sm.val.up (fu x (fun b h=>h) fun b o _ e=>(AF.new QA) _ _ e)) .nil)),?_,rfl,by simp only[AL.size];lia,by simp only[AL.deep];lia⟩;have z:=sm.size;have z2:=Pt.ME td;simp only[AL.ok];exact⟨sm.doc,by lia,by lia⟩
  refine⟨_,rfl,_,_,rfl,rfl,_,rfl,Bx (fun _=>?_) (fun _=>?_)⟩
  ·exact⟨_,rfl,_,rfl,G,p,u,A,b,ks,rfl,x,j.as,x2,x3,x4,fun v m H3 s3 g _=>ret v m H3 s3 ⟨g.val,g.ok,g.gd,by have:=g.sz;lia,by have:=g.dp;lia⟩⟩
  refine⟨_,rfl,_,_,rfl,rfl,_,rfl,Bx (fun _=>?_) (fun _=>?_)⟩
  ·refine⟨_,rfl,_,rfl,_,rfl,_,rfl,_,rfl,G,A,l,D,nm,ws,ys,O,c,U,rfl,⟨x,gl,j.as,j.td,j.nm,UU,by lia⟩,by lia,fun v m qQ H3 nE cu wG g=>?_⟩;exact q v m qQ H3 (S.trans nE) cu (by lia) ⟨g.val.up (BL qO fun b o _ e=>e),g.ok,g.gd,g.sz,by have:=g.dp;lia⟩
  dsimp only[ZT];refine Fb (t:=QL (Lb _ _ _ _) _) (fun J H1=>∃(rv:V)(o:Option (List Key)),J=[some (.ref l),some (.int ((U+1:Nat):Int)),some (.ref D),some (.ref nm),some (.int c),some (.int kd),some (.ref p),some u,some rv,none]/\AF H2 H1/\((rv=.Ah/\o=none)∨∃p2 a B,rv=.ref p2/\o=some a/\UG G A ws p2 a (.row B true))) ?_ ?_;rotate_left
  ·intro go;refine⟨_,rfl,_,rfl,G,c,3,D,"row",A,ws,rfl,by decide,x,j.as,j.td,.inl rfl,fun H1 s1=>go _ _ ⟨.Ah,none,rfl,s1,.inl ⟨rfl,rfl⟩⟩,fun p2 a b2 H1 s1 pk op=>?_⟩;rcases op with⟨_,B,rfl⟩|⟨e,_⟩
   ·exact go _ _ ⟨.ref p2,some a,rfl,s1,.inr ⟨p2,a,B,rfl,rfl,pk⟩⟩
   ·exact absurd e (by decide)
  rintro J H3 ⟨rv,o,rfl,s3,ro⟩;have cu:=s3 _ _ UU;have nF:=x.trans s3;have wH:H3 l≠none:=by rw[cu];exact fun z=>nomatch z
  have yO:=qP.up s3;have yP:nm≠l:=fun z=>by have:=j.nm.at_;rw[z,gl]at this;cases this
  refine⟨_,rfl,c,4,rfl,by decide,fun r4 _ _=>⟨_,_,rfl,rfl,(by show(0:Int)<_;decide),?_⟩⟩;have m4:=DL r4 (n:=4) (by decide);obtain⟨k4,mN⟩:∃k:Nat,r4 % 4=(k:Int):=⟨(r4 % 4).toNat,by lia⟩;have mO:k4<4:=by lia
  rw[mN];refine⟨k4,rfl,by lia,by lia,?_⟩;refine Jd G (some l) k4 (fun i=>.int (0+(i:Int))) (fun i us H4=>∃(M:List AL)(L:List Int),us=AL.CO M/\H4 l=some (.lst (L.map V.int))/\L.length<=O.length/\AL.DW M/\AL.FJ A M=true/\AL.AI M<=i*Mb U/\AL.AJ M<=U+2) (by lia) (fun D2 X=>⟨[],O,rfl,by rw[AH (fun z=>by rw[<-z,cu]at X;cases X)];exact cu,Nat.le_refl _,trivial,rfl,by simp[AL.AI],by simp[AL.AJ]⟩) (fun i us H4 D2 I bt X ⟨M,L,h1,h2,h3⟩=>⟨M,L,h1,by rw[AH (fun z=>by rw[<-z,cu]at X;cases X)];exact h2,h3⟩) (fun l' z=>by cases z;exact wH) (fun i us H4 hi s iv=>hi) (fun i us H4 v H' hi s iv y=>⟨y.2,y.1⟩) (fun us H4 s iv=>Nat.le_refl _) (fun i us H4 R hi bt ⟨M,L,e1,e2,e3,e4,e5,e6,e7⟩ lu k=>?_) (fun D2 H4 I us X bt d2 lu vl ⟨M,L,e1,e2,e3,e4,e5,e6,e7⟩=>?_)
  ·have jS:AF G H4:=fun b e h=>bt.keep b e (fun z=>by rw[yq z,h]at gl;cases gl) (nF _ _ h);refine⟨_,rfl,_,rfl,_,_,rfl,rfl,_,rfl,_,rfl,G,A,l,D,nm,ws,ys,L,U,by rw[ed];rfl,⟨jS,gl,j.as,j.td,j.nm,e2,by lia⟩,by lia,fun v m wI H5 jC mS pR g=>k v m.pt H5 jC g.val ⟨M++[m],wI,?_,mS,by lia,AL.Cm e4 ⟨g.ok,trivial⟩,?_,?_,?_⟩⟩
   ·rw[AL.Ck,e1];rfl
   ·rw[AL.Bw,List.all_append,<-AL.Bw,e5];simp[g.gd]
   ·rw[AL.Ab,Nat.add_mul];simp only[AL.AI];have:=g.sz;lia
   ·rw[AL.Az];simp only[AL.AJ];have:=g.dp;lia
  subst e1;have yQ:M.length=k4:=by rw[AL.AW,List.length_map]at lu;exact lu
  dsimp only;have jS:AF G H4:=fun b e h=>bt.keep b e (fun z=>by rw[yq z,h]at gl;cases gl) (nF _ _ h);have yR:H4 D2≠none:=by rw[d2];exact fun z=>nomatch z
  refine Fb (t:=Ny _ _ _) (fun J H'=>∃(D5:Addr)(nG:List V)(fs:List AL),J=[some (.ref l),some (.int ((U+1:Nat):Int)),some (.ref D),some (.ref nm),some (.int c),some (.int kd),some (.ref p),some u,some rv,some (.ref D5)]/\AF H4 H'/\H3 D5=none/\H' D5=some (.lst nG)/\AS (ov G H3 H') nG (AL.CO fs)/\AL.DW fs/\AL.FJ A fs=true/\AL.AI fs<=799+3*Mb U/\AL.AJ fs<=U+2/\fs.length<=802) ?_ ?_;rotate_left
  ·intro go;have mz:AL.AI M<=3*Mb U:=Nat.le_trans e6 (Nat.mul_le_mul_right _ (by lia));have out:=go _ _ ⟨D2,I,M,rfl,AF.refl _,X,d2,vl,e4,e5,by lia,e7,by lia⟩;rcases ro with⟨rfl,rfl⟩|⟨p2,a,B,rfl,rfl,pk⟩
   ·exact⟨_,rfl,rfl,_,rfl,BF rfl (BE out)⟩
   ·refine⟨_,rfl,rfl,_,rfl,Cv rfl ?_⟩;refine⟨_,rfl,c,5,rfl,by decide,fun r5 _ _=>⟨_,_,rfl,rfl,(by show(0:Int)<_;decide),rfl,_,rfl,Bx (fun _=>?_) (fun _=>out)⟩⟩;refine⟨_,rfl,_,rfl,Gj j.td jS fun pd H5 s5 n5 kn=>?_⟩;have nH:=jS.trans s5;obtain⟨kvs,h1,h2⟩:=kn.ex;obtain⟨u2,k2,v2⟩:=h2 p2 a _ pk;refine⟨_,rfl,pd,u2,rfl,.inr ⟨kvs,a,p2,.inl h1,rfl,nH _ _ pk.WX,k2.symm⟩,?_⟩;refine⟨G,p2,u2,A,.row B true,a,rfl,nH,j.as,pk.WX,pk.sub,v2,fun w2 m H6 s6 g wJ=>?_⟩;obtain⟨fs,rfl,yS⟩:=wJ B true rfl;have sO:AF (ov G H5 H6) H6:=Gb nH s6;have Yz:=g.ok;have cR:=g.gd;have nJ:=g.sz;have qR:=g.dp;simp only[AL.ok]at Yz;simp only[AL.good,Bool.and_eq_true]at cR;simp only[AL.size]at nJ;simp only[AL.deep]at qR;obtain⟨tw,w1,rest,rfl,wL,wM⟩:=g.val.lJ;rcases wM with⟨_,_,e,_⟩|⟨_,_,e,_⟩|⟨h_,o',ua,z,e,rfl,rfl,wN,hz⟩|⟨_,_,_,_,_,e,_⟩
    ·cases e
    ·cases e
    ·cases e;obtain⟨a1,cw,rfl,Ud,r1⟩:=wN.KJ;refine⟨tw,_,1,_,rfl,rfl,wL.up sO,CD,?_⟩;have s46:=s5.trans s6;refine⟨_,rfl,1,rfl,D2,I,rfl,As.of (s46 _ _ d2),fun q1 Np=>?_⟩;have ec:MW I (some 1) none=I.drop 1:=IH I 1;rw[ec];obtain⟨H7,eH,sq,fq⟩:=DA (o:=.lst (I.drop 1)) Np;rw[eH];clear eH;have lv:=r1.length;have lw:=vl.length;rw[AL.AW,List.length_map]at lv lw;refine⟨a1,q1,cw,I.drop 1,rfl,rfl,(Ud.up (sO _)).up (sq _),.inl fq,An (by rw[List.length_drop];lia),fun p9 qS=>?_⟩;have s9:=AF.new (o:=.lst (cw++I.drop 1)) qS;have S9:=(s46.trans sq).trans s9;obtain⟨g1,g2,g3,g4⟩:=AL.Yf (A:=A) (N:=0) (d:=0) 1 e4 e5;refine go _ _ ⟨p9,_,fs++M.drop 1,rfl,S9,bt.EC _ ((s46.trans sq).free qS),AD,?_,AL.Cm Yz.2.2 g1,?_,?_,?_,?_⟩
     ·rw[AL.Ck];refine(r1.up (BL (fun b h=>bt.EC b (s5.free h)) fun b o _ e=>(sq.trans s9) _ _ e)).append ?_;have e:AL.CO (M.drop 1)=(AL.CO M).drop 1:=by rw[AL.AW,AL.AW,List.map_drop]
      rw[e];exact(AS.SR vl 1).up (BL (fun b h=>h) fun b o _ e=>S9 _ _ e)
     ·rw[AL.Bw,List.all_append,<-AL.Bw,<-AL.Bw,cR.2,g2];rfl
     ·rw[AL.Ab];lia
     ·rw[AL.Az];lia
     ·rw[List.length_append,List.length_drop];lia
    ·cases e
  rintro J H7 ⟨D5,nG,fs,rfl,s7,n5,d5,wO,mT,wQ,pU,pV,l5⟩;refine⟨_,rfl,_,rfl,Fu,fun t7 qT=>?_⟩;have n37:∀b,H7 b=none->H3 b=none:=fun b h=>bt.EC b (s7.free h);have vz:Val (ov G H3 H7) rv (FP o):=by
   rcases ro with⟨rfl,rfl⟩|⟨p2,a,B,rfl,rfl,pk⟩
   ·exact .Ah
   ·exact Ej (.of (Dt _ _ pk.WX))
  have v7:=RI nF n37 n5 d5 wO vz qT;have s78:=AF.new (o:=.tup [.str "row",.ref D5,rv]) qT;refine q _ (.row fs o) L _ ⟨fun b e n h=>s78 _ _ (s7 _ _ (bt.keep b e n (s3 _ _ (S.keep b e n h)))),fun b h=>S.EC b (s3.free (n37 b (s78.free h)))⟩ (s78 _ _ (s7 _ _ e2)) (by lia) ⟨v7.up (BL (fun b h=>S.EC b (s3.free h)) fun b o _ e=>e),?_,?_,?_,?_⟩
  ·simp only[AL.ok];refine⟨by lia,?_,mT⟩;rcases ro with⟨rfl,rfl⟩|⟨p2,a,B,rfl,rfl,pk⟩
   ·trivial
   ·have:=(j.as.len pk.sub).1;show a.length<=200;lia
  ·simp only[AL.good,Bool.and_eq_true];refine⟨?_,wQ⟩;rcases ro with⟨rfl,rfl⟩|⟨p2,a,B,rfl,rfl,pk⟩
   ·rfl
   ·show AL.LV A a=true;unfold AL.LV;rw[pk.sub]
  ·simp only[AL.size];lia
  ·simp only[AL.deep];lia
theorem XS{f g:Addr}{i j:FuncData}(F:Co K "_law_makes" "_law_makes" Nb f i)(k:Co K "_law_table" "_law_table" Na g j)(T:Txt mg)(b:Binds K i ["_law_cells","_law_deep","_law_told_here","_law_names_here"] [])(m:mg "_law_makes"=some (.ref f))(l:Binds K j ["_law_cells","_law_cell_here","_law_deep","_law_told_here","_law_names_here"] [])(o:mg "_law_table"=some (.ref g))(c:Df P w K mg base "_law_mix" ["_law_cell_here","_law_k"] 1 Ea)(d:Df P w K mg base "_law_doc" ["_law_cell_here","_law_k","_law_names_here"] 2 Ga)(e:Df P w K mg base "_law_out" ["_law_path","_law_there"] 2 RK)(a:Df P w K mg base "_law_open" ["_law_cell_here","_law_k","_law_told_here","_law_word"] 2 SV):∀n:Nat,Au P w K mg base CK n f i ["_law_cells","_law_deep","_law_told_here","_law_names_here"] (Hq n)/\Au P w K mg base CK n g j ["_law_cells","_law_cell_here","_law_deep","_law_told_here","_law_names_here"] (NK n)
 |0=>⟨Iq (fun vs H Q E h=>by obtain⟨_,_,_,_,_,_,_,_,_,_,_,q,_⟩:=h;omega),Iq (fun vs H Q E h=>by obtain⟨_,_,_,_,_,_,_,_,_,_,_,_,q,_⟩:=h;omega)⟩
 |n+1=>by
  obtain⟨p,r⟩:=XS F k T b m l o c d e a n;exact⟨XR F T c d e a (Df.mk' k l o r) (Df.mk' F b m p),XQ k T c a (Df.mk' F b m p)⟩
theorem XT:AZ ["_law_doc_here","_law_path","_law_step"] ["_law_doc_here","_law_path"] (AM Wx):={}
theorem ZP(F:Co K "_law_part" "_law_part" Wx f J)(T:Txt mg):Au P w K mg base CK 1 f J ["_law_doc_here","_law_path"] NT:=by
 refine F.oq XT fun N A outer s H vs Q E O h=>?_
 ·obtain⟨G,v,t,u,p,g,rfl,L,R,M,m,q⟩:=h;have nd:=XT.nd;have S:=BJ O;refine⟨_,(AB (LC (Jj (pv 1)) (CJ 2 nd) (AG (Ae 0 nd (Dq (FF K (pv 0) (pv 2)) (LY S (pv 0) (pv 2)))))) (AG (AQ (pv 0)))),?_⟩;refine⟨_,rfl,p,rfl,⟨_,M⟩,JN (K:=K) (xs:=g.map kV) (fun i l c=>∃(x:V)(s:Pt)(o:Option V),l=[some x,some (.ref p),o]/\s.sub (g.drop i)=some u/\Val G x s/\c=H) ⟨v,t,none,rfl,m,R,rfl⟩ (fun i l c _ ⟨_,_,_,_,_,_,e⟩=>by subst e;exact M) ?_ ?_⟩
  ·rintro i x l c d ⟨y,s,o,rfl,b,n,rfl⟩;rw[List.getElem?_map]at d;cases z:g[i]? with
   |none=>rw[z]at d;cases d
   |some k=>
    rw[z]at d;cases d;obtain⟨U,X⟩:=yo z;rw[List.drop_eq_getElem_cons U,X]at b;simp only[Pt.sub]at b;cases B:s.Fn k with
    |none=>rw[B]at b;cases b
    |some r=>
     rw[B]at b;obtain⟨w,Y,Z⟩:=n.WQ B;have fin:∃(x:V)(s:Pt)(o:Option V),[some w,some (.ref p),some (kV k)]=[some x,some (.ref p),o]/\s.sub (g.drop (i+1))=some u/\Val G x s/\c=c:=⟨w,r,_,rfl,b,Y,rfl⟩;cases Z with
     |pl a xs j C D x2 I=>exact .inl ⟨_,rfl,_,rfl,a,_,_,_,C,x2,.inl (L.rd _ _ D),Av I,fin⟩
     |nm a kvs C D I=>exact .inr ⟨_,rfl,_,rfl,a,w,C,.inl ⟨_,k,L.rd _ _ D,rfl,I.symm⟩,fin⟩
  ·rintro l c ⟨y,s,o,rfl,b,n,rfl⟩;rw[List.length_map,List.drop_length]at b;simp only[Pt.sub,Option.some.injEq]at b;subst b;exact⟨_,rfl,q y n⟩
theorem Su:AZ ["_law_makes_here","_law_known","_law_doc_here","_law_cells","_law_names_here","_law_table_here","_law_name"] ["_law_makes_here","_law_known","_law_doc_here"] (AM Nc):={}
theorem XU(F:Co K "_law_made" "_law_made" Nc f fd)(T:Txt mg)(U:Df P w K mg base "_law_part" ["_law_doc_here","_law_path"] 1 NT)(Nk:Df P w K mg base "_law_made" ["_law_makes_here","_law_known","_law_doc_here"] n (Je n)):Au P w K mg base CK (n+1) f fd ["_law_makes_here","_law_known","_law_doc_here"] (Je (n+1)):=by
 refine F.oq Su fun Jr A outer s H vs Q E hr h=>?_
 ·obtain⟨G,v,d,kn,ws,m,g,t,rfl,kG,hv,Ax,Xa,jT,nM,hd,lt,mi,q⟩:=h;have nd:=Su.nd;have hu:=BJ hr;refine⟨_,(AB (Aa (AR BC (Br K 0) AU (AV _)) (AG (AQ (Br K 0))) AN) (AB (Aa (AR BC (Br K 0) AU (AV _)) (AG (AQ (BY U hr.mm (AA (pv 2) (AX (Br K 0)))))) AN) (AB (Aa (AR BC (Br K 0) AU (AV _)) (AB (Es (i:=3) (fv:=["_law_known","_law_doc_here"]) (fs:=[1,2]) rfl (.of (by rfl)) nd rfl (Or.inl rfl) (CT (Br K 0)) (fun _ _ _ _=>Fz) (fun C s0 H0 fp=>(BY Nk hr.mm (AA (pv 0) (AA (pv 1) (AX (pv 2))))))) (AB (Aa (AR JO (Br K 0) CW (AV _)) (AG (Ae 3 nd (AO Jn (pv 3) (DK (r:=Uv K) JR (BY U hr.mm (AA (pv 2) (AX (Br K 0)))) (DX (Fv T.len (FG (r:=MX K) FR (show PE _ _ (RS K _ _)from Pk hu (pv 1) (Br K 0) (fun _ _=>rfl)) AE (fun _ _=>rfl)))) Eo)))) AN) (AG (AQ (pv 3))))) AN) (AB (Ae 4 nd (A' (CB rfl) rfl T.dict CZ (AX (Mo (cmp ["_law_known","_law_doc_here","_law_makes_here"] [1,2,0] (F' (Br K 0)) fun _ _ _ _=>(Ad (AA (pv 0) (AX (BY Nk hr.mm (AA (LY hu (Br K 3) (pv 0)) (AA (pv 1) (AX (pv 2))))))))))))) (AB (Aa (AR JO (Br K 0) CW (AV _)) (AB (Ae 5 nd (BY U hr.mm (AA (pv 2) (AX (Br K 0))))) (AG (Mp (LC (F' (pv 5)) (CJ 6 nd) (AG (Aa (QH (Lk hu (pv 6) (FG (r:=MX K) FR (show PE _ _ (RS K _ _)from Pk hu (pv 1) (Br K 0) (fun _ _=>rfl)) AE (fun _ _=>rfl)))) (AG (D' hu (pv 4) (pv 6) (LY hu (pv 5) (pv 6)) rfl)) AN)))))) AN) (AG (AQ (pv 4)))))))),?_⟩;obtain⟨J,w0,rest,rfl,Sl,kinds⟩:=hv.lJ;have M:=Sl.Lr kG;have gone:m.one g=true:=by rw[AL.Jb,Bool.and_eq_true]at Xa;exact Xa.1
  have iE:∀x∈m.kids,x.good g=true:=by rw[AL.Jb,Bool.and_eq_true,List.all_eq_true]at Xa;exact Xa.2
  refine⟨_,rfl,J,_,0,_,rfl,rfl,M,B',rfl,_,rfl,?_⟩;have uR:=lt.dp;have uS:=lt.sz;have told:∀{p:List Key}{b:Ak},g.sub p=some b->∃kvs u,H kn=some (.dT kvs)/\BQ kvs p=some u/\Val G u b.pt:=fun{p b} e=>by
   obtain⟨kvs,X,h2⟩:=jT;obtain⟨w,mw,t,pa,u,rfl,g1,g2⟩:=nM p b e;obtain⟨u',g3,g4⟩:=h2 pa p b ⟨⟨t,u,mw,g1⟩,g2,e⟩;exact⟨kvs,u',X,g3,g4⟩
  rcases kinds with⟨p,x,rfl,rfl,rfl,hx⟩|⟨e,x,rfl,rfl,rfl,hx⟩|⟨xs,o,x,z,rfl,rfl,rfl,hx,hz⟩|⟨L,xs,o,x,z,rfl,rfl,rfl,hx,hz⟩
  ·refine BO ⟨_,rfl,J,_,0,_,rfl,rfl,M,B',rfl,_,rfl,DB ?_⟩;obtain⟨pa,rfl,Y⟩:=hx.path;have gs:(g.sub p).isSome=true:=gone;obtain⟨b,B⟩:=Option.isSome_iff_exists.mp gs;obtain⟨y,X,h2,h3,h4,_,_⟩:=lt.sub B;refine⟨_,rfl,_,rfl,J,_,1,_,rfl,rfl,M,CD,G,d,t,y,pa,p,rfl,kG,hd,Y.Lr kG,X,fun w vw=>q w H (AF.refl _) ?_⟩;simp only[AL.made,X,Option.getD_some];exact vw.up Dt
  ·exact DB ⟨_,rfl,J,_,1,_,rfl,rfl,M,CD,q _ H (AF.refl _) (by simp only[AL.made];exact hx.up Dt)⟩
  ·refine BO ⟨_,rfl,J,_,0,_,rfl,rfl,M,B',rfl,_,rfl,BO ?_⟩;refine⟨_,rfl,J,_,0,_,rfl,rfl,M,B',rfl,_,rfl,DB ?_⟩;have N:=Ax;simp only[AL.ok]at N;simp only[AL.deep]at mi;obtain⟨a1,cw,rfl,jU,r1⟩:=hx.KJ;have Z:=kG.rd _ _ jU;have lv:=r1.length;rw[AL.AW,List.length_map]at lv;refine⟨_,rfl,J,_,1,_,rfl,rfl,M,CD,a1,rfl,⟨_,.inl Z⟩,?_⟩;refine Jd G none xs.length (fun i=>cw.getD i .Ah) (fun i us c=>us=AL.EF g t (xs.take i)) (by lia) (fun D hD=>rfl) (fun i us c D ws s hD I=>I) (fun l z=>nomatch z) (fun i us c hi s I=>⟨_,_,.inl (Z.up (s.same _)),yn (by lia)⟩) (fun i us c v H' hi s I y=>?_) (fun us c s I=>⟨_,.inl (Z.up (s.same _)),by lia⟩) (fun i us c R hi s I lu k=>?_) (fun D c a us hD s d2 lu vl I=>?_)
   ·obtain⟨e,y⟩:=y;refine⟨?_,e⟩;have:=y _ (.inl (Z.up (s.same _)));rw[List.getD_eq_getElem?_getD,this];rfl
   ·obtain⟨b,B⟩:∃b,xs[i]?=some b:=⟨_,yn hi⟩;obtain⟨y,hy⟩:∃y,cw[i]?=some y:=⟨_,yn (by lia)⟩;obtain⟨ty,g1,g2⟩:=r1.get hy;rw[AL.AW,List.getElem?_map,B]at g1;cases g1;have bm:=yr B;have zd:=AL.Ap bm;have ev:cw.getD i .Ah=y:=by rw[List.getD_eq_getElem?_getD,hy];rfl
    rw[ev];refine⟨_,rfl,_,rfl,_,rfl,G,y,d,kn,ws,b,g,t,rfl,kG.trans (.of s.same),g2,AL.Cz N.2.2 b bm,iE b bm,jT.up fun o e=>s.same _ _ e,nM,hd,lt,by lia,fun w H3 s3 v3=>k w _ H3 (.of s3) v3 ?_⟩;rw[I,List.take_add_one,B,AL.DI,AL.DI];simp
   ·rw[List.take_length]at I;subst I;have s2:=s.same;have QA:=M.up s2;refine⟨_,rfl,J,_,2,_,rfl,rfl,QA,at2,rfl,_,rfl,?_⟩;cases o with
    |none=>
     cases hz;refine BE ⟨_,rfl,q _ c s2 ?_⟩;show Val _ _ (.lst (AL.EF g t xs++[]));rw[List.append_nil];exact .lst (.inl (by rw[NS kG hD];exact d2)) vl
    |some pk=>
     obtain⟨pa,rfl,Y⟩:=hz.path;obtain⟨uT,S,e1,e2,l2,h2,h3,h4,et⟩:=AL.RO lt (show AL.LV g pk=true from gone);have k2:GB G c:=kG.trans (.of s2);refine Cc ⟨_,rfl,_,rfl,_,rfl,J,_,2,_,rfl,rfl,QA,at2,G,d,t,.lst S,pa,pk,rfl,k2,hd,Y.Lr k2,e2,fun w2 v2=>?_⟩;obtain⟨a2,Zu,rfl,ZA,r2⟩:=v2.KJ;obtain⟨kvs,u0,Zc,nN,LA⟩:=told e1;obtain⟨tf,wf,rf,rfl,hf,kf⟩:=LA.ak;rcases kf with⟨z,_⟩|⟨_,_,z,_⟩|⟨uU,m2,u2,z,rfl,rfl,gj⟩|⟨_,_,_,_,_,_,z,_⟩
     ·cases z
     ·cases z
     ·cases z;obtain⟨a3,cU,rfl,gq,r4⟩:=gj.KJ;have l4:=r4.length;rw[Ak.AW,List.length_map]at l4;refine⟨_,rfl,_,rfl,J,_,2,_,rfl,rfl,QA,at2,kn,pa,kvs,pk,_,rfl,rfl,s2 _ _ Zc,Y.Lr k2,nN,tf,_,1,_,rfl,rfl,hf.Lr k2,CD,a3,cU,rfl,.inl (.inl (k2.rd _ _ gq)),_,rfl,a2,Zu,rfl,.inl (k2.rd _ _ ZA),fun q1 Np=>?_⟩;rw[IH];obtain⟨H4,eH,s4,f4⟩:=DA (o:=.lst (Zu.drop cU.length)) Np;rw[eH];clear eH;have lr:=r2.length;have ly:=Pt.Cr S;simp only[Pt.size]at h3;have dW:=vl.length;refine⟨D,q1,_,_,rfl,rfl,s4 _ _ d2,f4,HW (by rw[List.length_drop];lia),fun p5 QG=>?_⟩;have s5:=AF.new (o:=.lst (a++Zu.drop cU.length)) QG;have S5:=(s2.trans s4).trans s5;refine⟨_,rfl,q _ _ S5 ?_⟩;show Val _ _ (.lst (AL.EF g t xs++AL.GR g t (some pk)));rw[et,<-l4];exact .lst (.inl (by rw[NS kG ((s2.trans s4).free QG),AD])) ((vl.up (EE (s4.trans s5))).append ((r2.SR _).up Dt))
     ·cases z
  ·refine BO ⟨_,rfl,J,_,0,_,rfl,rfl,M,B',rfl,_,rfl,BO ?_⟩;refine⟨_,rfl,J,_,0,_,rfl,rfl,M,B',rfl,_,rfl,BO ?_⟩;have N:=Ax;simp only[AL.ok]at N;obtain⟨o1,o2,o3,_,o5⟩:=N;simp only[AL.deep]at mi;obtain⟨a1,iF,rfl,jU,Nq,r1⟩:=hx.Oj;have Z:=kG.rd _ _ jU;have kl:iF.length=L.length:=by have:=congrArg List.length Nq;simpa using this
   refine⟨a1,_,Z,fun oF Hf F=>⟨_,rfl,J,_,1,_,rfl,rfl,M.Lr (GB.Ba F),CD,a1,oF,_,rfl,F.at_,?_⟩⟩;have wR:Known (K:=K) G Hf g ws kn:=jT.up fun o e=>by
    obtain⟨kvs,X,_⟩:=jT;have B:kn≠a1:=fun z=>by rw[z]at X;rcases Z with h|⟨_,h⟩<;>rw[X]at h<;>cases h
    rw[F.ne kn B];exact e
   have kF:GB G Hf:=kG.trans (GB.Ba F);refine Ki G none xs.length (fun i=>.str (L.getD i "")) L (fun i us c=>us=AL.EF g t (xs.take i)) (by lia) (fun D hD=>rfl) (fun i us c D ws s hD I=>I) (fun l z=>nomatch z) (fun i us c hi s I=>⟨s.same _ _ F.at_,by lia⟩) (fun i us c v H' hi s I y=>?_) (fun us c s I=>⟨s.same _ _ F.at_,by lia⟩) (fun i us c R hi s I lu k=>?_) (fun D c qs a us hD s d2 lq lu tt vl I=>?_)
   ·obtain⟨e,k,w',e1,e2⟩:=y;rw[(Qp Nq e1).2]at e2;exact⟨e2,e⟩
   ·obtain⟨x,ux,g1,g2,g3⟩:=Mx Nq r1 o2 (i:=i) (by lia);obtain⟨b,B⟩:∃b,xs[i]?=some b:=⟨_,yn hi⟩;rw[AL.AW,List.getElem?_map,B]at g2;cases g2;have bm:=yr B;have zd:=AL.Ap bm;have k2:GB G c:=kF.trans (.of s.same);refine⟨_,rfl,_,rfl,J,_,1,_,rfl,rfl,Sl.Lr k2,CD,_,rfl,a1,x,rfl,.inl ⟨iF,Sum.inr (L.getD i ""),k2.rd _ _ jU,rfl,g1.symm⟩,_,rfl,_,rfl,G,x,d,kn,ws,b,g,t,rfl,k2,g3,AL.Cz o5 b bm,iE b bm,wR.up fun o e=>s.same _ _ e,nM,hd,lt,by lia,fun w H3 s3 v3=>⟨Ac,fun t M=>k w _ H3 t (.of s3) v3 ?_ M⟩⟩;rw[I,List.take_add_one,B,AL.DI,AL.DI];simp
   ·refine⟨s.same _ _ F.at_,?_⟩;rw[List.take_length]at I;subst I;have sb:=F.back s.same;have ba:∀b,b≠a1->back a1 H c b=c b:=fun b B=>Cy B;have Da:D≠a1:=(F.free hD).2;have lw:=vl.length;have el:L.length=a.length:=by lia
    refine⟨D,qs,Cb L a,rfl,As.of (by rw[ba D Da];exact d2),by rw[B_ el];lia,fun j k v e=>?_,by rw[B_ el];lia,fun p hp=>?_⟩
    ·obtain⟨x,X,h2,h3⟩:=HQ e;obtain⟨t,M⟩:∃t,qs[j]?=some t:=⟨_,yn (by have:=(yo X).1;lia)⟩;obtain⟨g2,g3⟩:=tt j t v M h2;refine⟨t,M,?_⟩;rw[ba t (F.free g3).2,g2,h3,List.getD_eq_getElem?_getD,X];rfl
    rw[Di el o2];have np:H p=none:=sb.free hp;have cc:AS (ov G H (back a1 H c)) a (AL.EF g t xs):=vl.up fun b e h=>by
     unfold ov at h⊢;cases hG:G b with
     |some z=>rw[hG]at h;exact h
     |none=>
      rw[hG]at h;simp only at h⊢;cases X:Hf b with
      |some z=>rw[Bz X]at h;cases h
      |none=>
       rw[AY X]at h;rw[AY (F.free X).1,ba b (F.free X).2];exact h
    have nO:AF (back a1 H c) (upd (back a1 H c) p (.dK (Cb L a))):=AF.new hp;have S3:AF H (upd (back a1 H c) p (.dK (Cb L a))):=sb.trans (AF.new hp);have fp:upd (back a1 H c) p (.dK (Cb L a)) p=some (.dK (Cb L a)):=AD;generalize upd (back a1 H c) p (.dK (Cb L a))=H3 at nO S3 fp⊢;have jP:=M.up S3;have gp:G p=none:=kG.free np;refine⟨_,rfl,J,_,2,_,rfl,rfl,jP,at2,rfl,_,rfl,?_⟩;cases o with
    |none=>
     cases hz;refine BE ⟨_,rfl,q _ H3 S3 ?_⟩;show Val _ _ (.Ar (L++[]) (AL.EF g t xs++[]));rw[List.append_nil,List.append_nil];exact .Ar (.inl (by rw[NS kG np];exact fp)) (Bn el) (by rw[CP el];exact cc.up (EE nO))
    |some pk=>
     obtain⟨pa,rfl,Y⟩:=hz.path;obtain⟨kt,xt,lt',mn,S,e1,e2,h2,h3,h4,h5,h6,h7,et⟩:=AL.RP lt (show AL.LW g L pk=true from gone);have Rk:=AL.NR lt gone;have k3:GB G H3:=kG.trans (.of S3);refine Cc ⟨_,rfl,_,rfl,J,_,2,_,rfl,rfl,jP,at2,G,d,t,.Ar mn S,pa,pk,rfl,k3,hd,Y.Lr k3,e2,fun w2 v2=>?_⟩;obtain⟨a2,O,rfl,ZA,YS,r2⟩:=v2.Oj;have dX:=k3.rd _ _ ZA;have XA:p≠a2:=fun z=>by
      rcases ZA with h|⟨_,h⟩<;>rw[<-z,gp]at h<;>cases h
     obtain⟨kvs,u0,Zc,nN,LA⟩:=told e1;have wU:kn≠a2:=fun z=>by
      have:=S3 _ _ Zc;rw[z]at this;rcases dX with h|⟨_,h⟩<;>rw[this]at h<;>cases h
     have wV:kn≠p:=fun z=>by rw[z,np]at Zc;cases Zc
     obtain⟨tf,wf,rf,rfl,hf,kf⟩:=LA.ak;rcases kf with⟨z,_⟩|⟨_,_,z,_⟩|⟨_,_,_,z,_⟩|⟨nC,h_,yT,m',u',z',e,rfl,rfl,gj,yU⟩
     ·cases z
     ·cases z
     ·cases z
     cases e;obtain⟨a3,wW,rfl,gq,hJ,r3⟩:=gj.Oj;simp only[Pt.doc]at h2;obtain⟨d1,dn,d3,d4,d5⟩:=h2;have l2:O.length=mn.length:=by have:=congrArg List.length YS;simpa using this
     refine⟨a2,_,dX,fun qU qV F2=>⟨_,rfl,a2,qU,_,rfl,F2.at_,?_⟩⟩;have kP:GB G qV:=k3.trans (GB.Ba F2);have fl:∀i:Nat,((mn.zip S).take (i+1)).filter (fun q=>decide (q.1∉kt))=((mn.zip S).take i).filter (fun q=>decide (q.1∉kt))++(((mn.zip S)[i]?.toList).filter fun q=>decide (q.1∉kt)):=fun i=>by rw[List.take_add_one,List.filter_append]
     refine J' (fun i σ Hi=>∃(rv:List V)(o7:Option V),σ=[some (.ref J),some (.ref kn),some d,none,some (.ref p),some (.ref a2),o7]/\(∀b,b≠p->Hi b=qV b)/\Hi p=some (.dK (Cb (L++(((mn.zip S).take i).filter fun q=>decide (q.1∉kt)).map (·.1)) (a++rv)))/\AS G rv ((((mn.zip S).take i).filter fun q=>decide (q.1∉kt)).map (·.2)))
      ⟨[],none,rfl,fun b _=>rfl,by rw[F2.ne p XA,fp];simp,.nil⟩ (fun i σ Hi _ ⟨_,_,_,FL,_⟩=>by rw[FL a2 (Ne.symm XA)];exact F2.at_) ?_ ?_
     ·rintro i key y σ Hi hy ⟨rv,o7,rfl,FL,Nn,vr⟩;obtain⟨hi,_⟩:=yo hy;obtain⟨nm,Uc⟩:∃nm,mn[i]?=some nm:=⟨_,yn (by lia)⟩;obtain⟨ty,g1,g2⟩:=r2.get (show(O.map (·.2))[i]?=some y by rw[List.getElem?_map,hy];rfl);have ek:key=Sum.inr nm:=by
       have:=congrArg (fun z=>z[i]?) YS;simp only[List.getElem?_map,hy,Uc]at this;simpa using this
      subst ek;have zi:(mn.zip S)[i]?=some (nm,ty):=List.getElem?_zip_eq_some.mpr ⟨Uc,g1⟩;have kI:GB G Hi:=GB.but kP (fun u r=>by rcases r with h|⟨_,h⟩<;>rw[gp]at h<;>cases h) fun b e B h=>by rw[FL b B];exact h
      have mJ:(O.map (·.1)).Nodup:=by rw[YS];exact List.pairwise_map.mpr (dn.imp fun h e=>h (Sum.inr.inj e))
      have wX:Hi kn=some (.dT kvs):=by rw[FL kn wV,F2.ne kn wU];exact S3 _ _ Zc
      refine⟨_,rfl,_,rfl,_,rfl,J,_,2,_,rfl,rfl,Sl.Lr kI,at2,kn,pa,kvs,pk,_,rfl,rfl,wX,Y.Lr kI,nN,tf,_,1,_,rfl,rfl,hf.Lr kI,CD,a3,_,rfl,.inl ⟨wW,Sum.inr nm,kI.rd _ _ gq,rfl,rfl⟩,_,rfl,?_⟩;rw[MG hJ];by_cases Xf:nm∈kt
      ·rw[decide_eq_true Xf];refine BE ⟨rv,_,rfl,FL,?_,?_⟩
       ·rw[fl,zi];simpa[Xf]using Nn
       ·rw[fl,zi];simpa[Xf]using vr
      ·rw[decide_eq_false Xf];refine Cc ?_;have rd:Rd Hi a2 (.dK O):=.inr ⟨qU,by rw[FL a2 (Ne.symm XA)];exact F2.at_⟩;have lr:=vr.length;rw[List.length_map]at lr;have la:(L++(((mn.zip S).take i).filter fun q=>decide (q.1∉kt)).map (·.1)).length=(a++rv).length:=by rw[List.length_append,List.length_append,List.length_map];lia
       have mK:nm∉L++(((mn.zip S).take i).filter fun q=>decide (q.1∉kt)).map (·.1):=fun z=>by
        rcases List.mem_append.mp z with z|z
        ·refine Rk.ap nm ?_ z;rw[et];exact List.mem_map.mpr ⟨(nm,ty),List.mem_filter.mpr ⟨yr zi,decide_eq_true Xf⟩,rfl⟩
        ·obtain⟨q1,Np,eq1⟩:=List.mem_map.mp z;obtain⟨j,hj,ej⟩:=List.mem_take_iff_getElem.mp (List.mem_filter.mp Np).1;have zj:(mn.zip S)[j]?=some q1:=by rw[yn (by lia),ej]
         have mj:=(List.getElem?_zip_eq_some.mp zj).1;rw[eq1]at mj;have:=Gw dn mj Uc;lia
       have lf:(((mn.zip S).take i).filter fun q=>decide (q.1∉kt)).length<=64:=Nat.le_trans (List.length_filter_le _ _) (by rw[List.length_take,List.length_zip];lia);refine⟨_,rfl,_,rfl,a2,y,rfl,.inl ⟨_,Sum.inr nm,rd,rfl,(Hb mJ hy).symm⟩,_,rfl,_,rfl,p,_,rfl,.inl ⟨_,Sum.inr nm,Nn,rfl,Aw (by rw[B_ la,List.length_append,List.length_map];lia),rfl⟩,rv++[y],_,rfl,fun b B=>by rw[AH B];exact FL b B,?_,?_⟩
       ·rw[AD,JW la mK,fl,zi];simp[Xf]
       ·rw[fl,zi];simp only[Option.toList_some,List.filter_cons,Xf,not_false_eq_true,decide_true,if_true,List.filter_nil,List.map_append,List.map_cons,List.map_nil];exact vr.snoc g2
     ·rintro σ Hi ⟨rv,o7,rfl,FL,Nn,vr⟩;refine⟨by rw[FL a2 (Ne.symm XA)];exact F2.at_,?_⟩;have tk:(mn.zip S).take O.length=mn.zip S:=List.take_of_length_le (by rw[List.length_zip];lia);rw[tk]at Nn vr;rw[<-et]at Nn vr;have lr:=vr.length;rw[List.length_map]at lr;have la:(L++(AL.DR g t (some pk)).map (·.1)).length=(a++rv).length:=by rw[List.length_append,List.length_append,List.length_map];lia
      have gu:∀b o,b≠p->H3 b=some o->back a2 H3 Hi b=some o:=fun b o B e=>by
       by_cases h:b=a2
       ·rw[h,Eu,<-h];exact e
       ·rw[Cy h,FL b B,F2.ne b h];exact e
      refine⟨_,rfl,q (.ref p) _ (fun b o e=>gu b o (fun z=>by rw[z,np]at e;cases e) (S3 _ _ e)) ?_⟩;show Val _ _ (.Ar (L++(AL.DR g t (some pk)).map (·.1)) (AL.EF g t xs++(AL.DR g t (some pk)).map (·.2)));refine .Ar (.inl (by rw[NS kG np,Cy XA];exact Nn)) (Bn la) ?_;rw[CP la];refine(cc.up fun b o e=>?_).append (vr.up Dt);unfold ov at e⊢;cases hG:G b with
      |some z=>rw[hG]at e;exact e
      |none=>
       rw[hG]at e;simp only at e⊢;cases hH:H b with
       |some z=>rw[Bz hH]at e;cases e
       |none=>
        rw[AY hH]at e⊢;exact gu b o (fun z=>by rw[z,hp]at e;cases e) (nO _ _ e)
theorem MO{f:Addr}{c:FuncData}(F:Co K "_law_made" "_law_made" Nc f c)(T:Txt mg)(b:Binds K c ["_law_makes_here","_law_known","_law_doc_here"] [])(m:mg "_law_made"=some (.ref f))(a:Df P w K mg base "_law_part" ["_law_doc_here","_law_path"] 1 NT):∀n:Nat,Au P w K mg base CK n f c ["_law_makes_here","_law_known","_law_doc_here"] (Je n)
 |0=>Iq (fun vs H Q E h=>by obtain⟨_,_,_,_,_,_,_,_,_,_,_,_,_,_,_,_,_,d,_⟩:=h;omega)
 |n+1=>XU F T a (Df.mk' F b m (MO F T b m a n))
theorem Sv:AZ ["_law_asks_here","_law_cell_here","_law_names_here","_law_way","_law_number","_law_k","_law_more","_law_cells"] ["_law_asks_here","_law_cell_here","_law_names_here"] (AM RW):={}
theorem XW(F:Co K "_law_large" "_law_large" RW f fd)(T:Txt mg)(d:Df P w K mg base "_law_mix" ["_law_cell_here","_law_k"] 1 Ea):Au P w K mg base CK 2 f fd ["_law_asks_here","_law_cell_here","_law_names_here"] Rz:=by
 refine F.oq Sv fun Jr A outer s H vs Q E hr h=>?_
 ·obtain⟨v,a0,c,nm,ys,rfl,hv,Ax,za,da,qW,hn,q⟩:=h;have nd:=Sv.nd;have hu:=BJ hr;refine⟨_,(AB (Ae 3 nd (AO Aq (BY d hr.mm (AA (pv 1) (AX AE))) AE)) (AB (Ae 4 nd (BY d hr.mm (AA (pv 1) (AX AE)))) (AB (Aa (AR BC (pv 3) AE (AV _)) (AG (LC (Ao rfl T.range (AX (AO Bp AE (AO Aq (pv 4) AE)))) (CJ 5 nd) (AB (Ae 6 nd (Dz BC (AO Aq (AO By (BY d hr.mm (AA (pv 1) (AX AE))) (FF K (@BD _ _ _ _ (@AA _ _ _ _ _ (@AE _ _ _ _) (@AA _ _ _ _ _ (@AE _ _ _ _) (@AA _ _ _ _ _ (@AE _ _ _ _) (@AA _ _ _ _ _ (@AE _ _ _ _) (@AA _ _ _ _ _ (@AE _ _ _ _) (@AA _ _ _ _ _ (@AE _ _ _ _) (@AA _ _ _ _ _ (@AE _ _ _ _) (@AA _ _ _ _ _ (@AE _ _ _ _) (@AA _ _ _ _ _ (@AE _ _ _ _) (@AA _ _ _ _ _ (@AE _ _ _ _) CH rfl) rfl) rfl) rfl) rfl) rfl) rfl) rfl) rfl) rfl)) (pv 5))) AE) AE (AV _))) (AG (Aa (AR BC (AO Aq (AO By (BY d hr.mm (AA (pv 1) (AX AE))) (FF K (@BD _ _ _ _ (@AA _ _ _ _ _ (@AE _ _ _ _) (@AA _ _ _ _ _ (@AE _ _ _ _) (@AA _ _ _ _ _ (@AE _ _ _ _) (@AA _ _ _ _ _ (@AE _ _ _ _) (@AA _ _ _ _ _ (@AE _ _ _ _) (@AA _ _ _ _ _ (@AE _ _ _ _) (@AA _ _ _ _ _ (@AE _ _ _ _) (@AA _ _ _ _ _ (@AE _ _ _ _) (@AA _ _ _ _ _ (@AE _ _ _ _) (@AA _ _ _ _ _ (@AE _ _ _ _) CH rfl) rfl) rfl) rfl) rfl) rfl) rfl) rfl) rfl) rfl)) (pv 5))) AE) AE (AV _)) (AG (Ae 0 nd (Ad (AA AU (AA (BD (AX (pv 0))) (AX (pv 6))))))) (AG (Ae 0 nd (Ad (AA AU (AA (Me (HG (FF K (pv 2) (AO Aq (pv 5) AE)) (pv 0) Mc) rfl rfl (by simp) (by simp)) (AA (BD CH) (AX (pv 6))))))))))))) AN) (AB (Aa (AR BC (pv 3) AE (AV _)) (AB (Es (i:=7) (fv:=["_law_cell_here"]) (fs:=[1]) rfl (.of (by rfl)) nd rfl (Or.inl rfl) (Ao rfl T.range (AX (AO Bp AE (AO Aq (pv 4) AE)))) (fun _ _ _ _=>Fz) (fun C s0 H0 fp=>(FF K (BD (AA (Ad (AX AU)) (AX (Ad (AA AU (AX (pv 0))))))) (AO Aq (AO By (BY d hr.mm (AA (pv 1) (AX AE))) (AO Bp (pv 0) AE)) AE)))) (AG (Ae 0 nd (Ad (AA AU (AA (AO Jn (pv 7) (BD (AX (pv 0)))) (AX (Dz BC (AO Aq (AO By (pv 4) AE) AE) AE (AV _))))))))) AN) (AG (AQ (pv 0))))))),?_⟩;refine⟨_,rfl,c,6,rfl,by decide,fun r6 _ _=>⟨_,_,rfl,rfl,(by show(0:Int)<_;decide),?_⟩⟩;generalize r6 % 8=wy;refine⟨_,rfl,c,7,rfl,by decide,fun r _ _=>?_⟩;dsimp only[CA];refine Fb (t:=Ny _ _ _) (fun σ' H1=>∃(w:V)(b:Ak)(I J:Option V),σ'=[some w,some (.int c),some (.ref nm),some (.int wy),some (.int r),I,J,none]/\AF H H1/\Val H1 w b.pt/\b.ok/\b.size<=67/\b.deep<=15/\b.Io/\(wy≠0->b.size<=57/\b.deep<=5)) (fun σ' H1 ⟨w,b,I,J,es,s1,vb,M,bz,bd,N,bw⟩=>?_) (fun key=>?_);rotate_left
  ·refine⟨_,rfl,rfl,_,rfl,Bx (fun h0=>?_) (fun h0=>key _ _ ⟨v,a0,none,none,rfl,AF.refl H,hv,Ax,by lia,by lia,qW,fun _=>⟨za,da⟩⟩)⟩;have wY:wy=0:=V.int.inj (of_decide_eq_true h0);have m5:=DL r (n:=5) (by decide);obtain⟨k5,wZ⟩:∃k:Nat,6+r % 5=(k:Int):=⟨(6+r % 5).toNat,by lia⟩;have k10:k5<=10:=by lia
   refine⟨_,rfl,_,_,rfl,rfl,(by show(0:Int)<_;decide),_,_,rfl,rfl,?_⟩;rw[wZ];refine⟨k5,rfl,by lia,by lia,CU (lo:=0) (n:=k5) (fun i σ Hi=>∃(w:V)(b:Ak)(I J:Option V),σ=[some w,some (.int c),some (.ref nm),some (.int wy),some (.int r),I,J,none]/\AF H Hi/\Val Hi w b.pt/\b.ok/\b.size<=57+i/\b.deep<=5+i/\b.Io) ⟨v,a0,none,none,rfl,AF.refl H,hv,Ax,by lia,by lia,qW⟩ ?_ ?_⟩
   ·rintro i σ Hi hi ⟨w,b,I,J,rfl,si,vb,M,bz,bd,N⟩;obtain⟨L,hL⟩:∃L:List V,L=[V.int 1,.int 2,.int 4,.int 8,.int 16,.int 32,.int 64,.int 128,.int 256,.int 512]:=⟨_,rfl⟩;obtain⟨v4,O,u⟩:=Dp (xs:=L) (i:=0+(i:Int)) (by lia) (by rw[hL];simp only[List.length_cons,List.length_nil];lia);have wa:∃m:Int,v4=.int m/\0<m/\m<1073741824:=by
     rw[hL]at u;simp only[List.mem_cons,List.not_mem_nil,or_false]at u;rcases u with rfl|rfl|rfl|rfl|rfl|rfl|rfl|rfl|rfl|rfl<;>exact⟨_,rfl,by decide,by decide⟩
    obtain⟨m,rfl,de,df⟩:=wa;rw[hL]at O;clear u hL;refine⟨_,rfl,c,8,rfl,by decide,fun r8 _ _=>⟨An (show 10<=1000 by decide),fun pl bM=>⟨_,rfl,pl,_,_,_,rfl,rfl,As.of AD,O,_,_,rfl,rfl,⟨de,df⟩,_,_,rfl,rfl,(by show(0:Int)<_;decide),rfl,?_⟩⟩⟩;have sl:=AF.new (o:=.lst [V.int 1,.int 2,.int 4,.int 8,.int 16,.int 32,.int 64,.int 128,.int 256,.int 512]) bM;generalize upd Hi pl (.lst [V.int 1,.int 2,.int 4,.int 8,.int 16,.int 32,.int 64,.int 128,.int 256,.int 512])=Hj at sl⊢;generalize decide (V.int (r8/m % 2)=V.int 1)=S;refine⟨_,rfl,c,9,rfl,by decide,fun r9 _ _=>⟨An (show 10<=1000 by decide),fun qX nP=>⟨_,rfl,qX,_,_,_,rfl,rfl,As.of AD,O,_,_,rfl,rfl,⟨de,df⟩,_,_,rfl,rfl,(by show(0:Int)<_;decide),rfl,_,rfl,?_⟩⟩⟩;have U:=AF.new (o:=.lst [V.int 1,.int 2,.int 4,.int 8,.int 16,.int 32,.int 64,.int 128,.int 256,.int 512]) nP;generalize upd Hj qX (.lst [V.int 1,.int 2,.int 4,.int 8,.int 16,.int 32,.int 64,.int 128,.int 256,.int 512])=Hk at U⊢;have sk:=(si.trans sl).trans U;have vk:=(vb.up sl).up U;refine Bx (fun _=>?_) (fun _=>?_)
    ·refine⟨_,rfl,BG,fun g l=>⟨_,rfl,Fu,fun p2 p=>?_⟩⟩;have t1:=AF.new (o:=.lst [w]) l;have B:upd Hk g (.lst [w]) g=some (.lst [w]):=AD;generalize upd Hk g (.lst [w])=Hm at t1 B p⊢;have t2:=AF.new (o:=.tup [.str "row",.ref g,.bl S]) p;refine⟨.ref p2,.row [b] S,_,_,rfl,(sk.trans t1).trans t2,.tup (Bg.of AD) (.cons (.str _) (.cons (.lst (.inl (t2 _ _ B)) (.cons ((vk.up t1).up t2) .nil)) (.cons (.bl _) .nil))),⟨M,trivial⟩,?_,?_,⟨N,trivial⟩⟩
     ·simp only[Ak.size,Ak.AI];lia
     ·simp only[Ak.deep,Ak.AJ];lia
    ·have m4:=DL (0+(i:Int)) (n:=4) (by decide);obtain⟨jj,cQ⟩:∃j:Nat,(0+(i:Int)) % 4=(j:Int):=⟨((0+(i:Int)) % 4).toNat,by lia⟩;obtain⟨y,hy⟩:∃y,ys[jj]?=some y:=⟨_,yn (by rw[hn.len];lia)⟩;refine fun g l=>?_;have t1:=AF.new (o:=.dK []) l;refine⟨_,rfl,_,rfl,_,_,rfl,rfl,(by show(0:Int)<_;decide),nm,_,_,_,rfl,rfl,As.of ((sk.trans t1) _ _ hn.at_),by rw[cQ];exact Av (by rw[List.getElem?_map,hy];rfl),_,rfl,AD,[(Sum.inr y,w)],rfl,by simp,?_⟩;have m1:CY [] [((Sum.inr y:Key),w)]=[(Sum.inr y,w)]:=rfl;rw[m1];have qY:AF Hk (upd (upd Hk g (.dK [])) g (.dK [(Sum.inr y,w)])):=t1.put l;have B:upd (upd Hk g (.dK [])) g (.dK [(Sum.inr y,w)]) g=some (.dK [(Sum.inr y,w)]):=AD;generalize upd (upd Hk g (.dK [])) g (.dK [(Sum.inr y,w)])=Hm at qY B⊢;refine⟨Nat.zero_le _,fun p2 p=>?_⟩;obtain⟨Hn,e,t2,f2⟩:=DA (o:=.lst []) p;rw[e];clear e;refine⟨_,rfl,An (show 4<=1000 by decide),fun p3 X=>?_⟩;have t3:=AF.new (o:=.tup [.str "table",.ref g,.ref p2,.bl S]) X;have t12:=qY.trans t2;refine⟨.ref p3,.tab [y] [b] [] S,_,_,rfl,(sk.trans t12).trans t3,.tup (Bg.of AD) (.cons (.str _) (.cons (.Ar (ks:=[y]) (.inl (t3 _ _ (t2 _ _ B))) rfl (.cons ((vk.up t12).up t3) .nil)) (.cons (.lst (.inl (t3 _ _ f2)) .nil) (.cons (.bl _) .nil)))),?_,?_,?_,⟨by simp,N,trivial⟩⟩
     ·simp only[Ak.ok];exact⟨rfl,by simp,fun k hk=>by rw[List.mem_singleton.mp hk];exact hn.nb _ (yr hy),by simp,⟨by simp,.nil,rfl⟩,fun x hx=>(nomatch hx),M,trivial⟩
     ·simp only[Ak.size,Ak.AI];lia
     ·simp only[Ak.deep,Ak.AJ];lia
   ·rintro σ Hi ⟨w,b,I,J,rfl,si,vb,M,bz,bd,N⟩;exact key _ _ ⟨w,b,I,J,rfl,si,vb,M,by lia,by lia,N,fun z=>absurd wY z⟩
  subst es;refine⟨_,rfl,rfl,_,rfl,Bx (fun h1=>?_) (fun _=>⟨_,rfl,q w b H1 s1 vb M (by lia) bd N⟩)⟩;have yV:wy=1:=V.int.inj (of_decide_eq_true h1);have bw:=bw (by lia);have m4:=DL r (n:=4) (by decide);obtain⟨n4,wc⟩:∃k:Nat,9+r % 4=(k:Int):=⟨(9+r % 4).toNat,by lia⟩;have n12:n4<=12:=by lia
  refine⟨_,rfl,_,_,rfl,rfl,(by show(0:Int)<_;decide),_,_,rfl,rfl,?_⟩;rw[wc];refine⟨n4,rfl,by lia,by lia,?_⟩;refine DP none n4 (fun i=>.int (0+(i:Int))) (fun i Y Z=>∃G:List Ak,Y=Ak.CO G/\Ak.DW G/\Ak.AI G<=i/\Ak.AJ G<=1/\Ak.IP G) (by lia) (fun D hD=>⟨[],rfl,trivial,by simp[Ak.AI],by simp[Ak.AJ],trivial⟩) (fun i Y Z D ws bt hD iv=>iv) (fun l' z=>nomatch z) (fun i Y Z hi s iv=>hi) (fun i Y Z v H' hi s iv y=>⟨y.2,y.1⟩) (fun Y Z s iv=>Nat.le_refl _) (fun i Y Z R hi bt ⟨G,e1,e2,e3,e4,e5⟩ lu k=>?_) (fun D Z ws Y hD bt d2 lu vl ⟨G,e1,e2,e3,e4,e5⟩=>?_)
  ·refine⟨BG,fun q1 Np=>?_⟩;obtain⟨H3,e,t1,B⟩:=DA (o:=.tup [.str "any"]) Np;rw[e];clear e;refine⟨_,rfl,Ac,fun q2 qZ=>?_⟩;obtain⟨H4,e,t2,f2⟩:=DA (o:=.tup [.str "just",.int (0+(i:Int))]) qZ;rw[e];clear e;refine⟨Ac,fun q3 we=>?_⟩;obtain⟨H5,e,t3,f3⟩:=DA (o:=.lst [.ref q1,.ref q2]) we;rw[e];clear e;refine⟨_,rfl,c,8,rfl,by decide,fun r8 _ _=>?_⟩;have m2:=DL (r8/(0+(i:Int)+1)) (n:=2) (by decide);obtain⟨v2,kv,qa⟩:=Dp (xs:=[V.ref q1,V.ref q2]) (i:=r8/(0+(i:Int)+1) % 2) m2.1 m2.2;refine⟨_,rfl,_,_,rfl,rfl,_,_,rfl,rfl,⟨by lia,by lia⟩,_,_,rfl,rfl,(by show(0:Int)<_;decide),q3,_,_,_,rfl,rfl,As.of f3,kv,?_⟩;have tt:=(t1.trans t2).trans t3;have add:∀a:Ak,a.ok->a.size=1->a.deep=1->Val (nw Z H5) v2 a.pt->a.Io->R v2 H5:=fun a h1 h2 h3 h4 h5=>k v2 a.pt H5 (.of tt) h4 ⟨G++[a],by rw[Ak.Ck,e1];rfl,Ak.Cm e2 (Ak.JV h1),by rw[Ak.Ab,Ak.GH];lia,by rw[Ak.Az,Ak.GK];lia,Ak.EB e5 ⟨h5,trivial⟩⟩;simp only[List.mem_cons,List.not_mem_nil,or_false]at qa;rcases qa with rfl|rfl
   ·exact add .any trivial rfl rfl (.tup (Bg.of (by rw[AY Np];exact(t2.trans t3) _ _ B)) (.cons (.str _) .nil)) trivial
   ·exact add (.Ag (.int (0+(i:Int)))) (by simp only[Ak.ok];exact⟨.one (.int _),trivial,by simp[Pt.size]⟩) rfl rfl (.tup (Bg.of (by rw[AY (t1.free qZ)];exact t3 _ _ f2)) (.cons (.str _) (.cons (.int _) .nil))) trivial
  ·subst e1;have s2:=bt.same;refine⟨_,rfl,_,rfl,BG,fun g l=>?_⟩;obtain⟨H3,e,t1,B⟩:=DA (o:=.lst [w]) l;rw[e];clear e;have yW:=vl.length;refine⟨D,g,_,_,rfl,rfl,t1 _ _ d2,B,An (by simp only[List.length_cons,List.length_nil];lia),fun p2 p=>?_⟩;obtain⟨H4,e,t2,f2⟩:=DA (o:=.lst (ws++[w])) p;rw[e];clear e;refine⟨_,rfl,_,_,rfl,rfl,⟨by decide,by decide⟩,_,_,rfl,rfl,(by show(0:Int)<_;decide),rfl,Fu,fun p3 X=>?_⟩;generalize decide (V.int (r/4 % 2)=V.int 1)=S;have t3:=AF.new (o:=.tup [.str "row",.ref p2,.bl S]) X;have tt:=(t1.trans t2).trans t3;refine⟨_,rfl,q (.ref p3) (.row (G++[b]) S) _ ((s1.trans s2).trans tt) (.tup (Bg.of AD) (.cons (.str _) (.cons (.lst (.inl (t3 _ _ f2)) ?_) (.cons (.bl _) .nil)))) (Ak.Cm e2 (Ak.JV M)) ?_ ?_ (Ak.EB e5 ⟨N,trivial⟩)⟩
   ·rw[Ak.Ck];exact((vl.up Ff).up tt).snoc ((vb.up s2).up tt)
   ·simp only[Ak.size];rw[Ak.Ab,Ak.GH];lia
   ·simp only[Ak.deep];rw[Ak.Az,Ak.GK];lia
theorem Z_:AZ ["_law_script","_law_names_here","_law_drawn","_law_asks_here","_law_told_here","_law_makes_here","_law_docs","_law_kept","_law_turn","_law_doc_here","_law_found"] ["_law_script"] (AM Nd):={}
theorem cx{d:Addr}(F:Co K "law" "law" Nd f fd)(T:Txt mg)(L:Df P w K mg base "good_form" ["asks"] 7 SI)(iG:Df P w K mg base "made" ["makes","asks","doc"] 8 (Ws d ij ip))(B:Df P w K mg base "_law_cell" ["_law_script","_law_k"] 1 (VS K))(cy:Df P w K mg base "_law_names" ["_law_cell_here"] 2 Om)(XG:Df P w K mg base "_law_copy" ["_law_thing"] 50 (GG 50))(iH:Df P w K mg base "_law_ruin" ["_law_thing"] 50 (JZ 50))(iI:Df P w K mg base "_law_asks" ["_law_cells","_law_deep","_law_names_here"] 10 (My 10))(ZI:Df P w K mg base "_law_fit" ["_law_asks_here","_law_cells","_law_names_here"] 50 (NU 50))(iJ:Df P w K mg base "_law_told" ["_law_asks_here","_law_path"] 25 (Hg 25))(Ra:Df P w K mg base "_law_makes" ["_law_cells","_law_deep","_law_told_here","_law_names_here"] 20 (Hq 20))(Nk:Df P w K mg base "_law_made" ["_law_makes_here","_law_known","_law_doc_here"] 20 (Je 20))(cz:Df P w K mg base "_law_large" ["_law_asks_here","_law_cell_here","_law_names_here"] 2 Rz):Au P w K mg base CK 80 f fd ["_law_script"] (Ko K d):=by
 refine F.oq Z_ fun Jr A outer s H vs Q E G h=>?_
 ·obtain⟨a,ns,rfl,hS,hlen,hT,q⟩:=h;have nd:=Z_.nd;have X:=BJ G;refine⟨_,(AB (EG (i:=1) nd rfl (Or.inr rfl) (BY cy G.mm (AX (BY B G.mm (AA (pv 0) (AX AE)))))) (AB (Ae 2 nd (BY iI G.mm (AA (cmp ["_law_script"] [0] (Ao rfl T.range (AX AE)) fun _ _ _ _=>(BY B G.mm (AA (pv 1) (AX (AO Bp AE (pv 0)))))) (AA AE (AX (pv 1)))))) (AB (EG (i:=3) nd rfl (Or.inr rfl) (BY L G.mm (AX (BY cz G.mm (AA (pv 2) (AA (BY B G.mm (AA (pv 0) (AX AE))) (AX (pv 1)))))))) (AB (Ae 4 nd (BY iJ G.mm (AA (pv 3) (AX (Ad CH))))) (AB (Ae 5 nd (BY Ra G.mm (AA (cmp ["_law_script"] [0] (Ao rfl T.range (AX AE)) fun _ _ _ _=>(BY B G.mm (AA (pv 1) (AX (AO Bp AE (pv 0)))))) (AA AE (AA (pv 4) (AX (pv 1))))))) (AB (Ip true (i:=6) (fv:=["_law_asks_here","_law_names_here","_law_script"]) (fs:=[3,1,0]) rfl (.of (by rfl)) nd rfl (Or.inl rfl) (Ao rfl T.range (AX AE)) (fun _ _ _ _=>Fz) (fun C s0 H0 fp=>(BY ZI G.mm (AA (pv 1) (AA (cmp ["_law_script","_law_j"] [3,0] (Ao rfl T.range (AX AE)) fun _ _ _ _=>(BY B G.mm (AA (pv 1) (AX (AO Bp (AO Bp AE (AO Em AE (pv 2))) (pv 0)))))) (AX (pv 2))))))) (AB (Ae 7 nd (BY XG G.mm (AX (Ad (AA (pv 3) (AA (pv 5) (AX (pv 6)))))))) (AB (LC (Ao rfl T.range (AX AE)) (CJ 8 nd) (AB (LC (CT (pv 6)) (CJ 9 nd) (AB (Ae 10 nd (bR (BY iG G.mm (AA (pv 5) (AA (pv 3) (AX (pv 9))))))) (AB (Aa (AR (cB (Bi.units G):Ek _ _ gJ) (pv 10) (BY Nk G.mm (AA (pv 5) (AA (A' (Dx rfl (Bi.units G)) rfl T.dict CZ (AX (pv 4))) (AX (pv 9))))) (AV _)) (AG (AQ Nv)) AN) (AG (Cf (BY iH G.mm (AX (pv 10)))))))) (AG (Aa (AR (bQ (Bi.units G):Ek _ _ gC) (Ad (AA (pv 3) (AA (pv 5) (AX (pv 6))))) (pv 7) (AV _)) (AG (AQ Nv)) AN)))) (AG (AQ Nv)))))))))),?_⟩;refine⟨_,rfl,a,ns,0,rfl,hS,fun c0 _=>⟨c0,rfl,fun nm ys H1 s1 nn hn=>?_⟩⟩;refine⟨12,rfl,by decide,by decide,Dm (n:=12) (fun i=>.int (0+(i:Int))) (fun _ v=>∃z:Int,v=.int z) (by decide) (fun i I M p=>M) (fun i I v Y M p y=>⟨y.2,y.1⟩) (fun I p=>Nat.le_refl _) (fun i I R M p r=>⟨_,rfl,_,rfl,_,_,rfl,rfl,a,ns,1+i,(by show[V.ref a,V.int (1+(0+(i:Int)))]=_;simp),(s1.trans p).seq hS,fun c _=>r _ I (AF.refl _) ⟨c,rfl⟩⟩) (fun D1 I cw nQ p d1 ZN wg=>?_)⟩;obtain⟨XH,rfl⟩:=ints_of wg;rw[List.length_map]at ZN;have wh:nm≠D1:=fun z=>by rw[<-z,hn.at_]at nQ;cases nQ
  refine⟨_,rfl,D1,4,nm,XH,ys,rfl,by decide,d1,by lia,wh,hn.up p,fun v1 a1 wk H3 nE cu wG v3 wm yX ve wq=>?_⟩;have s13:AF H1 H3:=nE.over p nQ;have S3:=s1.trans s13;have V1:Val H3 v1 a1.pt:=v3.up Ff;refine⟨_,rfl,_,rfl,a,ns,0,rfl,S3.seq hS,fun c1 _=>⟨_,rfl,v1,a1,c1,nm,ys,rfl,V1,wm,by lia,by lia,wq,hn.up s13,fun w0 b H4 s4 vb bo bz bd bf=>?_⟩⟩;have bG:=Ak.fy b bo;have bw:=Ak.Zk b bo;have yY:=Ak.Zl b bo;have bs:=Ak.WK b bo;refine⟨H4,w0,b,rfl,AF.refl _,vb,bG,by lia,fun w g H5 s5 vg gd=>?_⟩;obtain⟨gG,gw,yZ⟩:=gd.keeps bG;have gs:=Ak.SW g (gd.SN bG bs);have gA:UE g:=⟨gG,gs,by lia,by lia,gd.Io bG bf⟩;have wu:=Ak.Wl b bo;have wx:=gd.GO bG;have S5:=(S3.trans s4).trans s5;have wz:=((hn.up s13).up s4).up s5;have lU:H4 d≠none:=by rw[(S3.trans s4) _ _ hT];exact fun z=>nomatch z
  have w_:H5 d=some (.Nl #[]):=S5 _ _ hT;have qb:Val (Cs d H5) w g.pt:=vg.up (Jf lU);clear vg V1 vb v3;refine⟨_,rfl,Nat.zero_le _,fun pE hE=>?_⟩;obtain⟨HE,eH,sE,fE⟩:=DA (o:=.tup []) hE;rw[eH];clear eH;have nR:=sE _ _ w_;have xA:HE d≠none:=by rw[nR];exact fun z=>nomatch z
  have xB:pE≠d:=fun z=>by rw[z,nR]at fE;cases fE
  refine⟨Cs d HE,w,g,pE,[],rfl,Bs,qb.up (Bo sE),gG,gs,by lia,by show Cs d HE pE=_;rw[CI xB];exact fE,by simp only[List.length_nil];lia,by lia,fun DT ws HT sT nT fT neT lT qc qd=>?_⟩;have jV:=sT _ _ nR;have xC:DT≠d:=fun z=>by rw[z,jV]at fT;cases fT
  have sX:AF (ov (Cs d HE) HE HT) (Cs d HT):=Ys sT (Bo sT) xA;have tA:FD (K:=K) (Cs d HT) g DT ws:=⟨by rw[CI xC];exact fT,neT,by lia,fun w hw=>(qc w hw).up sX,fun r b e=>(qd r b e).up sX fun _ m=>m⟩;clear qc qd;have nU:=sE.trans sT;have ST:=S5.trans nU;have O:=wz.up nU;have xD:nm≠d:=fun z=>by have:=O.at_;rw[z,jV]at this;cases this
  have xE:Tp (Cs d HT) nm ys:=⟨by rw[CI xD];exact O.at_,O.len,O.nd,O.nb⟩;have xF:=qb.up (Bo nU);refine⟨16,rfl,by decide,by decide,Dm (n:=16) (fun i=>.int (0+(i:Int))) (fun _ v=>∃z:Int,v=.int z) (by decide) (fun i I M p=>M) (fun i I v Y M p y=>⟨y.2,y.1⟩) (fun I p=>Nat.le_refl _) (fun i I R M p r=>⟨_,rfl,_,rfl,_,_,rfl,rfl,a,ns,13+i,(by show[V.ref a,V.int (13+(0+(i:Int)))]=_;simp),(ST.trans p).seq hS,fun c _=>r _ I (AF.refl _) ⟨c,rfl⟩⟩) (fun D2 H6 Zu qe s6 d2 dW xG=>?_)⟩;obtain⟨Xc,rfl⟩:=ints_of xG;rw[List.length_map]at dW;have xH:H6 d≠none:=by rw[s6 _ _ jV];exact fun z=>nomatch z
  refine⟨_,rfl,_,rfl,Cs d HT,g,D2,DT,nm,ws,ys,Xc,3,rfl,⟨fun b o e=>s6 _ _ (Bs _ _ e),(AF.free Bs qe),gA,tA,xE,d2,by lia⟩,by decide,fun vm m qQ H7 xI ya yb md=>?_⟩;have s7:AF HT H7:=xI.over s6 qe;have qf:=s7 _ _ jV;have xJ:H7 d≠none:=by rw[qf];exact fun z=>nomatch z
  have xK:Val (Cs d H7) vm m.pt:=md.val.up fun b o e=>by
   unfold ov at e;cases h:Cs d HT b with
   |some z=>rw[h]at e;cases e;exact Bo s7 _ _ h
   |none=>rw[h]at e;exact Jf xH _ _ e
  have S7:=ST.trans s7;have qg:=O.up s7;have qh:=xF.up (Bo s7);have xM:=tA.up (Bo s7);have Yz:=md.ok;have cR:=md.gd;have nJ:=md.sz;have qR:=md.dp;have xN:Mb 3=16885:=rfl;rw[xN]at nJ;have mn:=AL.nice m Yz;have yc:=AL.SX m Yz;have gn:=Ak.Ov g gG (by lia);have yd:=Ak.Zm g;clear md;refine⟨3,rfl,by decide,by decide,DP none 3 (fun i=>.int (0+(i:Int))) (fun i J I=>∀u∈J,u.doc/\u.size<=800/\u.deep<=22/\g.lets u=true) (by decide) (fun D hD u X=>nomatch X) (fun i J I D ws s hD iv=>iv) (fun l z=>nomatch z) (fun i J I M s iv=>M) (fun i J I v Y M s iv y=>⟨y.2,y.1⟩) (fun J I s iv=>Nat.le_refl _) (fun i J I R M bt iv lu k=>?_) (fun D5 H8 wd J ye xO f8 lu vd du=>?_)⟩
  ·have p:=bt.same;refine⟨_,rfl,8,rfl,by decide,by decide,Dm (n:=8) (fun i=>.int (0+(i:Int))) (fun _ v=>∃z:Int,v=.int z) (by decide) (fun i I M p=>M) (fun i I v Y M p y=>⟨y.2,y.1⟩) (fun I p=>Nat.le_refl _) (fun j H3 R hj s3 r=>?_) (fun D6 H3 yf jW s3 d6 xP xQ=>?_)⟩
   ·have e0:(29:Int)+8*(0+(i:Int))+(0+(j:Int))=((29+8*i+j:Nat):Int):=by lia
    refine⟨_,rfl,_,rfl,_,_,rfl,rfl,.inl ⟨by decide,by decide⟩,_,_,rfl,rfl,_,rfl,_,_,rfl,rfl,a,ns,29+8*i+j,by rw[e0];rfl,((S7.trans p).trans s3).seq hS,fun c _=>r _ H3 (AF.refl _) ⟨c,rfl⟩⟩
   ·obtain⟨xR,rfl⟩:=ints_of xQ;rw[List.length_map]at xP;have xS:=(qg.up p).up s3;have xT:nm≠D6:=fun z=>by rw[<-z,(qg.up p).at_]at jW;cases jW
    refine⟨_,rfl,w,g,D6,nm,xR,ys,rfl,((qh.up Bs).up p).up (Vt s3 jW),gG,by lia,by lia,by lia,d6,by lia,xT,xS,fun x t LB H4 Xd Zx mP v4 dt zt pt lt=>k x t H4 (.of (Xd.over s3 jW)) (v4.up (BB (fun b h=>s3.free h) fun b o _ h=>h)) fun u X=>?_⟩;rcases List.mem_append.mp X with h|h
    ·exact iv u h
    ·rw[List.mem_singleton.mp h];exact⟨dt,by lia,by lia,lt⟩
  have s8:=xO.same;have qi:=s8 _ _ qf;have xU:D5≠d:=fun z=>by rw[z,qi]at f8;cases f8
  have qj:AS (Cs d H8) wd J:=vd.up (Jf xJ);have xV:Cs d H8 D5=some (.lst wd):=by rw[CI xU];exact f8
  have S8:=S7.trans s8;have qk:=qh.up (Bo s8);have ql:=xK.up (Bo s8);have xW:=xM.up (Bo s8);have yg:=vd.length;clear vd;refine⟨_,rfl,_,rfl,_,rfl,Fu,fun pt ma=>?_⟩;obtain⟨H9,eH,sp,fp⟩:=DA (o:=.tup [w,vm,.ref D5]) ma;rw[eH];clear eH;have un:(Pt.lst J).nice:=by
   simp only[Pt.nice];exact⟨by lia,Pt.HP fun x hx=>Pt.Fg x (du x hx).1 (by have:=(du x hx).2.1;lia)⟩
  have ud:Pt.AJ J<=22:=Ce fun x hx=>(du x hx).2.2.1;have tn:(Pt.tup [g.pt,m.pt,.lst J]).nice:=by simp only[Pt.nice,Pt.CC]at un⊢;exact⟨by simp,gn,mn,un,trivial⟩
  have td:(Pt.tup [g.pt,m.pt,.lst J]).deep<=50:=by simp only[Pt.deep,Pt.AJ];lia
  have eb:=Pt.Du _ (Pt.WG _ tn);refine⟨_,_,rfl,.tup (.of fp) (.cons ((qk.up Bs).up sp) (.cons ((ql.up Bs).up sp) (.cons (.lst (.inl (sp _ _ f8)) ((qj.up Bs).up sp)) .nil))),tn,td,fun wK HF sF vK=>?_⟩;have qm:=sp _ _ qi;have xX:H9 d≠none:=by rw[qm];exact fun z=>nomatch z
  have Z:=sp.trans sF;have xY:=sF _ _ qm;have qp:Val (Cs d HF) wK (.tup [g.pt,m.pt,.lst J]):=vK.up (Jf xX);have nV:=qk.up (Bo Z);have jX:=ql.up (Bo Z);have nW:=xW.up (Bo Z);have nX:=qj.up (Bo Z);have jY:=Bo Z _ _ xV;clear vK;obtain⟨Gk,nY⟩:∃Gk,Gk=Cs d HF:=⟨_,rfl⟩;rw[<-nY]at qp nV jX nW nX jY;have qq:Gk d=none:=by rw[nY];exact if_pos rfl
  have xZ:∀u∈J,Lt g u:=fun u X=>⟨gG,gs,by lia,(du u X).1,(du u X).2.1,by have:=(du u X).2.2.1;lia,(du u X).2.2.2⟩;have lx:J.length=3:=lu;refine⟨2,rfl,by decide,by decide,CU (lo:=0) (n:=2) (fun i σ Hi=>∃(o8 o9 N:Option V),σ=[some (.ref a),some (.ref nm),some v1,some w,some (.ref DT),some vm,some (.ref D5),some wK,o8,o9,N]/\AF Gk Hi/\Gm ij ip d Hi) ⟨none,none,none,rfl,by rw[nY];exact Bs,.new xY⟩ ?_ ?_⟩
  ·rintro i σ Hi M ⟨o8,o9,N,rfl,si,qr⟩;dsimp only[CA];refine⟨_,rfl,D5,rfl,⟨_,As.of (si _ _ jY)⟩,Dl (K:=K) (xs:=wd) (fun j σ S=>∃(o9 N:Option V),σ=[some (.ref a),some (.ref nm),some v1,some w,some (.ref DT),some vm,some (.ref D5),some wK,some (.int (0+(i:Int))),o9,N]/\AF Gk S/\Gm ij ip d S) ⟨_,_,rfl,si,qr⟩ (fun j σ S _ ⟨_,_,_,sj,_⟩=>As.of (sj _ _ jY)) ?_ ?_⟩
   ·rintro j x σ S hx ⟨o9,N,rfl,sj,jZ⟩;obtain⟨u,X,vu⟩:=nX.get hx;have lt:=xZ u (yr X);dsimp only[CA];refine⟨_,rfl,_,rfl,_,rfl,Gk,vm,w,x,m,g,u,rfl,sj,qq,jX,Yz,cR,by lia,nV,vu,lt,jZ,fun fw fb Y keep xa vw mx kf=>?_⟩;have xb:S d≠none:=by cases jZ with|new h=>rw[h];exact fun z=>nomatch z|old _ _ _ _ h=>rw[h];exact fun z=>nomatch z
    have sk:AF Gk (IV S Y):=fun b o e=>by
     have bT:b≠d:=fun z=>by rw[z,qq]at e;cases e
     rw[JY (sj _ _ e)];exact keep b o bT (sj _ _ e)
    have qt:=xa.IV xb;have pl:XX (nw S Y) (IV S Y):=.IV;have qu:KF K (nw S Y):=kf.nw;have qv:∀b x,Gk b=some x->nw S Y b=none:=fun b x e=>Bz (sj _ _ e);generalize IV S Y=Hk at sk qt pl kf⊢;generalize nw S Y=Nw at vw pl qu qv⊢;refine⟨_,rfl,_,rfl,_,rfl,Gj nW sk fun kn I p yh xc=>⟨_,rfl,Gk,vm,x,kn,ws,m,g,u,rfl,GB.of (sk.trans p),jX,Yz,cR,xc,nW.cv,vu,lt,by lia,fun w2 H3 s3 v3=>?_⟩⟩;have s23:=p.trans s3;have yi:=mx.dp;have yj:=mx.sz;refine⟨fb,_,(pl.up s23).val vw,v3.up (Gb (sk.trans p) s3),mx.top,mx.eq,by lia,_,rfl,BE ?_⟩;have hg:=Pt.O_ fb;refine⟨_,rfl,Nw,fw,fb,0,rfl,qu,vw,mx.ok,by lia,by lia,Wn.of (pl.up s23) _,fun HL wn fr=>⟨_,_,rfl,fr.out (sk.trans s23) qv,(qt.up s23).lR fr (pl.up s23)⟩⟩
   ·rintro σ S ⟨o9,N,rfl,sj,jZ⟩;refine⟨_,rfl,_,rfl,_,rfl,Fu,fun pz xf=>?_⟩;obtain⟨Hz,eH,sz,fz⟩:=DA (o:=.tup [w,vm,.ref D5]) xf;rw[eH];clear eH;have U:=sj.trans sz;refine⟨_,rfl,[g.pt,m.pt,.lst J],[g.pt,m.pt,.lst J],.tup (.of fz) (.cons (nV.up U) (.cons (jX.up U) (.cons (.lst (.inl (U _ _ jY)) (nX.up U)) .nil))),qp.up U,eb,by lia,_,rfl,BE ?_⟩;exact⟨_,_,_,rfl,U,jZ.up sz⟩
  ·rintro σ Hi ⟨o8,o9,N,rfl,si,qr⟩;exact q _
end
end cE
namespace cE
open PySem L2
abbrev NZ(K:yt)(x:Str):Prop:=PySem.W.nsIn K mainGlobals x=some none
variable{P:List Value->Prop}
theorem ls{n:Nat}(h:∀a r,r.length=n->P (a::r)):∀us,us.length=n+1->P us:=fun us e=>by
 cases us with
 |nil=>cases e
 |cons a r=>exact h a r (Nat.succ.inj e)
theorem lz(h:P []):∀us,us.length=0->P us:=fun us e=>by
 cases us with
 |nil=>exact h
 |cons a r=>cases e
variable{mg:Str->Option Value}
theorem gn{K:yt}{h:Heap}{x:Str}{st:Stmt}(X:K.In h)(G:h.Ns mainGlobals mg)(A:FA K x st)(ps:List Str)(b:∀(kV doc pm:Value) (e:Option Addr) (d ct:Value) (us:List Value),us.length=ps.length->bindArgs (PySem.W.fnOf x x (DY st) (Cg st) (AM st) .none kV doc pm e d ct) ⟨us,[]⟩=pure (ps.zip us):=by intro _ _ _ _ _ _;(repeat refine ls fun _=>?_);exact lz rfl):∃f c,Co K x x st f c/\Binds K c ps []/\mg x=some (.ref f):=by
 obtain⟨f,c,F,a⟩:=A;exact⟨f,c,F,F.binds b,PySem.W.mg_of X G a⟩
theorem dk{P:Program}{w:World}{K:yt}{mg:Str->Option Value}{base:Heap}{x:Str}{st:Stmt}{n:Nat}{sp:Sp}{ps:List Str}(g:∃f a,Co K x x st f a/\Binds K a ps []/\mg x=some (.ref f))(ok:∀f a,Co K x x st f a->Binds K a ps []->mg x=some (.ref f)->Au P w K mg base CK n f a ps sp):Df P w K mg base x ps n sp:=by
 obtain⟨f,a,F,b,m⟩:=g;exact .mk' F b m (ok f a F b m)
variable{l:PySem.W.OpenLaw}
theorem all_mk{w:World}{K:yt}{h:Heap}{fa f20 f38:Addr}(X:K.In h)(G:h.Ns mainGlobals mg)(xg:mg "law"=some (.ref fa)){nZ ng nh iK:Option Addr}{ni nj:Array (Option Value)}{nq nu n_ oA N oB oC iL iM iN O iO:Value}(h1:FA K "gathered" Ih)(h2:FA K "folded" NV)(h3:FA K "steps_of" Hr)(h4:FA K "inner_of" Kr)(h5:FA K "outer_copy" Gq)(h6:FA K "copy_of" NW)(h7:FA K "holds" RT)(h8:FA K "found_at" Ks)(h9:FA K "part_at" NX)(h10:FA K "holder_in" Ii)(h11:FA K "inner_nodes" Fw)(h12:FA K "filled" NY)(h13:FA K "inner_just" Gr)(h14:FA K "good_form" Ij)(h15:FA K "good_part" Ik)(h16:FA K "good_row" Kt)(h17:FA K "good_table" Gs)(h18:FA K "found_asks" Gu)(h19:FA K "tells" RU)(a20:PySem.W.nsIn K mainGlobals "made"=some (some (.ref f20)))(l20:K.lookup f20=some ⟨nq,nZ,.func (PySem.W.fnOf "made" "made" (DY Ku) (Cg Ku) (AM Ku) .none nu n_ oA ng N oB),ni⟩)(c20:PySem.W.codeIn K N "made"=true)(k20:PySem.W.keepIn K (.ref f20)=true)(h21:FA K "made_part" Il)(h22:FA K "_law_cell" Wv)(h23:FA K "_law_mix" Yt)(h24:FA K "_law_names" RV)(h25:FA K "_law_doc" cF)(h26:FA K "_law_copy" Sf)(h27:FA K "_law_ruin" Sg)(h28:FA K "_law_asks" Sh)(h29:FA K "_law_fit" Yu)(h30:FA K "_law_told" Si)(h31:FA K "_law_out" cG)(h32:FA K "_law_open" Ww)(h33:FA K "_law_table" Na)(h34:FA K "_law_makes" Nb)(h35:FA K "_law_part" Wx)(h36:FA K "_law_made" Nc)(h37:FA K "_law_large" RW)(a38:PySem.W.nsIn K mainGlobals "law"=some (some (.ref f38)))(l38:K.lookup f38=some ⟨oC,nh,.func (PySem.W.fnOf "law" "law" (DY Nd) (Cg Nd) (AM Nd) .none iL iM iN iK O iO),nj⟩)(c38:PySem.W.codeIn K O "law"=true)(k38:PySem.W.keepIn K (.ref f38)=true)(z1:NZ K "isinstance")(z2:NZ K "int")(z3:NZ K "bool")(z4:NZ K "str")(z5:NZ K "list")(z6:NZ K "dict")(z7:NZ K "tuple")(z8:NZ K "len")(z9:NZ K "range")(z10:NZ K "max")(z11:NZ K "min")(z12:NZ K "sorted")(z13:NZ K "all")(z14:NZ K "any")(z15:NZ K "reversed")(z16:NZ K "ValueError")(z17:NZ K "sum"){aA:Addr}{K0:yt}{cM TM:Addr}{qw:Obj}(zZ:NZ K "zip")(eA:PySem.W.nsIn K mainGlobals "ANY"=some (some (.ref aA)))(hA:YL K aA ["any"]=true)(oE:N=.ref cM)(tL:K0.lookup cM=some qw)(tO:tabOf qw=some TM)(tC:PySem.W.codeHdIn K cM TM=true)(tT:K0.lookup TM=some (PySem.W.tabObj #[]))
  :∃(fd:FuncData)(c T:Addr),K0.lookup T=some (PySem.W.tabObj #[])/\PySem.W.codeHdIn K c T=true/\(∀(s:Shared)(v:Value),BindsTo s fd ⟨[v],[]⟩ [("_law_script",v)])/\∀base:Heap,K.In base->base.Ns mainGlobals mg->BM mg base->Au l.prog w K mg base CK 80 fa fd ["_law_script"] (Ko K T):=by
 haveI:BR K:=⟨trivial⟩;have e:=xg.symm.trans (PySem.W.mg_of X G a38);cases e;have gm:=fun{x:Str}{v:Value}(a:PySem.W.nsIn K mainGlobals x=some (some v))=>PySem.W.mg_of X G a;have T:Txt mg:=by constructor<;>(apply PySem.W.mg_none_of X G;assumption)
 have g3:=gn X G h3 ["doc"];obtain⟨f11,d11,ja,b11,m11⟩:=gn X G h11 ["node"];obtain⟨f15,d15,qx,b15,m15⟩:=gn X G h15 ["asks","told"];have oH:=QZ (st:=Ku) l20 c20 k20;have b20:=oH.binds (ps:=["makes","asks","doc"]) fun _ _ _ _ _ _=>by(repeat refine ls fun _=>?_);exact lz rfl
 have m20:=gm a20;have g26:=gn X G h26 ["_law_thing"];obtain⟨f33,d33,xh,b33,m33⟩:=gn X G h33 ["_law_cells","_law_cell_here","_law_deep","_law_told_here","_law_names_here"];have xi:=QZ (st:=Nd) l38 c38 k38;have oI:=PySem.W.mg_none_of X G zZ;have mA:=PySem.W.mg_of X G eA;refine⟨PySem.W.fnOf "law" "law" (DY Nd) (Cg Nd) (AM Nd) .none iL iM iN iK O iO,cM,TM,tT,tC,fun s v=>.of_eq rfl,fun base _ _ mE=>?_⟩;have kk:=@Df.mk' l.prog w K mg base;have dk:=@dk l.prog w K mg base;have o:=dk g3 fun _ _ F b m=>Kw F T;have f:=dk (gn X G h4 ["doc"]) fun _ _ F b m=>RX F T o;have n:=dk (gn X G h10 ["node"]) fun _ _ F b m=>Pu F T;have z:=dk (gn X G h1 ["root","inner"]) fun _ _ F b m=>Po F T ja.kp b11 (GS ja T f n);have r:=dk (gn X G h2 ["root","inner","join"]) fun _ _ F b m=>UQ F T z ja.kp b11 (GS ja T f n);have C:=dk g3 fun _ _ F b m=>Nf F T;have t:=dk (gn X G h5 ["doc"]) fun _ _ F b m=>Ng F T;have i:=dk (gn X G h6 ["doc"]) fun _ _ F b m=>UR F T C t;have j:=dk (gn X G h12 ["holder","told"]) fun _ _ F b m=>UT F T o oI;have g:=dk (gn X G h13 ["holder"]) fun _ _ F b m=>Nh F T f j;have D:=dk (gn X G h16 ["cells","more"]) fun _ _ F b m=>RZ F T g;have p:=dk (gn X G h17 ["names","lacking","more"]) fun _ _ F b m=>Ni F T g;have A:=dk (gn X G h14 ["asks"]) fun _ _ F b m=>Px F T r m11 m15 qx.kp b15 (Py qx T i j D p mA hA);have k:=dk (gn X G h7 ["doc","step"]) fun _ _ F b m=>Wz F T;have B:=dk (gn X G h8 ["doc","path"]) fun _ _ F b m=>RY F T k;have E:=dk (gn X G h9 ["doc","path"]) fun _ _ F b m=>US F T i B;have q:=dk (gn X G h18 ["asks","path"]) fun _ _ F b m=>Nj F T k;have H:=dk (gn X G h19 ["asks","step"]) fun _ _ F b m=>W_ F T k;have u:=dk (gn X G h21 ["makes","told","asks","doc"]) fun _ _ F b m=>Pz F T i E j q H;have P:=kk oH b20 m20 (Yy oH T r u oE tC mE m11);have Q:=dk (gn X G h22 ["_law_script","_law_k"]) fun _ _ F b m=>ZC F T;have d:=dk (gn X G h23 ["_law_cell_here","_law_k"]) fun _ _ F b m=>ZD F T;have I:=dk (gn X G h24 ["_law_cell_here"]) fun _ _ F b m=>XC F T d;have R:=dk g26 fun _ _ F b m=>K' F T b m 50;have S:=dk (gn X G h27 ["_law_thing"]) fun _ _ F b m=>P_ F T b m 50;have y:=dk (gn X G h25 ["_law_cell_here","_law_k","_law_names_here"]) fun _ _ F b m=>cW F T d;have U:=dk (gn X G h28 ["_law_cells","_law_deep","_law_names_here"]) fun _ _ F b m=>P' F T b m d y 10;have V:=dk g26 fun _ _ F b m=>K' F T b m 22;have c_:=dk (gn X G h29 ["_law_asks_here","_law_cells","_law_names_here"]) fun _ _ F b m=>Sq F T b m d y V 50;have Y:=dk (gn X G h30 ["_law_asks_here","_law_path"]) fun _ _ F b m=>QB F T b m 25;have dA:=dk (gn X G h31 ["_law_path","_law_there"]) fun _ _ F b m=>ck F T;have Z:=dk (gn X G h32 ["_law_cell_here","_law_k","_law_told_here","_law_word"]) fun _ _ F b m=>ZO F T d;have J:=dk (gn X G h34 ["_law_cells","_law_deep","_law_told_here","_law_names_here"]) fun _ _ F b m=>(XS F xh T b m b33 m33 d y dA Z 20).1;have ZQ:=dk (gn X G h35 ["_law_doc_here","_law_path"]) fun _ _ F b m=>ZP F T;have L:=dk (gn X G h36 ["_law_makes_here","_law_known","_law_doc_here"]) fun _ _ F b m=>MO F T b m ZQ 20;have M:=dk (gn X G h37 ["_law_asks_here","_law_cell_here","_law_names_here"]) fun _ _ F b m=>XW F T d;exact cx xi T A P Q I R S U c_ Y J L M
theorem walkZ{q:Program}{loose:List Str}{g:(Str->Option Value)->Heap->Prop}{d:DefRec}{K:Params->yt}{as:List Addr}{n t:Nat}(e:∀P:Params,as=List.map (fun x=>x.fst) (K P))(i:l.most=some 63)(a:d.params.defaults=[])(F:∀(w:World) (mg:Str->Option Value) (fa:Addr) (h:Heap),(LX (K w.params)).In h->h.Ns mainGlobals mg->mg d.name=some (.ref fa)->
   ∃(b:FuncData) (c T:Addr),(K w.params).lookup T=some (PySem.W.tabObj #[])/\PySem.W.codeHdIn (LX (K w.params)) c T=true/\(∀(s:Shared) (u:Value),BindsTo s b ⟨[u],[]⟩ [("_law_script",u)])/\
    ∀base:Heap,(LX (K w.params)).In base->base.Ns mainGlobals mg->BM mg base->Au l.prog w (LX (K w.params)) mg base CK 80 fa b ["_law_script"] (Ko (LX (K w.params)) T)):
  PySem.W.WalkX q loose g (PySem.W.X.obsZ as) (PySem.W.X.valZ K n t) l.row.toRowW d [] (fun f vs=>PySem.call f vs):=Wg e i a ⟨rfl,by decide,by decide,rfl⟩ F
end cE
def PySem.W.Fast.tw10666321094974817798:=0
def PySem.W.Fast.tw10252400921931980802:=0
def PySem.W.Fast.tw2935714055185517610:=0
def PySem.W.Fast.tw4225031665143990472:=0
def PySem.W.Fast.tw14825575698690700399:=0
def PySem.W.Fast.tw8097506732333132753:=0
def PySem.W.Fast.tw14516954323566664055:=0
def PySem.W.Fast.tw10272983457456074044:=0
def PySem.W.Fast.tw16315443099027213655:=0
def PySem.W.Fast.tw10180379550481909584:=0
def PySem.W.Fast.tw3009565742553540757:=0
def PySem.W.Fast.tw8571643335028804030:=0
def PySem.W.Fast.tw608688648616991704:=0
def PySem.W.Fast.tw10826174653861819140:=0
def PySem.W.Fast.tw14908915071465748381:=0
def PySem.W.Fast.tw17156368033960150970:=0
def PySem.W.Fast.tw12710842636920189073:=0
def PySem.W.Fast.tw17324730159556494481:=0
def PySem.W.Fast.tw5212585738695251692:=0
def PySem.W.Fast.tw5754712116564781107:=0
def PySem.W.Fast.tw6174647525285092274:=0
def PySem.W.Fast.tw8005739942497299794:=0
def PySem.W.Fast.tw8705829074063992311:=0
def PySem.W.Fast.tw2301449071221719068:=0
def PySem.W.Fast.tw6633792536627335873:=0
def PySem.W.Fast.tw15381512377356729091:=0
def PySem.W.Fast.tw6639077139958088920:=0
def PySem.W.Fast.tw5320820046601660805:=0
def PySem.W.Fast.tw1101891678444279558:=0
def PySem.W.Fast.tw9879689568400641578:=0
def PySem.W.Fast.tw11759090026578785204:=0
def PySem.W.Fast.tw12113026621724226782:=0
def PySem.W.Fast.tw1247813839023882285:=0
def PySem.W.Fast.tw17073517933826403209:=0
def PySem.W.Fast.tw4582895095846288126:=0
def PySem.W.Fast.tw13005470599848808477:=0
def PySem.W.Fast.tw6095342692489519914:=0
def PySem.W.Fast.tw1808878581753526325:=0
def PySem.W.Fast.tw14724220997844473516:=0
def PySem.W.Fast.tw949511318180583729:=0
def PySem.W.Fast.tw616952485122803202:=0
def PySem.W.Fast.tw2360025887315554827:=0
def PySem.W.Fast.tw3275857048048901643:=0
def PySem.W.Fast.tw14292650936025896220:=0
def PySem.W.Fast.tw9558896777782038076:=0
def PySem.W.Fast.tw151391456484590032:=0
def PySem.W.Fast.tw14175836389124455552:=0
def PySem.W.Fast.tw16761798346079585819:=0
def PySem.W.Fast.tw17900441621322484443:=0
def PySem.W.Fast.tw9976401166182976215:=0
def PySem.W.Fast.tw9027977960112366048:=0
def PySem.W.Fast.tw17520144200584198476:=0
def PySem.W.Fast.tw13973136449779806578:=0
def PySem.W.Fast.tw16344229861152873661:=0
def PySem.W.Fast.tw14168073391230746784:=0
def PySem.W.Fast.tw8239375056448691895:=0
def PySem.W.Fast.tw16663408468750453187:=0
def PySem.W.Fast.tw16521163087324659905:=0
def PySem.W.Fast.tw15506112442627668607:=0
def PySem.W.Fast.tw1671480690158369142:=0
def PySem.W.Fast.tw10811714855534906950:=0
def PySem.W.Fast.tw5408721280988907825:=0
def PySem.W.Fast.tw9705341858980206177:=0
def PySem.W.Fast.tw2291930672285713175:=0
def PySem.W.Fast.tw7132663649900661803:=0
def PySem.W.Fast.tw17609113103980160119:=0
def PySem.W.Fast.tw709862877479674256:=0
def PySem.W.Fast.tw9575699421957277523:=0
def PySem.W.Fast.tw15002769247688925584:=0
def PySem.W.Fast.tw11613879023830384951:=0
def PySem.W.Fast.tw13786483252178685411:=0
def PySem.W.Fast.tw13720516222326036850:=0
def PySem.W.Fast.tw4951073676947778260:=0
def PySem.W.Fast.tw2852553739454383717:=0
def PySem.W.Fast.tw11809151162881876366:=0
def PySem.W.Fast.tw11392845359114632804:=0
def PySem.W.Fast.tw8832797862935985064:=0
def PySem.W.Fast.tw8287601618441578684:=0
def PySem.W.Fast.tw14504693919640295875:=0
def PySem.W.Fast.tw12344394414101166031:=0
def PySem.W.Fast.tw8904012128212815136:=0
def PySem.W.Fast.tw12218190666455162477:=0
def PySem.W.Fast.tw7352834274818993665:=0
def PySem.W.Fast.tw12880949050087705611:=0
def PySem.W.Fast.tw423035404022180500:=0
def PySem.W.Fast.tw1706374454430820601:=0
def PySem.W.Fast.tw6530799642646581812:=0
def PySem.W.Fast.tw16804463110324901566:=0
def PySem.W.Fast.tw8439431444065267994:=0
def PySem.W.Fast.tw782342755580267029:=0
open PySem PySem.W PyProof.Rows
set_option maxRecDepth 100000 in
set_option maxHeartbeats 0 in
theorem PySem.Challenge.cw_patchbough_k51_what_is_made_holds : PySem.Challenge.rw_patchbough_k51_what_is_made.Holds := by
 w_on;o_law;z_head;(case hw=>w_witness2)
 k_fill
 refine cE.walkZ (l:=PySem.Challenge.rw_patchbough_k51_what_is_made) (fun _=>rfl) rfl rfl ?F
 case F=>
  intro w c fa h b G a
  refine' cE.all_mk b G a (L2.fa ?a1 ?l1 ?c1) (L2.fa ?a2 ?l2 ?c2) (L2.fa ?a3 ?l3 ?c3) (L2.fa ?a4 ?l4 ?c4) (L2.fa ?a5 ?l5 ?c5) (L2.fa ?a6 ?l6 ?c6) (L2.fa ?a7 ?l7 ?c7) (L2.fa ?a8 ?l8 ?c8) (L2.fa ?a9 ?l9 ?c9) (L2.fa ?a10 ?l10 ?c10) (L2.fa ?a11 ?l11 ?c11) (L2.fa ?a12 ?l12 ?c12) (L2.fa ?a13 ?l13 ?c13) (L2.fa ?a14 ?l14 ?c14) (L2.fa ?a15 ?l15 ?c15) (L2.fa ?a16 ?l16 ?c16) (L2.fa ?a17 ?l17 ?c17) (L2.fa ?a18 ?l18 ?c18) (L2.fa ?a19 ?l19 ?c19) (L2.Bj ?a20) (L2.Gn ?l20 rfl) (L2.RL ?c20) (L2.RM ?l20) (L2.fa ?a21 ?l21 ?c21) (L2.fa ?a22 ?l22 ?c22) (L2.fa ?a23 ?l23 ?c23) (L2.fa ?a24 ?l24 ?c24) (L2.fa ?a25 ?l25 ?c25) (L2.fa ?a26 ?l26 ?c26) (L2.fa ?a27 ?l27 ?c27) (L2.fa ?a28 ?l28 ?c28) (L2.fa ?a29 ?l29 ?c29) (L2.fa ?a30 ?l30 ?c30) (L2.fa ?a31 ?l31 ?c31) (L2.fa ?a32 ?l32 ?c32) (L2.fa ?a33 ?l33 ?c33) (L2.fa ?a34 ?l34 ?c34) (L2.fa ?a35 ?l35 ?c35) (L2.fa ?a36 ?l36 ?c36) (L2.fa ?a37 ?l37 ?c37) (L2.Bj ?a38) (L2.Gn ?l38 rfl) (L2.RL ?c38) (L2.RM ?l38) (L2.Bj ?z1) (L2.Bj ?z2) (L2.Bj ?z3) (L2.Bj ?z4) (L2.Bj ?z5) (L2.Bj ?z6) (L2.Bj ?z7) (L2.Bj ?z8) (L2.Bj ?z9) (L2.Bj ?z10) (L2.Bj ?z11) (L2.Bj ?z12) (L2.Bj ?z13) (L2.Bj ?z14) (L2.Bj ?z15) (L2.Bj ?z16) (L2.Bj ?z17) (L2.Bj ?zZ) (L2.Bj ?eA) ?hA ?oE ?tL ?tO ?tC ?tT
  (case a1|l1|c1|a2|l2|c2|a3|l3|c3|a4|l4|c4|a5|l5|c5|a6|l6|c6|a7|l7|c7|a8|l8|c8|a9|l9|c9|a10|l10|c10|a11|l11|c11|a12|l12|c12|a13|l13|c13|a14|l14|c14|a15|l15|c15|a16|l16|c16|a17|l17|c17|a18|l18|c18|a19|l19|c19|a20|l20|c20|a21|l21|c21|a22|l22|c22|a23|l23|c23|a24|l24|c24|a25|l25|c25|a26|l26|c26|a27|l27|c27|a28|l28|c28|a29|l29|c29|a30|l30|c30|a31|l31|c31|a32|l32|c32|a33|l33|c33|a34|l34|c34|a35|l35|c35|a36|l36|c36|a37|l37|c37|a38|l38|c38|z1|z2|z3|z4|z5|z6|z7|z8|z9|z10|z11|z12|z13|z14|z15|z16|z17|zZ|eA=>k_is)
  (case hA=>kernel_rfl)
  (case oE=>exact rfl)
  (case tL=>k_is)
  (case tO=>exact rfl)
  (case tC=>kernel_rfl)
  (case tT=>k_is)
#print axioms PySem.Challenge.cw_patchbough_k51_what_is_made_holds
