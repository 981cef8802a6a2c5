import PyProof.Rows.All
import Wide.All
import OpenK.AllK
import Wide.FinOn
import Lean
import PyProof.EqAt
import PyProof.EqKinds
import PyProof.TupleCall
import PyProof.ReprRoads
import PyProof.ReprBulk
import Wide.Seal
import PyProof.ExcInit
import PyProof.NsDelKeeps
import PyProof.ZipIter
import KE.KItemsList
import PyProof.P3Eq
import KE.KEqDict
import PySem.Challenge.RW_patchbough_k27_rows_refused
set_option compiler.extract_closed false
set_option bootstrap.genMatcherCode false
noncomputable section
set_option Elab.async false
set_option linter.all false
set_option maxRecDepth 100000
set_option maxHeartbeats 40000000
theorem mn{α:Type _}{l:List α}{i:Nat}(h:i<l.length):l[i]?=some l[i]:=List.getElem?_eq_getElem h
theorem mq{α:Type _}{l:List α}{i:Nat}{a:α}(h:l[i]?=some a):∃h:i<l.length,l[i]=a:=List.getElem?_eq_some_iff.mp h
theorem mr{α:Type _}{a b:α}(h:some a=some b):a=b:=Option.some.inj h
theorem mu{α:Type _}{l:List α}{i:Nat}{a:α}(h:l[i]?=some a):a∈l:=List.mem_of_getElem? h
abbrev mw:=PySem.W.Frag
namespace L2
open PySem PySem.Spec PyProof.Rows
abbrev Key:=Sum Int Str
noncomputable def FN:Key->Value->Bool
 | .inl k,v=>Value.isInt k v
 | .inr x,v=>Value.isStrOf x v
noncomputable def cv(w:World):Key->Int
 | .inl k=>hashInt k
 | .inr x=>hashStr w x
theorem Ao:∀{k:Key}{v:Value},FN k v=true->(∃i t,k=Sum.inl i/\v=Value.int i t)∨(∃x t,k=Sum.inr x/\v=Value.str x t)
 | .inl i,v,h=>by
  obtain⟨t,e⟩:=Value.isInt_shape (k:=i) (v:=v) h;exact .inl ⟨i,t,rfl,e⟩
 | .inr x,v,h=>by
  obtain⟨t,e⟩:=Value.isStrOf_shape (x:=x) (v:=v) h;exact .inr ⟨x,t,rfl,e⟩
theorem OE(i:Int)(t:Tok):FN (.inl i) (.int i t)=true:=by simp[FN,Value.isInt]
theorem OF(x:Str)(t:Tok):FN (.inr x) (.str x t)=true:=by simp[FN,Value.isStrOf]
theorem Wn(a b:Int):decide ((Sum.inl a:Key)=Sum.inl b)=(a==b):=by
 by_cases e:a=b
 ·subst e;simp
 ·have h:¬(Sum.inl a:Key)=Sum.inl b:=fun q=>e (Sum.inl.inj q);rw[decide_eq_false h];exact(beq_eq_false_iff_ne.mpr e).symm
theorem Wo(a b:Str):decide ((Sum.inr a:Key)=Sum.inr b)=decide (a=b):=by
 by_cases e:a=b
 ·subst e;simp
 ·have h:¬(Sum.inr a:Key)=Sum.inr b:=fun q=>e (Sum.inr.inj q);rw[decide_eq_false h,decide_eq_false e]
theorem Wq(a:Int)(b:Str):decide ((Sum.inl a:Key)=Sum.inr b)=false:=decide_eq_false (fun q=>nomatch q)
theorem Wr(a:Str)(b:Int):decide ((Sum.inr a:Key)=Sum.inl b)=false:=decide_eq_false (fun q=>nomatch q)
def Ad(prog:Program)(w:World):PySem.KeyKind prog w Key where
 is:=FN
 hash:=cv w
 inj:=fun v a b ha hb=>by
  rcases Ao ha with⟨i,t,rfl,rfl⟩|⟨x,t,rfl,rfl⟩
  ·rcases Ao hb with⟨j,u,rfl,e⟩|⟨y,u,rfl,e⟩
   ·injection e with e1 _;rw[e1]
   ·exact nomatch e
  ·rcases Ao hb with⟨j,u,rfl,e⟩|⟨y,u,rfl,e⟩
   ·exact nomatch e
   ·injection e with e1 _;rw[e1]
 byValue:=fun k v h=>by
  rcases Ao h with⟨i,t,rfl,rfl⟩|⟨x,t,rfl,rfl⟩<;>rfl
 pyHash:=fun hv h=>by
  rcases Ao hv with⟨i,t,rfl,rfl⟩|⟨x,t,rfl,rfl⟩
  ·exact wpAny_pyHash_int h
  ·exact wpAny_pyHash_str h
 eqBool:=fun hu hv h=>by
  rcases Ao hu with⟨i,t,rfl,rfl⟩|⟨x,t,rfl,rfl⟩
  ·rcases Ao hv with⟨j,u,rfl,rfl⟩|⟨y,u,rfl,rfl⟩
   ·rw[Wn]at h;exact wpAny_eqBool_int h
   ·rw[Wq]at h;exact SeqAt.EqAt.int_str i t y u _ _ _ _ h
  ·rcases Ao hv with⟨j,u,rfl,rfl⟩|⟨y,u,rfl,rfl⟩
   ·rw[Wr]at h;exact SeqAt.EqAt.str_int x t j u _ _ _ _ h
   ·rw[Wo]at h;exact wpAny_eqBool_str h
 «strs»:=fun k x t v h=>by
  rcases Ao h with⟨i,u,rfl,e⟩|⟨y,u,rfl,e⟩
  ·exact nomatch e
  ·injection e with e1 _;subst e1;cases v<;>rfl
theorem JU(prog:Program)(w:World)(i:Int)(t:Tok):(Ad prog w).is (.inl i) (.int i t)=true:=OE i t
theorem JV(prog:Program)(w:World)(x:Str)(t:Tok):(Ad prog w).is (.inr x) (.str x t)=true:=OF x t
inductive V where
 |Aj|bl (b:Bool)|int (i:Int)|str (x:Str)|Mj (b:Array UInt8)|Ws (b:UInt64)|ref (a:Addr)|ty (n:String)
 deriving DecidableEq
def RelV:V->Value->Prop
 | .Aj,u=>u=Value.none
 | .bl b,u=>u=Value.bool b
 | .int i,u=>∃t,u=Value.int i t
 | .str x,u=>∃t,u=Value.str x t
 | .Mj b,u=>∃t,u=Value.bytes b t
 | .Ws b,u=>∃t,u=Value.float b t
 | .ref a,u=>u=Value.ref a
 | .ty n,u=>u=Value.type n
abbrev Vals:List V->List Value->Prop:=Paired RelV
theorem Vals.length{xs:List V}{us:List Value}(r:Vals xs us):xs.length=us.length:=Paired.length r
variable{us:List Value}{xs:List V}
theorem Vals.inv{x:V}(r:Vals (x::xs) us):∃u c,us=u::c/\RelV x u/\Vals xs c:=by
 cases r with
 |cons a b=>exact⟨_,_,rfl,a,b⟩
variable{i:Nat}
theorem Vals.get{x:V}(r:Vals xs us)(e:xs[i]?=some x):∃u,us[i]?=some u/\RelV x u:=by
 induction r generalizing i with
 |nil=>rw[List.getElem?_nil]at e;exact nomatch e
 |cons a b c=>
  cases i with
  |zero=>exact⟨_,rfl,mr e▸a⟩
  |succ j=>exact c (i:=j) e
theorem Vals.set{x:V}{u:Value}(r:RelV x u):∀{xs:List V}{us:List Value}(i:Nat),Vals xs us->Vals (xs.set i x) (us.set i u)
 |_,_,_,.nil=>.nil
 |_,_,0,.cons _ t=>.cons r t
 |_,_,i+1,.cons q t=>.cons q (Vals.set r i t)
theorem Vals.append{ys:List V}{b:List Value}(r:Vals xs us)(s:Vals ys b):Vals (xs++ys) (us++b):=by
 induction r with
 |nil=>exact s
 |cons a _ c=>exact .cons a c
theorem Vals.take:∀{xs:List V}{us:List Value}(n:Nat),Vals xs us->Vals (xs.take n) (us.take n)
 |_,_,0,_=>.nil
 |_,_,_+1,.nil=>.nil
 |_,_,n+1,.cons r t=>.cons r (Vals.take n t)
theorem Vals.drop:∀{xs:List V}{us:List Value}(n:Nat),Vals xs us->Vals (xs.drop n) (us.drop n)
 |_,_,0,r=>r
 |_,_,_+1,.nil=>.nil
 |_,_,n+1,.cons _ t=>Vals.drop n t
def CT:Option V->Option Value->Prop
 |some v,some u=>RelV v u
 |none,none=>True
 |_,_=>False
def KV{a:Type}:List (a×V)->List (a×Value)->Prop:=Paired fun(p:a×V)(q:a×Value)=>p.1=q.1/\RelV p.2 q.2
noncomputable def kV:Key->V
 | .inl i=>.int i
 | .inr x=>.str x
inductive HO where
 |lst (xs:List V)
 |tup (xs:List V)
 |dK (kvs:List (Key×V))|dT (kvs:List (List Key×V))
 |set (S:Int->Bool) (n:Nat)
 |ins (C a:Addr) (fs:List (Str×V))
 |own (x:Addr)
 |xd (fs:List (Str×V))
 |met (f x:Addr)
 |WC (lo b:Int)
 |CU (o:Obj) (u:HO)
 |WD (ps:Array Value)
 |ext (c:Heap->Prop)
abbrev Hp:=Addr->Option HO
def upd(H:Hp)(a:Addr)(o:HO):Hp:=fun b=>if b=a then some o else H b
def TU(H:Hp)(o:HO)(Q:V->Hp->Prop):Prop:=∀p,H p=none->Q (.ref p) (upd H p o)
variable{H:Hp}{a:Addr}{o:HO}
theorem AG:upd H a o a=some o:=by unfold upd;rw[if_pos rfl]
variable{b:Addr}
theorem AK(h:b≠a):upd H a o b=H b:=by unfold upd;rw[if_neg h]
theorem TY{u:HO}:upd (upd H a o) a u=upd H a u:=by
 funext b;unfold upd;split<;>rfl
theorem Zo{u:HO}(h:H a=some o)(h':H b=some u)(d:o≠u):a≠b:=by
 intro e;subst e;rw[h]at h';exact d (mr h')
theorem Ak(h:H a=some o)(h':H b=none):a≠b:=by
 intro e;subst e;rw[h]at h';cases h'
section
variable(P:Program) (w:World)
def Al(H:Hp)(h:Heap)(a:Addr):HO->Prop
 | .lst xs=>xs.length<=sizeLine/\∃(its:List Value)(n:Nat),Vals xs its/\h.get? a=some {cls:=.type "list",data:=.seq its.toArray n}
 | .tup xs=>xs.length<=sizeLine/\∃its:List Value,Vals xs its/\IsTup h a its.toArray
 | .dK b=>b.length<=sizeLine/\(a==sysModules)=false/\∃g,KV b g/\h.DictOf (Ad P w) a g
 | .dT b=>b.length<=sizeLine/\(a==sysModules)=false/\∃xs:List (List Key×Addr×Value),
   Paired (fun(p:List Key×V)(q:List Key×Addr×Value)=>p.1=q.1/\H q.2.1=some (.tup (p.1.map kV))/\RelV p.2 q.2.2) b xs/\
   ∃o i l,h.get? a=some o/\o.ExactDict/\o.data=.dict i l/\i.toList=xs.map (entryOfKey (tupleKind (Ad P w)))/\(xs.map (·.1)).Nodup
 | .set S n=>h.SetOf (intKind P w) a S n
 | .ins C d fs=>H d=some (.own a)/\fs.length<=1000/\d≠a/\h.get? a=some (PySem.W.instObj C d)/\
   ∃c,h.Ns1 d c/\(∀f,CT (fs.lookup f) (c f))/\PySem.Within c (fs.map (·.1))
 | .own _=>∃o,h.get? a=some o
 | .xd fs=>∃c,h.Ns1 a c/\∀f,CT (fs.lookup f) (c f)
 | .WC lo m=>∃t u v,h.get? a=some {cls:=.type "range",data:=.fields #[.int lo t,.int m u,.int 1 v]}
 | .CU o u=>h.get? a=some o/\Al H h a u
 | .WD r=>h.get? a=some {cls:=.none,data:=.fields r}
 | .met f x=>h.get? a=some (PySem.W.methodObj (.ref f) (.ref x))
 | .ext e=>e h/\(∃o,h.get? a=some o)/\∀j k:Heap,e j->(∀o,j.get? a=some o->k.get? a=some o)->e k
def CS(H:Hp)(h:Heap):Prop:=∀a o,H a=some o->Al P w H h a o
end
variable{P:Program}{w:World}{h h':Heap}{H':Hp}
section
theorem Al.lt(x:Al P w H h a o):a<h.objs.size:=by
 cases o with
 |lst c=>obtain⟨_,_,_,_,e⟩:=x;exact Heap.lt_size e
 |tup c=>obtain⟨_,_,_,p⟩:=x;exact p.lt
 |dK b=>obtain⟨_,_,_,_,o,_,_,e,_⟩:=x;exact Heap.lt_size e
 |dT b=>obtain⟨_,_,_,_,o,_,_,e,_⟩:=x;exact Heap.lt_size e
 |set S n=>obtain⟨o,_,_,_,e,_⟩:=x;exact Heap.lt_size e
 |ins C d fs=>obtain⟨_,_,_,e,_⟩:=x;exact Heap.lt_size e
 |own y=>obtain⟨_,e⟩:=x;exact Heap.lt_size e
 |xd fs=>obtain⟨_,⟨_,_,_,e,_⟩,_⟩:=x;exact Heap.lt_size e
 |WC lo g=>obtain⟨_,_,_,e⟩:=x;exact Heap.lt_size e
 |CU i u=>obtain⟨e,_⟩:=x;exact Heap.lt_size e
 |WD j=>exact Heap.lt_size (show h.get? a=some _ from x)
 |met f y=>exact Heap.lt_size (show h.get? a=some _ from x)
 |ext k=>obtain⟨_,⟨_,e⟩,_⟩:=x;exact Heap.lt_size e
theorem Paired.Zp{e g:Type}{F G:e->g->Prop}{c:List e}{d:List g}(r:Paired F c d)(f:∀a b,F a b->G a b):Paired G c d:=by
 induction r with
 |nil=>exact .nil
 |cons a _ i=>exact .cons (f _ _ a) i
theorem Al.Gh(x:Al P w H h a o)(k:∀b u,(b=a∨H b=some (.own a))->h.get? b=some u->h'.get? b=some u)(D:∀b,H b=some (.own a)->H' b=some (.own a))(E:∀b xs,H b=some (.tup xs)->H' b=some (.tup xs)):Al P w H' h' a o:=by
 induction o with
 |lst xs=>obtain⟨z,l,n,r,e⟩:=x;exact⟨z,l,n,r,k _ _ (.inl rfl) e⟩
 |tup xs=>obtain⟨z,l,r,g,e,c⟩:=x;exact⟨z,l,r,g,k _ _ (.inl rfl) e,c⟩
 |dK m=>obtain⟨z,y,F,r,g,i,j,e,c⟩:=x;exact⟨z,y,F,r,g,i,j,k _ _ (.inl rfl) e,c⟩
 |dT m=>
  obtain⟨z,y,xs,r,g,i,j,e,c⟩:=x;exact⟨z,y,xs,Paired.Zp r fun p q z=>⟨z.1,E _ _ z.2.1,z.2.2⟩,g,i,j,k _ _ (.inl rfl) e,c⟩
 |set S n=>obtain⟨g,i,j,t,e,c⟩:=x;exact⟨g,i,j,t,k _ _ (.inl rfl) e,c⟩
 |ins C I fs=>
  obtain⟨d,z,ne,e,s,⟨A,i,j,e2,c⟩,r⟩:=x;exact⟨D _ d,z,ne,k _ _ (.inl rfl) e,s,⟨A,i,j,k _ _ (.inr d) e2,c⟩,r⟩
 |own y=>obtain⟨g,e⟩:=x;exact⟨g,k _ _ (.inl rfl) e⟩
 |xd fs=>obtain⟨s,⟨A,i,j,e,c⟩,r⟩:=x;exact⟨s,⟨A,i,j,k _ _ (.inl rfl) e,c⟩,r⟩
 |WC lo J=>obtain⟨t,u,v,e⟩:=x;exact⟨t,u,v,k _ _ (.inl rfl) e⟩
 |CU g u G=>obtain⟨e,q⟩:=x;exact⟨k _ _ (.inl rfl) e,G q⟩
 |WD B=>
  have e:h.get? a=some {cls:=.none,data:=.fields B}:=x;show h'.get? a=some {cls:=.none,data:=.fields B};exact k a _ (.inl rfl) e
 |met f y=>
  have e:h.get? a=some (PySem.W.methodObj (.ref f) (.ref y)):=x;show h'.get? a=some (PySem.W.methodObj (.ref f) (.ref y));exact k a _ (.inl rfl) e
 |ext K=>obtain⟨p,⟨o,e⟩,st⟩:=x;exact⟨st _ _ p fun o q=>k _ _ (.inl rfl) q,⟨o,k _ _ (.inl rfl) e⟩,st⟩
theorem CS.lt(x:CS P w H h)(e:H a=some o):a<h.objs.size:=(x a o e).lt
theorem CS.fresh(x:CS P w H h)(e:h.objs.size<=a):H a=none:=by
 cases q:H a with
 |none=>rfl
 |some u=>exact absurd (Nat.lt_of_lt_of_le (x.lt q) e) (Nat.lt_irrefl _)
theorem CS.kept(x:CS P w H h)(k:∀b u,h.get? b=some u->h'.get? b=some u):CS P w H h':=fun a o e=>
 (x a o e).Gh (fun b u _ q=>k b u q) (fun _ q=>q) fun _ _ q=>q
theorem CS.laid(x:CS P w H h)(k:∀b u,h.get? b=some u->h'.get? b=some u)(g:h.objs.size<=a)(new:Al P w (upd H a o) h' a o):CS P w (upd H a o) h':=fun b u e=>by
 have d:=x.fresh g;by_cases f:b=a
 ·subst f;rw[AG]at e;cases e;exact new
 ·rw[AK f]at e;exact(x b u e).Gh (fun c v _ q=>k c v q) (fun c q=>by rw[AK (Ak q d)];exact q) fun c i q=>by rw[AK (Ak q d)];exact q
end
def Rd(H:Hp)(a:Addr)(u:HO):Prop:=H a=some u∨∃o,H a=some (.CU o u)
theorem Rd.ok{u:HO}(r:Rd H a u)(x:CS P w H h):Al P w H h a u:=by
 rcases r with r|⟨o,r⟩
 ·exact x a u r
 ·obtain⟨_,q⟩:=x a _ r;exact q
def Zq:Option HO->Prop
 |some (.lst _)=>True
 |some (.dK _)=>True
 |some (.dT _)=>True
 |some (.set _ _)=>True
 |some (.ins _ _ _)=>True
 |some (.ext _)=>True
 |_=>False
section
variable {x e:Addr} {o':HO}
theorem CS.write(ok:CS P w H h)(g:Zq (H x))(n:e=x∨H e=some (.own x))(k:∀b u,b≠e->h.get? b=some u->h'.get? b=some u)(m:∃u,h'.get? e=some u)(new:Al P w (upd H x o') h' x o'):CS P w (upd H x o') h':=fun b u q=>by
 have d:∀c y,H c=some (.own y)->c≠x:=fun c y r z=>by subst z;rw[r]at g;exact g
 have f:∀c i,H c=some (.tup i)->c≠x:=fun c i r z=>by subst z;rw[r]at g;exact g
 by_cases j:b=x
 ·subst j;rw[AG]at q;cases q;exact new
 ·rw[AK j]at q;by_cases a:b=e
  ·have o:H b=some (.own x):=by
    rcases n with z|z
    ·exact absurd (a.trans z) j
    ·rw[a];exact z
   rw[q]at o;cases o;obtain⟨v,p⟩:=m;exact⟨v,by rw[a];exact p⟩
  ·refine(ok b u q).Gh (fun c v l r=>k c v ?_ r) (fun c r=>by rw[AK (d c b r)];exact r) fun c i r=>by rw[AK (f c i r)];exact r
   rcases l with rfl|l
   ·exact a
   ·rintro rfl;rcases n with z|z
    ·exact d c b l z
    ·rw[l]at z;cases z;exact j rfl
end
structure Un(fs ex:List Addr)(H H':Hp)(h h':Heap):Prop where
 keep:∀b o,h.get? b=some o->H b=none->b∉fs->b∉ex->h'.get? b=some o
 slot:∀b o,h.get? b=some o->H b=none->b∈fs->b∉ex->∃sl,h'.get? b=some {o with slots:=sl}
 free:∀b o,h.get? b=some o->H b=none->b∉ex->H' b=none
 there:∀b o,h.get? b=some o->b∉ex->∃o',h'.get? b=some o'
 Dg:∀b xs,H b=some (.tup xs)->H' b=some (.tup xs)
 DV:∀b o u,H b=some (.CU o u)->H' b=some (.CU o u)
 EB:∀b ps,H b=some (.WD ps)->∃more,H' b=some (.WD (ps++more))
section
variable{fs iB ex kY:List Addr} {H1 H2:Hp} {h1 h2:Heap} {x e:Addr} 
theorem Un.any(u:Un fs ex H H1 h h1){ob:Obj}(q:h.get? b=some ob)(n:H b=none)(c:b∉ex):∃f,h1.get? b=some {ob with slots:=f}:=by
 by_cases d:b∈fs
 ·exact u.slot b ob q n d c
 ·exact⟨ob.slots,u.keep b ob q n d c⟩
theorem Un.kept(k:∀b u,h.get? b=some u->h'.get? b=some u):Un fs ex H H h h':=
 ⟨fun b c q _ _ _=>k b c q,fun b c q _ _ _=>⟨c.slots,k b c q⟩,fun _ _ _ n _=>n,fun b c q _=>⟨c,k b c q⟩,fun _ _ q=>q,fun _ _ _ q=>q,fun _ d q=>⟨#[],by rw[q];simp⟩⟩
theorem Un.refl:Un fs ex H H h h:=Un.kept fun _ _ q=>q
theorem Un.laid(k:∀b u,h.get? b=some u->h'.get? b=some u)(hp:h.objs.size<=a)(hn:H a=none):Un fs ex H (upd H a o) h h' where
 keep:=fun b u q _ _ _=>k b u q
 slot:=fun b u q _ _ _=>⟨u.slots,k b u q⟩
 free:=fun b u q n _=>by rw[AK (Nat.ne_of_lt (Nat.lt_of_lt_of_le (Heap.lt_size q) hp))];exact n
 there:=fun b u q _=>⟨u,k b u q⟩
 Dg:=fun b xs q=>by rw[AK (Ak q hn)];exact q
 DV:=fun b u xs q=>by rw[AK (Ak q hn)];exact q
 EB:=fun b ps q=>⟨#[],by rw[AK (Ak q hn),q];simp⟩
theorem Un.write(d:Zq (H x))(l:e=x∨H e=some (.own x))(k:∀b u,b≠e->h.get? b=some u->h'.get? b=some u)(f:∃u,h'.get? e=some u):Un fs ex H (upd H x o) h h':=by
 have i:∀b,H b=none->b≠x:=fun b n z=>by subst z;rw[n]at d;exact d
 have j:∀b,H b=none->b≠e:=fun b n z=>by
  subst z;rcases l with r|r
  ·exact i b n r
  ·rw[n]at r;cases r
 have g:∀b u,H b=some u->¬Zq (some u)->b≠x:=fun b u q m z=>by subst z;rw[q]at d;exact m d
 refine⟨fun b u q n _ _=>k b u (j b n) q,fun b u q n _ _=>⟨u.slots,k b u (j b n) q⟩,fun b u q n _=>by rw[AK (i b n)];exact n,fun b u q _=>?_,
  fun b p q=>by rw[AK (g b _ q fun z=>z)];exact q,fun b u p q=>by rw[AK (g b _ q fun z=>z)];exact q,fun b s q=>⟨#[],by rw[AK (g b _ q fun z=>z),q];simp⟩⟩
 by_cases c:b=e
 ·subst c;exact f
 ·exact⟨u,k b u c q⟩
end
def cP(h:Heap)(H:Hp):List Addr:=(List.range h.objs.size).filter fun a=>(H a).isSome
def Hj(h:Heap)(H:Hp):Heap:=PySem.W.hideAll h (cP h H)
theorem OG(h:Heap)(H:Hp):(Hj h H).objs.size=h.objs.size:=PySem.W.hideAll_size _ _
theorem P'{o:Obj}(e:h.get? b=some o)(n:H b=none):(Hj h H).get? b=some o:=
 PySem.W.hideAll_get _ e fun a=>by
  have q:(H b).isSome=true:=(List.mem_filter.mp a).2;rw[n]at q;simp at q
theorem TZ{o:Obj}(e:(Hj h H).get? b=some o):h.get? b=some o/\H b=none:=by
 have a:h.get? b=some o:=PySem.W.of_hideAll (cP h H) e;refine⟨a,?_⟩;cases q:H b with
 |none=>rfl
 |some x=>
  have c:b∈cP h H:=List.mem_filter.mpr ⟨List.mem_range.mpr (Heap.lt_size a),by simp[q]⟩;have z:(Hj h H).get? b=none:=PySem.W.hideAll_none (cP h H) c;rw[z]at e;cases e
def Ta(g h:Heap)(L:Addr):List (Addr×Obj):=(List.range h.objs.size).filterMap fun a=>if a=L∨(g.get? a).isSome=true then none else(h.get? a).map fun o=>(a,o)
def rest(g h:Heap)(L d:Addr):List (Addr×Obj):=(Ta g h L).filter fun p=>decide (p.1≠d)
structure Mod(K:mw)(mg:Str->Option Value)(base:Heap):Prop where
 Wt:K.In base
 glob:base.Ns mainGlobals mg
 blt:∃mb,base.Ns builtinsNs mb/\∀x:Str,x≠"__name__"->mb x=bootBuiltins x
 nolimit:base.NoLimit
structure Cx where
 prog:Program
 w:World
 K:mw
 mg:Str->Option Value
 base:Heap
 A:Around
 N:List Str
 s₀:Shared
 H₀:Hp
 env:Env
 outer:List Env
 stack:List Env
 ex:List Addr
 fn:Str->Bool
 calm:Bool
 pn:List (Addr×Obj)
 xe:Value->Shared->Prop
def JT(l:List Env):List Addr:=l.filterMap (·.frame)
abbrev Cx.fs(X:Cx):List Addr:=JT X.outer
def Zr(a:Scope)(x:Str):Prop:=a.names.lookup x=some .local∨a.names.lookup x=some .cell∨a.names.lookup x=some .free
def Loc(a:Scope)(x:Str):Prop:=a.names.lookup x=some .local∨a.names.lookup x=some .cell
def Look(env:Env)(h:Heap)(m:Str->Option Value)(x:Str)(u:Value):Prop:= (env.kindOf x=some .local/\m x=some u)∨((env.kindOf x=some .cell∨env.kindOf x=some .free)/\∃c,env.cells.lookup x=some c/\h.IsCell c (some u))
structure Cx.Ok(X:Cx):Prop where
 mod:Mod X.K X.mg X.base
 kind:X.env.scope.kind=.function
 glob:X.env.globals=mainGlobals
 blt:X.env.builtins=builtinsNs
 above:X.s₀.heap.objs.size<=X.env.locals
 inj:∀x y c,X.env.cells.lookup x=some c->X.env.cells.lookup y=some c->x=y
 has:∀x,(X.env.kindOf x=some .cell∨X.env.kindOf x=some .free)->∃c,X.env.cells.lookup x=some c
 Zg:∀x c,X.fn x=true->X.env.cells.lookup x=some c->X.s₀.heap.objs.size<=c
 hd:X.calm=true->X.A.handled=none
 frames:X.A.frames=some X.stack
 Zs:X.stack=X.outer∨(X.stack=X.env::X.outer/\X.env.frame=some X.env.locals)
 Zt:∀b∈X.ex,b≠X.env.locals/\∀x c,X.env.cells.lookup x=some c->c≠b
 bs:∀b o,X.base.get? b=some o->X.s₀.heap.get? b=some o/\X.H₀ b=none
 TV:X.base.objs.size<=X.s₀.heap.objs.size
 OH:∀b o,X.base.get? b=some o->b∉X.ex
 OI:∀b∈X.ex,b∉X.fs
 EC:X.s₀.heap.FunFrames X.base X.outer
 WE:∀b∈X.fs,X.H₀ b=none
structure Inv(X:Cx)(pins:List (Addr×Obj))(σ:List (Option V))(H:Hp)(s:Shared):Prop where
 ok:X.Ok
 os:s.os=X.s₀.os
 bare:AllBare s.gens
 base:Un X.fs X.ex X.H₀ H X.s₀.heap s.heap
 loc:∃m,s.heap.Ns X.env.locals m/\∀(i:Nat)(x:Str)(v:V),X.N[i]?=some x->σ[i]?=some (some v)->Zr X.env.scope x->∃u,RelV v u/\Look X.env s.heap m x u
 cell:∀x c,X.env.cells.lookup x=some c->∃v,s.heap.IsCell c v
 free:H X.env.locals=none
 Bj:∀x c,X.env.cells.lookup x=some c->H c=none
 pin:∀p∈X.pn++pins,s.heap.get? p.1=some p.2/\H p.1=none/\p.1≠X.env.locals/\p.1∉X.fs/\∀v,p.2.data≠.cell v
 As:CS X.prog X.w H s.heap
 len:σ.length=X.N.length
variable{pins:List (Addr×Obj)}{E:Value->Shared->Prop}{s s':Shared}{A:Around}{X:Cx}{u:Value}{x:Str}{ch:List Addr}{v:V}{g':Array GenState}{M:Model}{t':Nat}{N:List Str}{d':Drawn}{it:Addr}
section
variable {σ:List (Option V)} 
theorem Cx.Ok.cw(ok:X.Ok){o:Obj}(e:X.base.get? b=some o):b∉X.fs:=fun a=>by
 have:=(ok.EC.mem a).1;rw[e]at this;cases this
theorem Inv.bs(I:Inv X pins σ H s):∀b o,X.base.get? b=some o->s.heap.get? b=some o/\H b=none:=fun b o e=>
 ⟨I.base.keep b o (I.ok.bs b o e).1 (I.ok.bs b o e).2 (I.ok.cw e) (I.ok.OH b o e),I.base.free b o (I.ok.bs b o e).1 (I.ok.bs b o e).2 (I.ok.OH b o e)⟩
theorem Inv.bk(I:Inv X pins σ H s):∀b o,X.base.get? b=some o->s.heap.get? b=some o:=fun b o e=>(I.bs b o e).1
theorem Inv.mod(I:Inv X pins σ H s):Mod X.K X.mg X.base:=I.ok.mod
theorem Inv.Ck(I:Inv X pins σ H s):X.K.In s.heap:=I.ok.mod.Wt.keeps I.bk
theorem Inv.lt(I:Inv X pins σ H s):X.env.locals<s.heap.objs.size:=let⟨_,a,_⟩:=I.loc;a.lt
theorem Inv.sz(I:Inv X pins σ H s):X.s₀.heap.objs.size<=s.heap.objs.size:=Nat.le_trans I.ok.above (Nat.le_of_lt I.lt)
theorem Inv.cx(I:Inv X pins σ H s)(h:s.heap.objs.size<=a):a∉X.fs:=fun b=>by
 obtain⟨_,o,c,_⟩:=I.ok.EC.mem b;exact absurd (Nat.lt_of_lt_of_le (Heap.lt_size c) (Nat.le_trans I.sz h)) (Nat.lt_irrefl _)
theorem Inv.Tb(I:Inv X pins σ H s):∀x c,X.env.cells.lookup x=some c->c≠X.env.locals:=fun x c e z=>by
 obtain⟨v,o,d,f⟩:=I.cell x c e;obtain⟨m,⟨g,h,i,a,b,_⟩,_⟩:=I.loc;rw[z,a]at d;cases d;rw[b]at f;cases f
theorem Inv.EC(I:Inv X pins σ H s):s.heap.FunFrames X.base X.outer:=by
 have all:∀(l:List Env),(∀b∈JT l,b∈X.fs)->X.s₀.heap.FunFrames X.base l->s.heap.FunFrames X.base l:=by
  intro l
  induction l with
  |nil=>intro _ _;trivial
  |cons env r g=>
   intro f h;obtain⟨i,⟨L,o,a,j,k,m⟩,n⟩:=h;have c:L∈X.fs:=f L (by unfold JT;rw[List.filterMap_cons,a];exact List.mem_cons_self);obtain⟨p,e⟩:=I.base.slot L o k (I.ok.WE L c) c fun z=>I.ok.OI L z c;exact⟨i,⟨L,_,a,j,e,m⟩,g (fun b d=>f b (by unfold JT;rw[List.filterMap_cons,a];exact List.mem_cons_of_mem _ d)) n⟩
 exact all X.outer (fun _ d=>d) I.ok.EC
theorem Inv.stack(I:Inv X pins σ H s):s.heap.FunFrames X.base X.stack:=by
 rcases I.ok.Zs with e|⟨e,a⟩
 ·rw[e];exact I.EC
 ·rw[e];obtain⟨m,b,_⟩:=I.loc;refine .cons (by rw[I.ok.kind];decide) a b ?_ I.EC;exact Heap.get?_none_of_le (Nat.le_trans I.ok.TV I.ok.above)
theorem Inv.FO(I:Inv X pins σ H s):∀b∈JT X.stack,b∈X.env.locals::X.fs:=fun b a=>by
 rcases I.ok.Zs with e|⟨e,c⟩
 ·rw[e]at a;exact List.mem_cons_of_mem _ a
 ·rw[e]at a;unfold JT at a;rw[List.filterMap_cons,c]at a;exact a
theorem Inv.Dh(I:Inv X pins σ H s):∀b∈JT X.stack,H b=none:=fun b a=>by
 rcases List.mem_cons.mp (I.FO b a)with e|a
 ·rw[e];exact I.free
 ·obtain⟨_,o,c,_⟩:=I.ok.EC.mem a;exact I.base.free b o c (I.ok.WE b a) fun z=>I.ok.OI b z a
theorem Inv.step(I:Inv X pins σ H s)(f:∀b∈ch,(b∈X.ex∨X.s₀.heap.objs.size<=b)/\b≠X.env.locals/\(∀x c,X.env.cells.lookup x=some c->c≠b)/\∀p∈X.pn++pins,p.1≠b)(keep:∀b o,b≠X.env.locals->b∉X.fs->b∉ch->s.heap.get? b=some o->H b=none->h'.get? b=some o)(slot:∀b o,b≠X.env.locals->b∈X.fs->b∉ch->s.heap.get? b=some o->H b=none->∃D,h'.get? b=some {o with slots:=D})(free:∀b o,b∉ch->s.heap.get? b=some o->H b=none->H' b=none)(there:∀b o,b∉ch->s.heap.get? b=some o->∃A,h'.get? b=some A)(Dg:∀b j,H b=some (.tup j)->H' b=some (.tup j))(DV:∀b o u,H b=some (.CU o u)->H' b=some (.CU o u))(EB:∀b C,H b=some (.WD C)->∃more,H' b=some (.WD (C++more)))(L:∀m,s.heap.Ns X.env.locals m->h'.Ns X.env.locals m)(E:CS X.prog X.w H' h')(M:AllBare g'):
  Inv X pins σ H' {s with heap:=h',gens:=g',drawn:=d',toks:=t'}:=by
 have B:∀b o,X.s₀.heap.get? b=some o->b≠X.env.locals:=fun b o e=>Nat.ne_of_lt (Nat.lt_of_lt_of_le (Heap.lt_size e) I.ok.above);have h:∀b o,X.s₀.heap.get? b=some o->b∉X.ex->b∉ch:=fun b o e a t=>by
  rcases(f b t).1 with z|z
  ·exact a z
  ·exact absurd (Nat.lt_of_lt_of_le (Heap.lt_size e) z) (Nat.lt_irrefl _)
 have cellK:∀x c,X.env.cells.lookup x=some c->∀v,s.heap.IsCell c v->h'.IsCell c v:=fun x c e v ⟨o,y,F⟩=>by
  have g:c∉ch:=fun z=>(f c z).2.2.1 x c e rfl;by_cases J:c∈X.fs
  ·obtain⟨D,q⟩:=slot c o (I.Tb x c e) J g y (I.Bj x c e);exact⟨_,q,F⟩
  ·exact⟨o,keep c o (I.Tb x c e) J g y (I.Bj x c e),F⟩
 refine⟨I.ok,I.os,M,⟨fun b o e n t a=>?_,fun b o e n t a=>?_,fun b o e n a=>?_,fun b o e a=>?_,fun b j e=>Dg b j (I.base.Dg b j e),fun b o j e=>DV b o j (I.base.DV b o j e),fun b C e=>?_⟩,?_,fun x c e=>?_,?_,fun x c e=>?_,fun p K=>?_,E,I.len⟩
 ·exact keep b o (B b o e) t (h b o e a) (I.base.keep b o e n t a) (I.base.free b o e n a)
 ·obtain⟨D,e1⟩:=I.base.slot b o e n t a;obtain⟨G,e2⟩:=slot b _ (B b o e) t (h b o e a) e1 (I.base.free b o e n a);exact⟨G,e2⟩
 ·obtain⟨A,e1⟩:=I.base.there b o e a;exact free b A (h b o e a) e1 (I.base.free b o e n a)
 ·obtain⟨A,e1⟩:=I.base.there b o e a;exact there b A (h b o e a) e1
 ·obtain⟨N,e1⟩:=I.base.EB b C e;obtain⟨O,e2⟩:=EB b _ e1;exact⟨N++O,by rw[e2,Array.append_assoc]⟩
 ·obtain⟨m,P,Q⟩:=I.loc;refine⟨m,L m P,fun i x v e1 e2 e3=>?_⟩;obtain⟨u,r,l⟩:=Q i x v e1 e2 e3;refine⟨u,r,?_⟩;rcases l with l|⟨k,c,e,z⟩
  ·exact .inl l
  ·exact .inr ⟨k,c,e,cellK x c e _ z⟩
 ·obtain⟨v,z⟩:=I.cell x c e;exact⟨v,cellK x c e v z⟩
 ·obtain⟨m,⟨o,_,_,y,_⟩,_⟩:=I.loc;exact free _ o (fun z=>(f _ z).2.1 rfl) y I.free
 ·obtain⟨v,o,y,F⟩:=I.cell x c e;exact free c o (fun z=>(f c z).2.2.1 x c e rfl) y (I.Bj x c e)
 ·obtain⟨e,n,ne,nf,d⟩:=I.pin p K;have g:p.1∉ch:=fun z=>(f p.1 z).2.2.2 p K rfl;exact⟨keep p.1 p.2 ne nf g e n,free p.1 p.2 g e n,ne,nf,d⟩
theorem Inv.un(I:Inv X pins σ H s)(u:Un X.fs [] H H' s.heap h')(c:CS X.prog X.w H' h'):Inv X pins σ H' {s with heap:=h',toks:=t'}:=by
 obtain⟨m,⟨o,l,p,h,r⟩,_⟩:=id I.loc;obtain⟨q,i⟩:=u.any h I.free (by simp);exact I.step (g':=s.gens) (d':=s.drawn) (ch:=[]) (fun _ z=>nomatch z) (fun b o _ d _ e n=>u.keep b o e n d (by simp)) (fun b o _ d _ e n=>u.slot b o e n d (by simp)) (fun b o _ e n=>u.free b o e n (by simp)) (fun b o _ e=>u.there b o e (by simp)) u.Dg u.DV u.EB (fun t j=>by
  obtain⟨v,f,g,a,k⟩:=j;rw[h]at a;cases a;exact⟨_,f,g,i,k⟩) c I.bare
theorem Inv.call(I:Inv X pins σ H s)(u:Un (JT X.stack) ch H H' s.heap h')(g:CS X.prog X.w H' h')(l:AllBare g')(d:∀b∈ch,(b∈X.ex∨X.s₀.heap.objs.size<=b)/\b≠X.env.locals/\(∀x c,X.env.cells.lookup x=some c->c≠b)/\∀p∈X.pn++pins,p.1≠b):
  Inv X pins σ H' {s with heap:=h',gens:=g',drawn:=d',toks:=t'}:=by
 obtain⟨m,⟨o,y,A,k,r⟩,_⟩:=id I.loc;obtain⟨B,h⟩:=u.any k I.free fun z=>(d _ z).2.1 rfl;exact I.step (ch:=ch) d (fun b o h q a e n=>u.keep b o e n (fun z=>(List.mem_cons.mp (I.FO b z)).elim h q) a) (fun b o _ _ a e n=>u.any e n a) (fun b o a e n=>u.free b o e n a) (fun b o a e=>u.there b o e a) u.Dg u.DV u.EB (fun C t=>by
  obtain⟨D,i,j,f,v⟩:=t;rw[k]at f;cases f;exact⟨_,i,j,h,v⟩) g l
theorem Inv.turned(I:Inv X pins σ H s)(k:∀b o,b≠it->s.heap.get? b=some o->h'.get? b=some o)(g:H it=none)(f:it≠X.env.locals)(h:it∈X.ex∨X.s₀.heap.objs.size<=it)(i:∀x c,X.env.cells.lookup x=some c->c≠it)(j:∀p∈X.pn++pins,p.1≠it):Inv X pins σ H {s with heap:=h',toks:=t'}:=by
 have d:∀b u,H b=some u->b≠it:=fun b u e z=>by rw[z,g]at e;cases e
 refine I.step (g':=s.gens) (d':=s.drawn) (ch:=[it]) (fun b l=>?_) (fun b o _ _ a e _=>k b o (fun z=>a (by simp[z])) e) (fun b o _ _ a e _=>⟨o.slots,k b o (fun z=>a (by simp[z])) e⟩) (fun _ _ _ _ n=>n) (fun b o a e=>⟨o,k b o (fun z=>a (by simp[z])) e⟩) (fun _ _ e=>e) (fun _ _ _ e=>e) (fun b B e=>⟨#[],by rw[e];simp⟩) (fun m t=>?_) (fun b u e=>?_) I.bare
 ·have e:b=it:=by simpa using l
  subst e;exact⟨h,f,i,j⟩
 ·obtain⟨o,w,y,A,r⟩:=t;exact⟨o,w,y,k _ o (Ne.symm f) A,r⟩
 ·refine(I.As b u e).Gh (fun c v a q=>k c v ?_ q) (fun _ q=>q) fun _ _ q=>q;rcases a with z|z
  ·rw[z];exact d b u e
  ·exact d c _ z
theorem Inv.tok(I:Inv X pins σ H s)(t:Nat):Inv X pins σ H {s with toks:=t}:=I.un (h':=s.heap) (t':=t) Un.refl I.As
theorem Inv.kept{t':Nat}(I:Inv X pins σ H s)(k:∀b u,s.heap.get? b=some u->h'.get? b=some u):Inv X pins σ H {s with heap:=h',toks:=t'}:=I.un (Un.kept k) (I.As.kept k)
theorem Inv.laid{a:Addr}{o:HO}{t':Nat}(I:Inv X pins σ H s)(k:∀b u,s.heap.get? b=some u->h'.get? b=some u)(c:s.heap.objs.size<=a)(new:Al X.prog X.w (upd H a o) h' a o):
  Inv X pins σ (upd H a o) {s with heap:=h',toks:=t'}:=I.un (Un.laid k c (I.As.fresh c)) (I.As.laid k c new)
theorem Inv.write{x e:Addr}{o:HO}{t':Nat}(I:Inv X pins σ H s)(c:Zq (H x))(d:e=x∨H e=some (.own x))(k:∀b u,b≠e->s.heap.get? b=some u->h'.get? b=some u)(a:∃u,h'.get? e=some u)(new:Al X.prog X.w (upd H x o) h' x o):Inv X pins σ (upd H x o) {s with heap:=h',toks:=t'}:=I.un (Un.write c d k a) (I.As.write c d k a new)
theorem Inv.Ml{a:List (Addr×Obj)}(I:Inv X pins σ H s)(h:∀p∈a,s.heap.get? p.1=some p.2/\H p.1=none/\p.1≠X.env.locals/\p.1∉X.fs/\∀v,p.2.data≠.cell v):Inv X a σ H s:=
 ⟨I.ok,I.os,I.bare,I.base,I.loc,I.cell,I.free,I.Bj,fun p b=>(List.mem_append.mp b).elim (fun z=>I.pin p (List.mem_append_left _ z)) (h p),I.As,I.len⟩
theorem JW(c:N.Nodup){j:Nat}(a:N[i]?=some x)(b:N[j]?=some x):i=j:=by
 obtain⟨d,e1⟩:=mq a;obtain⟨e,e2⟩:=mq b;exact(List.getElem_inj c).mp (e1.trans e2.symm)
theorem Gv{Q:Unit->Shared->Prop}(I:Inv X pins σ H s)(hN:X.N.Nodup)(J:X.N[i]?=some x)(l:Loc X.env.scope x)(r:RelV v u)(h:∀s',Inv X pins (σ.set i (some v)) H s'->(∃a,Heap.SameBut a s.heap s'.heap/\(a=X.env.locals∨X.env.cells.lookup x=some a))->Q () s')(hf:X.fn x=true∨X.env.scope.names.lookup x=some .local:=by first|exact .inl rfl|exact .inr rfl|assumption):wpAny M A (storeName X.env x u) Q E s:=by
 obtain⟨m,U,hl⟩:=id I.loc;have K:(X.env.scope.kind==.class||(X.env.scope.kind==.module&&X.env.locals !=X.env.globals))=false:=by rw[I.ok.kind];rfl
 have B:i<σ.length:=by rw[I.len];exact(mq J).1
 have Tb:=I.Tb;have tracked:∀{a:Addr}{h':Heap},(∃o,s.heap.get? a=some o/\H a=none)->Heap.SameBut a s.heap h'->CS X.prog X.w H h':=fun{a h'} ha f b ob e=>by
  obtain⟨_,_,t⟩:=ha;refine(I.As b ob e).Gh (fun c S g q=>(f.2 c ?_).trans q) (fun _ q=>q) fun _ _ q=>q;rintro rfl;rcases g with rfl|g
  ·rw[t]at e;cases e
  ·rw[t]at g;cases g
 rcases l with C|C
 ·refine wpAny_storeName_local C U (fun h' Y f=>?_) K;obtain⟨oL,_,_,Z,_⟩:=id U;refine h _ ⟨I.ok,I.os,I.bare,⟨fun b o e n D l=>?_,fun b o e n D l=>?_,I.base.free,fun b o e l=>?_,I.base.Dg,I.base.DV,I.base.EB⟩,⟨_,Y,fun j y W e1 e2 e3=>?_⟩,fun y c e=>?_,I.free,I.Bj,fun p hp=>?_,tracked ⟨oL,Z,I.free⟩ f,by simpa using I.len⟩ ⟨_,f,.inl rfl⟩
  ·exact(f.2 b (Nat.ne_of_lt (Nat.lt_of_lt_of_le (Heap.lt_size e) I.ok.above))).trans (I.base.keep b o e n D l)
  ·obtain⟨sl,e1⟩:=I.base.slot b o e n D l;exact⟨sl,(f.2 b (Nat.ne_of_lt (Nat.lt_of_lt_of_le (Heap.lt_size e) I.ok.above))).trans e1⟩
  ·obtain⟨o',e1⟩:=I.base.there b o e l;exact⟨o',(f.2 b (Nat.ne_of_lt (Nat.lt_of_lt_of_le (Heap.lt_size e) I.ok.above))).trans e1⟩
  ·by_cases F:j=i
   ·subst F;rw[J]at e1;cases e1;rw[List.getElem?_set_self B]at e2;cases e2;exact⟨u,r,.inl ⟨C,by simp⟩⟩
   ·rw[List.getElem?_set_ne (Ne.symm F)]at e2;obtain⟨u',r',q⟩:=hl j y W e1 e2 e3;refine⟨u',r',?_⟩;rcases q with⟨k,e⟩|⟨k,c,e,z⟩
    ·refine .inl ⟨k,?_⟩;have:y≠x:=fun e=>F (JW hN e1 (e▸J));simp[this,e]
    ·exact .inr ⟨k,c,e,z.sameBut f (Tb y c e)⟩
  ·obtain⟨S,z⟩:=I.cell y c e;exact⟨S,z.sameBut f (Tb y c e)⟩
  ·obtain⟨e,n,ne,nf,d⟩:=I.pin p hp;exact⟨(f.2 p.1 ne).trans e,n,ne,nf,d⟩
 ·have G:X.fn x=true:=by
   rcases hf with z|z
   ·exact z
   ·rw[z]at C;cases C
  obtain⟨c,g⟩:=I.ok.has x (.inl C);obtain⟨S,z⟩:=I.cell x c g;refine wpAny_storeName_cell I.ok.kind C g z (fun h' L f=>?_);obtain⟨oc,O,P⟩:=id z;refine h {s with heap:=h'} ⟨I.ok,I.os,I.bare,⟨fun b o e n D l=>?_,fun b o e n D l=>?_,I.base.free,fun b o e l=>?_,I.base.Dg,I.base.DV,I.base.EB⟩,⟨m,U.sameBut f (Ne.symm (Tb x c g)),fun j y W e1 e2 e3=>?_⟩,fun y T e=>?_,I.free,I.Bj,fun p hp=>?_,tracked ⟨oc,O,I.Bj x c g⟩ f,by simpa using I.len⟩ ⟨c,f,.inr g⟩
  ·exact(f.2 b (Nat.ne_of_lt (Nat.lt_of_lt_of_le (Heap.lt_size e) (I.ok.Zg x c G g)))).trans (I.base.keep b o e n D l)
  ·obtain⟨sl,e1⟩:=I.base.slot b o e n D l;exact⟨sl,(f.2 b (Nat.ne_of_lt (Nat.lt_of_lt_of_le (Heap.lt_size e) (I.ok.Zg x c G g)))).trans e1⟩
  ·obtain⟨o',e1⟩:=I.base.there b o e l;exact⟨o',(f.2 b (Nat.ne_of_lt (Nat.lt_of_lt_of_le (Heap.lt_size e) (I.ok.Zg x c G g)))).trans e1⟩
  ·by_cases F:j=i
   ·subst F;rw[J]at e1;cases e1;rw[List.getElem?_set_self B]at e2;cases e2;exact⟨u,r,.inr ⟨.inl C,c,g,L⟩⟩
   ·rw[List.getElem?_set_ne (Ne.symm F)]at e2;obtain⟨u',r',q⟩:=hl j y W e1 e2 e3;refine⟨u',r',?_⟩;rcases q with q|⟨k,T,e,z'⟩
    ·exact .inl q
    ·refine .inr ⟨k,T,e,z'.sameBut f ?_⟩;rintro rfl;exact F (JW hN e1 (I.ok.inj _ _ _ e g▸J))
  ·by_cases R:T=c
   ·subst R;exact⟨_,L⟩
   ·obtain⟨w2,z2⟩:=I.cell y T e;exact⟨w2,z2.sameBut f R⟩
  ·obtain⟨e,n,ne,nf,d⟩:=I.pin p hp;refine⟨(f.2 p.1 ?_).trans e,n,ne,nf,d⟩;intro q;rw[q,O]at e;have q':oc=p.2:=mr e;exact d S (by rw[<-q'];exact P)
theorem FP{Q:Unit->Shared->Prop}(I:Inv X pins σ H s)(a:X.N.Nodup)(b:X.N[i]?=some x)(c:Loc X.env.scope x)(r:RelV v u)(h:∀s',Inv X pins (σ.set i (some v)) H s'->Q () s')(d:X.fn x=true∨X.env.scope.names.lookup x=some .local:=by first|exact .inl rfl|exact .inr rfl|assumption):wpAny M A (storeName X.env x u) Q E s:=
 Gv I a b c r (fun s' e _=>h s' e) d
theorem Inv.JX(I:Inv X pins σ H s)(f:s'.os=s.os)(u:Un (JT X.stack) ch H H' s.heap s'.heap)(a:CS X.prog X.w H' s'.heap)(g:AllBare s'.gens)(d:∀b∈ch,(b∈X.ex∨X.s₀.heap.objs.size<=b)/\b≠X.env.locals/\(∀x c,X.env.cells.lookup x=some c->c≠b)/\∀p∈X.pn++pins,p.1≠b):Inv X pins σ H' s':=by
 obtain⟨h',g',d',t',h⟩:=s';have e:h=s.os:=f;subst e;exact I.call (g':=g') (t':=t') (d':=d') u a g d
end
abbrev XK:=Value->Option Addr->Hp->Prop
abbrev St:=List (Option V)
abbrev VK:=V->Hp->Prop
abbrev TE:=St->Hp->VK->Prop
abbrev TT:=St->Hp->(Bool->Hp->Prop)->Prop
abbrev TA:=St->Hp->(List V->Hp->Prop)->Prop
structure Ends where
 nx:St->Hp->Prop
 rt:VK
 bk:St->Hp->Prop:=fun _ _=>False
 ct:St->Hp->Prop:=fun _ _=>False
abbrev TS:=Ends->St->Hp->Prop
inductive fR(x:V)(H:Hp)(Q:Bool->Hp->Prop):Prop
 |mk(c:Bool)(e:x=.bl c)(q:Q c H)
inductive cy(a:TE)(b:St)(x:V)(H:Hp)(Q:VK):Prop
 |mk(c:Bool)(e:x=.bl c)(q:if c=true then a b H Q else Q (.bl false) H)
inductive iC(a:TE)(b:St)(x:V)(H:Hp)(Q:VK):Prop
 |mk(c:Bool)(e:x=.bl c)(q:if c=true then Q (.bl true) H else a b H Q)
inductive cz(x:V)(H:Hp)(Q:VK):Prop
 |mk(c:Bool)(e:x=.bl c)(q:Q (.bl (!c)) H)
inductive iD(x:V)(H:Hp)(Q:Option Int->Hp->Prop):Prop
 |mk(i:Int)(e:x=.int i)(q:Q (some i) H)
inductive EP(X:Cx)(pins:List (Addr×Obj))(b:St)(Q:VK)(u:Value)(s':Shared):Prop
 |mk(v:V)(a:Hp)(I:Inv X pins b a s')(r:RelV v u)(q:Q v a)
inductive TP(X:Cx)(pins:List (Addr×Obj))(c:St)(Q:Bool->Hp->Prop)(b:Bool)(s':Shared):Prop
 |mk(a:Hp)(I:Inv X pins c a s')(q:Q b a)
inductive AP(X:Cx)(pins:List (Addr×Obj))(b:St)(Q:List V->Hp->Prop)(us:List Value)(s':Shared):Prop
 |mk(vs:List V)(a:Hp)(I:Inv X pins b a s')(r:Vals vs us)(q:Q vs a)
variable{G:Prop}
theorem EP.elim{b:St}{Q:VK}(h:EP X pins b Q u s')(k:∀(v:V) (a:Hp),Inv X pins b a s'->RelV v u->Q v a->G):G:=by
 cases h with
 |mk v a I r q=>exact k v a I r q
theorem AP.elim{b:St}{Q:List V->Hp->Prop}(h:AP X pins b Q us s')(k:∀(vs:List V) (a:Hp),Inv X pins b a s'->Vals vs us->Q vs a->G):G:=by
 cases h with
 |mk v a I r q=>exact k v a I r q
theorem TP.elim{c:St}{Q:Bool->Hp->Prop}{b:Bool}(h:TP X pins c Q b s')(k:∀a:Hp,Inv X pins c a s'->Q b a->G):G:=by
 cases h with
 |mk a I q=>exact k a I q
inductive c_(X:Cx)(pins:List (Addr×Obj))(N:St->Hp->Prop)(s':Shared):Prop
 |mk(a:St)(b:Hp)(I:Inv X pins a b s')(q:N a b)
inductive iE(X:Cx)(pins:List (Addr×Obj))(Q:VK)(u:Value)(s':Shared):Prop
 |mk(v:V)(b:St)(a:Hp)(I:Inv X pins b a s')(r:RelV v u)(q:Q v a)
def SP(X:Cx)(pins:List (Addr×Obj))(D:Ends)(f:Flow)(s':Shared):Prop:=
 match f with
 | .next=>c_ X pins D.nx s'
 | .brk=>c_ X pins D.bk s'
 | .cont=>c_ X pins D.ct s'
 | .ret u=>iE X pins D.rt u s'
def PE(X:Cx)(e:Expr)(t:TE):Prop:=
 ∀(pins:List (Addr×Obj))(s:Shared)(a:St)(H:Hp)(Q:VK),Inv X pins a H s->t a H Q->wpAny (model X.prog X.w) X.A (eval e X.env) (EP X pins a Q) X.xe s
def PT(X:Cx)(e:Expr)(t:TT):Prop:=
 ∀(pins:List (Addr×Obj))(s:Shared)(a:St)(H:Hp)(Q:Bool->Hp->Prop),Inv X pins a H s->t a H Q->wpAny (model X.prog X.w) X.A (isTrue e X.env (eval e X.env)) (TP X pins a Q) X.xe s
def PW(X:Cx)(e:Expr)(t:TT):Prop:=
 ∀(whole:Sem Value)(pins:List (Addr×Obj))(s:Shared)(a:St)(H:Hp)(Q:Bool->Hp->Prop),Inv X pins a H s->t a H Q->wpAny (model X.prog X.w) X.A (isTrue e X.env whole) (TP X pins a Q) X.xe s
variable{e:Expr}
theorem PW.pt{t:TT}(h:PW X e t):PT X e t:=h _
def PA(X:Cx)(b:List Expr)(t:TA):Prop:=
 ∀(pos:Pos)(pins:List (Addr×Obj))(s:Shared)(a:St)(H:Hp)(Q:List V->Hp->Prop),Inv X pins a H s->t a H Q->wpAny (model X.prog X.w) X.A (spliced (backTo pos (starEach b X.env))) (AP X pins a Q) X.xe s
def PS(X:Cx)(st:Stmt)(t:TS):Prop:=
 ∀(pins:List (Addr×Obj))(s:Shared)(a:St)(H:Hp)(D:Ends),Inv X pins a H s->t D a H->wpAny (model X.prog X.w) X.A (exec st X.env) (SP X pins D) X.xe s
def Hk(X:Cx)(st:List Stmt)(t:TS):Prop:=
 ∀(pins:List (Addr×Obj))(s:Shared)(a:St)(H:Hp)(D:Ends),Inv X pins a H s->t D a H->wpAny (model X.prog X.w) X.A (execs st X.env) (SP X pins D) X.xe s
theorem Ap{b:Type}{t:Sem b}{Q c:b->Shared->Prop}(h:wpAny M A t Q E s)(d:∀a s,Q a s->c a s):wpAny M A t c E s:=wpAny_mono h d fun _ _ x=>x
variable{Q:Value->Shared->Prop}{op:CmpOp}{ta t tb:TE}
section
inductive Zu(i:Nat)(a:St)(H:Hp)(Q:VK):Prop
 |mk(v:_)(b:a[i]?=some (some v))(c:Q v H)
def Wu(i:Nat):TE:=fun a H Q=>Zu i a H Q
def tC(v:V):TE:=fun _ H Q=>Q v H
theorem Wv{pos:Pos}(j:X.N[i]?=some x)(k:Zr X.env.scope x)(d:(x==("__debug__":Str))=false:=by decide)(f:(x==("__classdict__":Str))=false:=by decide):PE X (.Name x pos) (Wu i):=by
 intro pins s n H Q I h;obtain⟨v,e,h⟩:=h;obtain⟨m,o,p⟩:=I.loc;obtain⟨u,r,l⟩:=p i x v j e k;have fin:EP X pins n Q u s:=⟨v,H,I,r,h⟩;rcases l with⟨b,q⟩|⟨b,c,g,a⟩
 ·exact wpAny_Name (wpAny_loadName_local I.ok.kind b o q fin) d
 ·rcases b with b|b
  ·exact wpAny_Name (wpAny_loadName_cell I.ok.kind b g a fin) d
  ·exact wpAny_Name (wpAny_loadName_free I.ok.kind b g a fin f) d
theorem AD{c j pos}:PE X (.Constant (.int c) j pos) (tC (.int c)):=fun _ _ _ H _ I h=>wpAny_Constant_int ⟨.int c,H,I.tok _,⟨_,rfl⟩,h⟩
theorem Bb{c j pos}:PE X (.Constant (.bool c) j pos) (tC (.bl c)):=fun _ _ _ H _ I h=>Constant_bool ⟨.bl c,H,I,rfl,h⟩
theorem CC{j pos}:PE X (.Constant .none j pos) (tC .Aj):=fun _ _ _ H _ I h=>Constant_none ⟨.Aj,H,I,rfl,h⟩
theorem AH{x j pos}:PE X (.Constant (.str x) j pos) (tC (.str x)):=fun _ _ _ H _ I h=>Calls.Constant_str ⟨.str x,H,I.tok _,⟨_,rfl⟩,h⟩
def Gl(X:Cx)(x:Str):Prop:=X.env.kindOf x=some .globalImplicit
theorem DH{a:St}{pos:Pos}(I:Inv X pins a H s)(b:Gl X x)(c:X.mg x=some u)(h:Q u s)(d:(x==("__debug__":Str))=false:=by decide):wpAny (model X.prog X.w) X.A (eval (.Name x pos) X.env) Q E s:=
 Calls.Name_function_global I.ok.kind b (Calls.loadGlobal_global (by rw[I.ok.glob];exact I.mod.glob.keeps I.bk) c h) d
theorem FQ{a:St}{pos:Pos}(I:Inv X pins a H s)(b:Gl X x)(c:X.mg x=none)(d:bootBuiltins x=some u)(h:Q u s)(e:x≠"__name__":=by decide)(f:(x==("__debug__":Str))=false:=by decide):wpAny (model X.prog X.w) X.A (eval (.Name x pos) X.env) Q E s:=by
 obtain⟨j,g,i⟩:=I.mod.blt;exact Calls.Name_function_global I.ok.kind b (Calls.loadGlobal_builtin (by rw[I.ok.glob];exact I.mod.glob.keeps I.bk) c (by rw[I.ok.blt];exact g.keeps I.bk) ((i x e).trans d) h) f
theorem Ay{pos:Pos}(a:Gl X x)(b:X.mg x=some u)(r:RelV v u)(c:(x==("__debug__":Str))=false:=by decide):PE X (.Name x pos) (tC v):=
 fun _ _ _ H _ I h=>DH I a b ⟨v,H,I,r,h⟩ c
theorem Tc{pos:Pos}(a:Gl X x)(b:X.mg x=none)(c:bootBuiltins x=some u)(r:RelV v u)(d:x≠"__name__":=by decide)(e:(x==("__debug__":Str))=false:=by decide):PE X (.Name x pos) (tC v):=
 fun _ _ _ H _ I h=>FQ I a b c ⟨v,H,I,r,h⟩ d e
variable{a b:Expr} {pos:Pos}
def PC(X:Cx)(op:CmpOp)(a b:Expr)(t:TE):Prop:=
 ∀(pins:List (Addr×Obj))(s:Shared)(e:St)(H:Hp)(Q:VK),Inv X pins e H s->t e H Q->
  wpAny (model X.prog X.w) X.A (eval a X.env) (fun v c=>wpAny (model X.prog X.w) X.A (eval b X.env) (fun u d=>wpAny (model X.prog X.w) X.A (compareOp op v u) (EP X pins e Q) X.xe d) X.xe c) X.xe s
def tB(t:TE):TT:=fun c H Q=>t c H fun x d=>fR x d Q
theorem Ww(h:PC X op a b t)(d:behindInMarks op b=false:=by first|exact c _ (by decide) (by decide)|rfl):PE X (.Compare a [op] [b] pos) t:=fun pins s e H Q I hw=>wpAny_Compare1 (h pins s e H Q I hw) d
theorem Wx(h:PC X op a b t)(f:behindInMarks op b=false:=by first|exact e _ (by decide) (by decide)|rfl):PT X (.Compare a [op] [b] pos) (tB t):=by
 intro pins s g H Q I hw;refine wpAny_isTrue_Compare1 (Ap (h pins s g H _ I hw) fun v o f=>Ap f fun u p i=>Ap i fun c r j=>j.elim fun x k l m n=>?_) f;obtain⟨d,rfl,q⟩:=n;cases m;exact wpAny_truthy_bool ⟨k,l,q⟩
theorem BG(h:PE X e t)(c:∀whole,isTrue e X.env whole=(do let v<-whole;standAt e.pos;holding [v] (truthy v)):=by intro _;rfl):PT X e (tB t):=by
 intro pins s f H Q I hw;refine isTrue_plain (Ap (h pins s f H _ I hw) fun v m g=>g.elim fun x i j k l=>?_) (c _);obtain⟨d,rfl,q⟩:=l;cases k;exact wpAny_truthy_bool ⟨i,j,q⟩
variable{tA cQ:TT} {rest:List Expr}
def dA(t u:TT):TT:=fun d H Q=>t d H fun c e=>if c=true then u d e Q else Q false e
def iF(t u:TT):TT:=fun d H Q=>t d H fun c e=>if c=true then Q true e else u d e Q
def dB(t:TT):TT:=fun d H Q=>t d H fun c e=>Q (!c) e
theorem pw_and1(d:PT X a tA):PW X (.BoolOp .And [a] pos) tA:=by
 intro g pins s f H Q I h;refine isTrue_and (Ap (d pins s f H Q I h) fun c i e=>?_);cases c with
 |true=>exact isTrue_and_nil e
 |false=>exact e
theorem pw_or1(d:PT X a tA):PW X (.BoolOp .Or [a] pos) tA:=by
 intro g pins s f H Q I h;refine isTrue_or (Ap (d pins s f H Q I h) fun c i e=>?_);cases c with
 |false=>exact isTrue_or_nil e
 |true=>exact e
theorem pw_and(i:PT X a tA)(j:PW X (.BoolOp .And (b::rest) pos) cQ):PW X (.BoolOp .And (a::b::rest) pos) (dA tA cQ):=by
 intro k pins s d H Q I h;refine isTrue_and (Ap (i pins s d H _ I h) fun c l m=>m.elim fun e f g=>?_);cases c with
 |true=>exact j k pins l d e Q f g
 |false=>exact⟨e,f,g⟩
theorem pw_or(i:PT X a tA)(j:PW X (.BoolOp .Or (b::rest) pos) cQ):PW X (.BoolOp .Or (a::b::rest) pos) (iF tA cQ):=by
 intro k pins s d H Q I h;refine isTrue_or (Ap (i pins s d H _ I h) fun c l m=>m.elim fun e f g=>?_);cases c with
 |true=>exact⟨e,f,g⟩
 |false=>exact j k pins l d e Q f g
theorem CD(e:PT X a tA):PT X (.UnaryOp .Not a pos) (dB tA):=by
 intro pins s f H Q I h;exact isTrue_not (Ap (e pins s f H (fun c d=>Q (!c) d) I h) fun c k g=>g.elim fun d i j=>⟨d,i,j⟩)
def Zv(ta tb:TE):TE:=fun c H Q=>ta c H fun x d=>cy tb c x d Q
def dC(ta tb:TE):TE:=fun c H Q=>ta c H fun x d=>iC tb c x d Q
def Zw(ta:TE):TE:=fun c H Q=>ta c H fun x d=>cz x d Q
theorem Bd{d}(h:PE X a t):PE X (.BoolOp d [a] pos) t:=fun pins s c H Q I hw=>BoolOp_one (h pins s c H Q I hw)
theorem Bp(i:PE X a ta)(j:PE X (.BoolOp .And (b::rest) pos) tb):PE X (.BoolOp .And (a::b::rest) pos) (Zv ta tb):=by
 intro pins s e H Q I h;refine BoolOp_and (Ap (i pins s e H _ I h) fun v k l=>l.elim fun x f g m d=>?_);obtain⟨c,rfl,d⟩:=d;cases m;refine wpAny_truthy_bool ?_;cases c with
 |true=>exact j pins k e f Q g d
 |false=>exact⟨.bl false,f,g,rfl,d⟩
theorem Mm(i:PE X a ta)(j:PE X (.BoolOp .Or (b::rest) pos) tb):PE X (.BoolOp .Or (a::b::rest) pos) (dC ta tb):=by
 intro pins s e H Q I h;refine BoolOp_or (Ap (i pins s e H _ I h) fun v k l=>l.elim fun x f g m d=>?_);obtain⟨c,rfl,d⟩:=d;cases m;refine wpAny_truthy_bool ?_;cases c with
 |false=>exact j pins k e f Q g d
 |true=>exact⟨.bl true,f,g,rfl,d⟩
theorem Ku(e:PE X a ta):PE X (.UnaryOp .Not a pos) (Zw ta):=by
 intro pins s f H Q I h;refine UnaryOp_ (Ap (e pins s f H _ I h) fun v l g=>g.elim fun x i j k d=>?_);obtain⟨c,rfl,d⟩:=d;cases k;exact not_of (wpAny_truthy_bool ⟨.bl (!c),i,j,rfl,d⟩)
end
def BC(K:mw)(H:Hp)(a:Addr)(xs:List V):Prop:=
 Rd H a (.lst xs)∨
  ∃(o:Obj)(b:Array Value)(n:Nat),K.lookup a=some o/\o.cls=.type "list"/\o.dict=none/\o.data=.seq b n/\b.size<=sizeLine/\Vals xs b.toList
def BA(K:mw)(H:Hp)(a:Addr)(xs:List V):Prop:=
 Rd H a (.tup xs)∨
  ∃(o:Obj)(b:Array Value)(n:Nat),K.lookup a=some o/\o.cls=.type "tuple"/\o.data=.seq b n/\b.size<=sizeLine/\Vals xs b.toList
noncomputable def dD:Value->Option V
 | .none=>some .Aj
 | .bool b=>some (.bl b)
 | .int i _=>some (.int i)
 | .str x _=>some (.str x)
 | .bytes b _=>some (.Mj b)
 | .float b _=>some (.Ws b)
 | .ref a=>some (.ref a)
 | .type n=>some (.ty n)
 |_=>none
theorem RelV.abs{x:V}(r:RelV x u):dD u=some x:=by
 cases x with
 |Aj=>cases r;rfl
 |bl _=>cases r;rfl
 |int _=>obtain⟨t,rfl⟩:=r;rfl
 |str _=>obtain⟨t,rfl⟩:=r;rfl
 |Mj _=>obtain⟨t,rfl⟩:=r;rfl
 |Ws _=>obtain⟨t,rfl⟩:=r;rfl
 |ref _=>cases r;rfl
 |ty _=>cases r;rfl
theorem RelV.inj{x y:V}(r:RelV x u)(q:RelV y u):x=y:=mr (r.abs.symm.trans q.abs)
theorem Vals.inj{xs ys:List V}{us:List Value}(r:Vals xs us)(s:Vals ys us):xs=ys:=by
 induction r generalizing ys with
 |nil=>exact(List.eq_nil_of_length_eq_zero (Paired.length s)).symm
 |cons a _ b=>
  cases ys with
  |nil=>exact absurd (Paired.length s) (Nat.succ_ne_zero _).symm
  |cons y c=>
   obtain⟨u,d,e,h,t⟩:=Vals.inv s;injection e with e1 e2;subst e1 e2;rw[a.inj h,b t]
variable{K:mw}{σ:St}
section
variable {ys:List V}
theorem BC.of(h:H a=some (.lst xs)):BC K H a xs:=.inl (.inl h)
theorem BA.of(h:H a=some (.tup xs)):BA K H a xs:=.inl (.inl h)
theorem Inv.list(I:Inv X pins σ H s)(h:BC X.K H a xs):∃its:List Value,Vals xs its/\PlainL s.heap a its.toArray/\xs.length<=sizeLine:=by
 rcases h with h|⟨o,its,n,b,c,d,f,g,r⟩
 ·obtain⟨z,its,n,r,e⟩:=h.ok I.As;exact⟨its,r,⟨_,n,e,rfl,rfl,rfl⟩,z⟩
 ·refine⟨its.toList,r,⟨o,n,I.Ck a o b,c,d,by simpa using f⟩,?_⟩;have e:=r.length;simp only[Array.length_toList]at e;lia
theorem Inv.tuple(I:Inv X pins σ H s)(h:BA X.K H a xs):∃its:List Value,Vals xs its/\IsTup s.heap a its.toArray/\xs.length<=sizeLine:=by
 rcases h with h|⟨o,its,n,b,c,d,f,r⟩
 ·obtain⟨z,its,r,p⟩:=h.ok I.As;exact⟨its,r,p,z⟩
 ·refine⟨its.toList,r,⟨o,I.Ck a o b,c,n,by simpa using d⟩,?_⟩;have e:=r.length;simp only[Array.length_toList]at e;lia
theorem Inv.QA(I:Inv X pins σ H s)(h:BC X.K H a xs)(h':BC X.K H a ys):xs=ys:=by
 obtain⟨c,r,⟨o,n,e,_,_,d⟩,_⟩:=I.list h;obtain⟨b,i,⟨k,l,f,_,_,g⟩,_⟩:=I.list h';rw[e]at f;cases f;rw[d]at g;injection g with j _;have:c=b:=by simpa using congrArg Array.toList j
 subst this;exact r.inj i
theorem Inv.OJ(I:Inv X pins σ H s)(h:BA X.K H a xs)(h':BA X.K H a ys):xs=ys:=by
 obtain⟨c,r,⟨o,e,_,n,d⟩,_⟩:=I.tuple h;obtain⟨b,i,⟨k,f,_,l,g⟩,_⟩:=I.tuple h';rw[e]at f;cases f;rw[d]at g;injection g with j _;have:c=b:=by simpa using congrArg Array.toList j
 subst this;exact r.inj i
end
abbrev Cx.FR(X:Cx)(E:Value->Shared->Prop):Cx:={X with xe:=E}
abbrev Cx.Zh(X:Cx):Cx:=X.FR fun _ _=>False
theorem Cx.Ok.FR(ok:X.Ok)(E:Value->Shared->Prop):(X.FR E).Ok:=
 ⟨ok.mod,ok.kind,ok.glob,ok.blt,ok.above,ok.inj,ok.has,ok.Zg,ok.hd,ok.frames,ok.Zs,ok.Zt,ok.bs,ok.TV,ok.OH,ok.OI,ok.EC,ok.WE⟩
theorem Cx.Ok.CV(ok:(X.FR E).Ok):X.Ok:=
 ⟨ok.mod,ok.kind,ok.glob,ok.blt,ok.above,ok.inj,ok.has,ok.Zg,ok.hd,ok.frames,ok.Zs,ok.Zt,ok.bs,ok.TV,ok.OH,ok.OI,ok.EC,ok.WE⟩
section
theorem Inv.FR(I:Inv X pins σ H s)(E:Value->Shared->Prop):Inv (X.FR E) pins σ H s:=⟨I.ok.FR E,I.os,I.bare,I.base,I.loc,I.cell,I.free,I.Bj,I.pin,I.As,I.len⟩
theorem Inv.CV(I:Inv (X.FR E) pins σ H s):Inv X pins σ H s:=⟨I.ok.CV,I.os,I.bare,I.base,I.loc,I.cell,I.free,I.Bj,I.pin,I.As,I.len⟩
theorem SP.CV{D:Ends}{f:Flow}{s':Shared}(h:SP (X.FR E) pins D f s'):SP X pins D f s':=by
 cases f with
 |next=>obtain⟨a,b,I,q⟩:=h;exact⟨a,b,I.CV,q⟩
 |brk=>obtain⟨a,b,I,q⟩:=h;exact⟨a,b,I.CV,q⟩
 |cont=>obtain⟨a,b,I,q⟩:=h;exact⟨a,b,I.CV,q⟩
 |ret u=>obtain⟨v,a,b,I,r,q⟩:=h;exact⟨v,a,b,I.CV,r,q⟩
theorem Hk.Zh{st:List Stmt}{t:TS}(h:Hk X.Zh st t):Hk X st t:=fun pins s σ H D I hw=>
 wpAny_mono (h pins s σ H D (I.FR _) hw) (fun _ _ q=>q.CV) fun _ _ z=>False.elim z
end
variable{te:TE}
section
variable {st:Stmt} {rest:List Stmt} {t u:TS} {pos:Pos}
def QB:TS:=fun D a H=>D.nx a H
def OK(t u:TS):TS:=fun D a H=>t {D with nx:=u D} a H
theorem AU:Hk X [] QB:=fun _ _ a H _ I h=>wpAny_execs_nil ⟨a,H,I,h⟩
theorem AI(b:PS X st t)(c:Hk X rest u):Hk X (st::rest) (OK t u):=by
 intro pins s d H D I h;refine wpAny_execs_cons (Ap (b pins s d H {D with nx:=u D} I h) fun f g q=>?_);cases f with
 |next=>
  obtain⟨a,i,j,q⟩:=q;exact c pins g a i D j q
 |ret v=>exact q
 |brk=>exact q
 |cont=>exact q
theorem AE(a:PS X st t):Hk X [st] t:=by
 intro pins s b H D I h;refine wpAny_execs_cons (Ap (a pins s b H D I h) fun f c q=>?_);cases f with
 |next=>exact wpAny_execs_nil q
 |ret v=>exact q
 |brk=>exact q
 |cont=>exact q
theorem Inv.quiet{a:St}(I:Inv X pins a H s):interactive X.env=false:=by simp[interactive,I.ok.kind]
def Zx(te:TE):TS:=fun D a H=>te a H fun _ b=>D.nx a b
theorem Di(b:PE X e te)(c:swapsWith e none pos.line X.env=pure false:=by rfl):PS X (.Expr e pos) (Zx te):=by
 intro pins s a H D I h;exact wpAny_Expr_any (Ap (b pins s a H _ I h) fun v j d=>d.elim fun x f g k i=>⟨a,f,g,i⟩) I.quiet c
def dE(te:TE):TS:=fun D a H=>te a H D.rt
theorem AL(b:PE X e te):PS X (.Return (some e) pos) (dE te):=by
 intro pins s a H D I h;exact wpAny_Return_some (Ap (b pins s a H _ I h) fun v j c=>c.elim fun x d f g i=>⟨x,a,d,f,g,i⟩)
def Td(c:TT)(t u:TS):TS:=fun D a H=>c a H fun b d=>if b=true then t D a d else u D a d
theorem Am{c:Expr}{a b:List Stmt}{g:TT}(m:PT X c g)(n:Hk X a t)(o:Hk X b u):PS X (.If c a b pos) (Td g t u):=by
 intro pins s f H D I h;refine wpAny_If (Ap (m pins s f H _ I h) fun d i p=>p.elim fun j k l=>?_);cases d with
 |true=>exact n pins i f j D k l
 |false=>exact o pins i f j D k l
end
abbrev TG:=V->St->Hp->(St->Hp->Prop)->Prop
abbrev Te:=List V->St->Hp->(St->Hp->Prop)->Prop
def PG(X:Cx)(target:Expr)(t:TG):Prop:=
 ∀(pins:List (Addr×Obj))(s:Shared)(b:St)(H:Hp)(v:V)(u:Value)(Q:St->Hp->Prop),Inv X pins b H s->RelV v u->t v b H Q->
  wpAny (model X.prog X.w) X.A (assign target X.env u) (fun _ d=>∃a c,Inv X pins a c d/\Q a c) X.xe s
def cR(X:Cx)(f:List Expr)(t:Te):Prop:=
 ∀(pins:List (Addr×Obj))(s:Shared)(b:St)(H:Hp)(c:List V)(d:List Value)(Q:St->Hp->Prop),Inv X pins b H s->Vals c d->t c b H Q->
  wpAny (model X.prog X.w) X.A (assignInOrder ((assignEach f X.env).map (·.2)) d) (fun _ g=>∃a e,Inv X pins a e g/\Q a e) X.xe s
abbrev Wy:=V->V->V->Hp->(Hp->Prop)->Prop
def Zy(X:Cx)(t:Wy):Prop:=
 ∀(pins:List (Addr×Obj))(s:Shared)(a:St)(H:Hp)(o i v:V)(b c u:Value)(Q:Hp->Prop),Inv X pins a H s->RelV o b->RelV i c->RelV v u->t o i v H Q->
  wpAny (model X.prog X.w) X.A (setItem b c u) (fun _ e=>∃d,Inv X pins a d e/\Q d) X.xe s
variable{k n:Nat}
section
variable {pos:Pos}
def Eb(i:Nat):TG:=fun v a H Q=>Q (a.set i (some v)) H
theorem Hl(a:X.N.Nodup)(b:X.N[i]?=some x)(c:Loc X.env.scope x)(d:X.fn x=true∨X.env.scope.names.lookup x=some .local:=by first|exact .inl rfl|exact .inr rfl|assumption):PG X (.Name x pos) (Eb i):=by
 intro pins s f H v u Q I r h;exact wpAny_assign_Name (FP I a b c r (fun g e=>⟨_,H,e,h⟩) d)
def dF:Te:=fun a b H Q=>a=[]/\Q b H
inductive Wz(t:TG)(u:Te)(vs:List V)(b:St)(H:Hp)(Q:(St->Hp->Prop)):Prop
 |mk(v r:_)(d:vs=v::r)(e:t v b H fun a c=>u r a c Q)
def Zz(t:TG)(u:Te):Te:=fun a b H Q=>Wz t u a b H Q
theorem Tf:cR X [] dF:=by
 intro pins s a H b c Q I r h;obtain⟨e,h⟩:=h;subst e;cases r;exact assignInOrder_nil ⟨a,H,I,h⟩
theorem JY{a:List Expr}{t:TG}{u:Te}(c:PG X e t)(d:cR X a u)(f:(assignEach (e::a) X.env).map (·.2)=assign e X.env::(assignEach a X.env).map (·.2):=by rfl):cR X (e::a) (Zz t u):=by
 intro pins s g H n o Q I r h;obtain⟨v,p,e1,h⟩:=h;subst e1;cases r with
 |cons r i=>
  rw[f];refine assignInOrder_cons (Ap (c pins s g H _ _ _ I r h) fun _ j ⟨b,k,l,m⟩=>?_);exact d pins j b k _ _ Q l i m
inductive Z_(K:mw)(n:Nat)(t:Te)(v:V)(b:St)(H:Hp)(Q:(St->Hp->Prop)):Prop
 |mk(a xs:_)(c:v=.ref a)(d:BA K H a xs)(e:xs.length=n)(f:t xs b H Q)
def dG(K:mw)(n:Nat)(t:Te):TG:=fun v a H Q=>Z_ K n t v a H Q
theorem W_{c:List Expr}{t:Te}(i:X.calm=true)(h:cR X c t)(j:(assignEach c X.env).length=n:=by rfl)(d:(assignEach c X.env).findIdx? (·.1)=none:=by rfl):PG X (.Tuple c k pos) (dG X.K n t):=by
 intro pins s f H v u Q I r hw;obtain⟨a,l,e1,m,p,hw⟩:=hw;subst e1;cases r;obtain⟨q,g,w,A⟩:=I.tuple m;refine assign_Tuple_tuple (I.ok.hd i) w (by simp[j,<-p,g.length]) d fun x y=>?_;have z:Inv X pins f H {s with heap:=x}:=I.kept (t':=s.toks) fun b o e=>y b o (Nat.ne_of_lt (Heap.lt_size e)) e;exact h pins _ f H l _ Q z (by simpa using g) hw
def dH(b c:TE)(t:Wy):TG:=fun v a H Q=>b a H fun o d=>c a d fun i e=>t o i v e fun f=>Q a f
theorem W'{o i:Expr}{e f:TE}{t:Wy}(g:PE X o e)(j:PE X i f)(k:Zy X t)(l:∀v,assign (.Subscript o i pos) X.env v=(do
   let a<-holding [v] (eval o X.env)
   let b<-holding [v,a] (eval i X.env)
   standAt pos
   holding [v,a,b] (setItem a b v)
   release [v,a,b] []):=by intro _;rfl):PG X (.Subscript o i pos) (dH e f t):=by
 intro pins s c H v u Q I r h;rw[l];refine wpAny_bind (wpAny_holding (Ap (g pins s c H _ I h) fun a m d=>d.elim fun x n p q w=>?_));refine wpAny_bind (wpAny_holding (Ap (j pins m c n _ p w) fun b z d=>d.elim fun y A B C D=>?_));refine wpAny_bind (wpAny_standAt (wpAny_bind (wpAny_holding (Ap (k pins z c A x y v a b u _ B q C r D) fun _ J ⟨E,F,G⟩=>?_))));exact wpAny_release ⟨c,E,F,G⟩
def XA(b:TE)(g:TG):TS:=fun D a H=>b a H fun x c=>g x a c D.nx
theorem QC{a:Expr}{c:TE}{g:TG}(f:PE X e c)(i:PG X a g)(j:swapsWithSole [a] e pos.line X.env=pure false:=by rfl)(hw:swappedStores [a] e X.env=pure none:=by rfl)(k:(assignEach [a] X.env).map (·.2)=[assign a X.env]:=by rfl):PS X (.Assign [a] e pos) (XA c g):=by
 intro pins s d H D I h;refine wpAny_Assign_stores (Ap (f pins s d H _ I h) fun v l m=>m.elim fun x n o p q=>?_) j hw;rw[k];exact Ap (i pins l d n x v _ o p q) fun _ w ⟨b,r,t,u⟩=>⟨b,r,t,u⟩
theorem Ae{i:Nat}{x:Str}{e:Expr}{a:TE}{pos':Pos}(b:X.N.Nodup)(c:X.N[i]?=some x)(d:Loc X.env.scope x)(f:PE X e a)(g:swapsWith e (some (.Name x pos')) pos.line X.env=pure false:=by rfl)(j:X.fn x=true∨X.env.scope.names.lookup x=some .local:=by first|exact .inl rfl|exact .inr rfl|assumption):
  PS X (.Assign [.Name x pos'] e pos) (XA a (Eb i)):=by
 intro pins s k H D I h;refine wpAny_Assign_Name (Ap (f pins s k H _ I h) fun v r l=>l.elim fun y m n o p=>?_) g;exact FP n b c d o (fun t q=>⟨_,m,q,p⟩) j
end
variable{body:List Stmt}{c:Expr}
section
variable {pos:Pos}
inductive Tg(c:TT)(h:TS)(D:Ends)(a:St)(H:Hp):Prop
 |mk(W:Nat->St->Hp->Prop)(i:(∃m,W m a H))(j:∀m a H,W m a H->c a H fun b e=>if b=true then∃N:St->Hp->Prop,(∀d f,N d f->∃g,g<m/\W g d f)/\h {D with nx:=N,ct:=N,bk:=D.nx} a e else D.nx a e)
def QD(c:TT)(a:TS):TS:=fun D b H=>Tg c a D b H
theorem JZ{q:TT}{r:TS}(t:PassesOwn (model X.prog X.w) X.A X.env X.xe)(C:PT X c q)(E:Hk X body r):PS X (.While c body [] pos) (QD q r):=by
 intro pins s F H D I h;obtain⟨W,⟨G,J⟩,turn⟩:=h;refine wpAny_While (codeAny_whileLoop (fun n K=>∃e u,Inv X pins e u K/\W n e u) ?_ G ⟨F,H,I,J⟩);rintro n L ⟨d,x,M,O⟩;refine wpAny_passesOwn t (Ap (C pins L d x _ M (turn n d x O)) fun b P Q=>Q.elim fun y z i=>?_);cases b with
 |true=>
  obtain⟨N,B,i⟩:=i;rw[if_pos rfl];refine wpAny_passesOwn t (Ap (E pins P d y _ z i) fun f R j=>?_);cases f with
  |next=>
   obtain⟨a,g,k,l⟩:=j;obtain⟨m,o,p⟩:=B a g l;exact⟨m,o,a,g,k,p⟩
  |cont=>
   obtain⟨a,g,k,l⟩:=j;obtain⟨m,o,p⟩:=B a g l;exact⟨m,o,a,g,k,p⟩
  |brk=>exact j
  |ret v=>exact j
 |false=>
  rw[if_neg Bool.false_ne_true];exact wpAny_execs_nil ⟨d,y,z,i⟩
end
structure It where
 go:Nat->Hp->Prop
 Zi:Nat->Hp->V->Hp->Prop
 stop:Nat->Hp->Prop
def Dj(X:Cx)(pins:List (Addr×Obj))(H:Hp)(b:Addr):Prop:=
 H b=none/\b≠X.env.locals/\b∉X.fs/\(b∈X.ex∨X.s₀.heap.objs.size<=b)/\(∀x c,X.env.cells.lookup x=some c->c≠b)/\∀p∈X.pn++pins,p.1≠b
theorem Inv.Kv{f:St}{d:Hp}(I:Inv X pins f H s)(a:s.heap.objs.size<=b)(g:d b=none):Dj X pins d b:=by
 refine⟨g,Nat.ne_of_gt (Nat.lt_of_lt_of_le I.lt a),I.cx a,.inr (Nat.le_trans I.sz a),fun x c e z=>?_,fun p h z=>?_⟩
 ·obtain⟨v,q⟩:=I.cell x c e;exact absurd (Nat.lt_of_lt_of_le q.lt (by rw[z];exact a)) (Nat.lt_irrefl _)
 ·exact absurd (Nat.lt_of_lt_of_le (Heap.lt_size (I.pin p h).1) (by rw[z];exact a)) (Nat.lt_irrefl _)
structure Turn(P:Program)(w:World)(K:mw)(tg:Expr)(J:It)(fp:List Addr)(it:Addr)(tn:Nat->Heap->Prop):Prop where
 mem:it∈fp
 obj:∀i h,tn i h->∀b∈fp,∃o,h.get? b=some o/\∀v,o.data≠.cell v
 keep:∀i h h',tn i h->(∀b∈fp,∀o,h.get? b=some o->h'.get? b=some o)->tn i h'
 item:∀(X:Cx),X.prog=P->X.w=w->X.K=K->X.calm=true->∀(i:Nat)(pins:List (Addr×Obj))(s:Shared)(σ:St)(H:Hp)(E:Value->Shared->Prop),Inv X pins σ H s->(∀b∈fp,Dj X pins H b)->tn i s.heap->J.go i H->
  wpAny (model P w) X.A (pyNext (.ref it)) (fun r s1=>∃u,r=some u/\
   wpAny (model P w) X.A (letOwnedTupleGo tg (.ref it) u) (fun _ s2=>∃x H',Inv X pins σ H' s2/\RelV x u/\J.Zi i H x H'/\tn (i+1) s2.heap/\∀b∈fp,H' b=none) E s1) E s
 done:∀(X:Cx),X.prog=P->X.w=w->X.K=K->X.calm=true->∀(i:Nat)(pins:List (Addr×Obj))(s:Shared)(σ:St)(H:Hp)(E:Value->Shared->Prop),Inv X pins σ H s->(∀b∈fp,Dj X pins H b)->tn i s.heap->J.stop i H->
  wpAny (model P w) X.A (pyNext (.ref it)) (fun r s1=>r=none/\Inv X pins σ H s1) E s
 self:∀(A:Around)(i:Nat)(s:Shared)(Q:Value->Shared->Prop)(E:Value->Shared->Prop),tn i s.heap->Q (.ref it) s->wpAny (model P w) A (pyIter (.ref it)) Q E s
abbrev TI:=St->Hp->(It->Hp->Prop)->Prop
inductive fS(X:Cx)(pins:List (Addr×Obj))(i:St)(j:Expr)(R:It->Hp->Prop)(a:Value)(d:Shared):Prop
 |mk(it:Addr)(g:List Addr)(h:Nat->Heap->Prop)(J:It)(c:Hp)(e:a=.ref it)(I:Inv X pins i c d)(t:Turn X.prog X.w X.K j J g it h)(z:h 0 d.heap)(f:∀b∈g,Dj X pins c b)(q:R J c)
def PI(X:Cx)(b iter:Expr)(c:TI):Prop:=
 ∀(pins:List (Addr×Obj))(s:Shared)(a:St)(H:Hp)(R:It->Hp->Prop),Inv X pins a H s->c a H R->
  wpAny (model X.prog X.w) X.A (eval iter X.env) (fun v d=>wpAny (model X.prog X.w) X.A (pyIter v) (fS X pins a b R) X.xe d) X.xe s
theorem Gw{b:Expr}{o:Obj}{n:String}{vs:Array Value}{Q:Unit->Shared->Prop}(c:s.heap.get? it=some o)(d:o.cls=.type n)(e:o.data=.fields vs)(f:["enumerate","zip","dict_itemiterator","dict_reverseitemiterator","odict_iterator","itertools.zip_longest","itertools.pairwise"].contains n=false)(a:Q () s):wpAny M A (letOwnedTupleGo b (.ref it) u) Q E s:=by
 unfold letOwnedTupleGo;cases b<;>first
  |exact wpAny_pure a
  |(cases u<;>first
    |exact wpAny_pure a
    |(refine wpAny_bind (wpAny_load c ?_)
      rw[d,e];show wpAny M A (if(["enumerate","zip","dict_itemiterator","dict_reverseitemiterator","odict_iterator","itertools.zip_longest","itertools.pairwise"].contains n&&vs[0]?==some (rawInt _))=true then _ else _) Q E s;rw[if_neg (by intro h;rw[f,Bool.false_and]at h;cases h)];exact wpAny_pure a))
def dI(K:mw)(a:Addr):It:=
 ⟨fun i H=>∃b x,BC K H a b/\b[i]?=some x,fun i H x c=>c=H/\∀b,BC K H a b->b[i]?=some x,fun i H=>∃b,BC K H a b/\b.length<=i⟩
def fU(K:mw)(a:Addr):It:=
 ⟨fun i H=>∃b x,BA K H a b/\b[i]?=some x,fun i H x c=>c=H/\∀b,BA K H a b->b[i]?=some x,fun i H=>∃b,BA K H a b/\b.length<=i⟩
def cS(lo:Int)(n:Nat):It:=⟨fun i _=>i<n,fun i H x a=>a=H/\x=.int (lo+i),fun i _=>n<=i⟩
variable{tg:Expr}
theorem OL(a it:Addr):Turn P w K tg (dI K a) [it] it (fun i h=>h.IsListIter it a i)where
 mem:=by simp
 obj:=fun i h st b hb=>by
  have e:b=it:=by simpa using hb
  subst e;obtain⟨o,e,c,d⟩:=st;exact⟨o,e,fun v z=>by rw[d]at z;cases z⟩
 keep:=fun i h h' st k=>st.at fun o e=>k it (by simp) o e
 item:=by
  intro X hP hw hK hc i pins s σ H E I hf st hg;subst hP hw hK;obtain⟨xs,x,hq,hx⟩:=hg;obtain⟨its,rv,p,hz⟩:=I.list hq;obtain⟨u,hu,ru⟩:=rv.get hx;obtain⟨f0,f1,f2,f3,f4,f5⟩:=hf it (by simp);refine wpAny_pyNext_list_item st p.isList (x:=u) (by simpa using hu) fun h' Kt sb=>?_;have I1:Inv X pins σ H {s with heap:=h'}:=I.turned (t':=s.toks) (fun b o hb e=>(sb.2 b hb).trans e) f0 f1 f3 f4 f5;obtain⟨o,e,c,d⟩:=id Kt;exact⟨u,rfl,Gw (s:={s with heap:=h'}) e c d (by decide) ⟨x,H,I1,ru,⟨rfl,fun ys hy=>by rw[I.QA hy hq];exact hx⟩,Kt,fun b hb=>(hf b hb).1⟩⟩
 done:=by
  intro X hP hw hK hc i pins s σ H E I hf st hg;subst hP hw hK;obtain⟨xs,hq,hx⟩:=hg;obtain⟨its,rv,p,hz⟩:=I.list hq;obtain⟨f0,f1,f2,f3,f4,f5⟩:=hf it (by simp);have hl:=rv.length;exact wpAny_pyNext_list_end (I.ok.hd hc) st p.isList (by simp;lia) fun h' eb=>⟨rfl,I.turned (t':=s.toks) (fun b o hb e=>eb b o hb e) f0 f1 f3 f4 f5⟩
 self:=fun _ _ _ _ _ st h=>wpAny_pyIter_listiter st h
theorem Kw(a it:Addr):Turn P w K tg (fU K a) [it] it (fun i h=>h.IsTupleIter it a i)where
 mem:=by simp
 obj:=fun i h st b hb=>by
  have e:b=it:=by simpa using hb
  subst e;obtain⟨o,e,c,d⟩:=st;exact⟨o,e,fun v z=>by rw[d]at z;cases z⟩
 keep:=fun i h h' st k=>st.at fun o e=>k it (by simp) o e
 item:=by
  intro X hP hw hK hc i pins s σ H E I hf st hg;subst hP hw hK;obtain⟨xs,x,hq,hx⟩:=hg;obtain⟨its,rv,p,hz⟩:=I.tuple hq;obtain⟨u,hu,ru⟩:=rv.get hx;obtain⟨f0,f1,f2,f3,f4,f5⟩:=hf it (by simp);refine wpAny_pyNext_tuple_item st (show s.heap.IsTuple a its.toArray from p) (x:=u) (by simpa using hu) fun h' Kt sb=>?_;have I1:Inv X pins σ H {s with heap:=h'}:=I.turned (t':=s.toks) (fun b o hb e=>(sb.2 b hb).trans e) f0 f1 f3 f4 f5;obtain⟨o,e,c,d⟩:=id Kt;exact⟨u,rfl,Gw (s:={s with heap:=h'}) e c d (by decide) ⟨x,H,I1,ru,⟨rfl,fun ys hy=>by rw[I.OJ hy hq];exact hx⟩,Kt,fun b hb=>(hf b hb).1⟩⟩
 done:=by
  intro X hP hw hK hc i pins s σ H E I hf st hg;subst hP hw hK;obtain⟨xs,hq,hx⟩:=hg;obtain⟨its,rv,p,hz⟩:=I.tuple hq;obtain⟨f0,f1,f2,f3,f4,f5⟩:=hf it (by simp);have hl:=rv.length;exact wpAny_pyNext_tuple_end (I.ok.hd hc) st (show s.heap.IsTuple a its.toArray from p) (by simp;lia) fun h' eb=>⟨rfl,I.turned (t':=s.toks) (fun b o hb e=>eb b o hb e) f0 f1 f3 f4 f5⟩
 self:=fun _ _ _ _ _ st h=>wpAny_pyIter_tupleiter st h
theorem Kx(it:Addr)(lo:Int)(n:Nat):Turn P w K tg (cS lo n) [it] it (fun i h=>IsRangeIter h it (lo+(i:Nat)*1) ((n:Int)-(i:Nat)) 1)where
 mem:=by simp
 obj:=fun i h st b hb=>by
  have e:b=it:=by simpa using hb
  subst e;exact⟨_,st,fun v z=>by
   have z':Data.fields _=Data.cell v:=z;cases z'⟩
 keep:=fun i h h' st k=>k it (by simp) _ st
 item:=by
  intro X hP hw hK hc i pins s σ H E I hf st hg;subst hP hw hK;obtain⟨f0,f1,f2,f3,f4,f5⟩:=hf it (by simp);have W:=Walks.range (prog:=X.prog) (w:=X.w) (I.ok.hd hc) it lo 1 n;refine W.item i s _ _ hg st fun v h' tk hv Kt kk=>?_;obtain⟨t,rfl⟩:=hv;have I1:Inv X pins σ H {s with heap:=h',toks:=tk}:=I.turned (fun b o hb e=>kk b o (by simpa using hb) e) f0 f1 f3 f4 f5;refine⟨_,rfl,Gw (s:={s with heap:=h',toks:=tk}) (n:="range_iterator") Kt rfl rfl (by decide) ⟨.int (lo+i),H,I1,⟨t,?_⟩,⟨rfl,rfl⟩,Kt,fun b hb=>(hf b hb).1⟩⟩;rw[Int.mul_one]
 done:=by
  intro X hP hw hK hc i pins s σ H E I hf st hg;subst hP hw hK;obtain⟨f0,f1,f2,f3,f4,f5⟩:=hf it (by simp);exact wpAny_pyNext_range_end (I.ok.hd hc) st (by have:n<=i:=hg;lia) fun h' eb=>⟨rfl,I.turned (t':=s.toks) (fun b o hb e=>eb b o hb e) f0 f1 f3 f4 f5⟩
 self:=fun _ _ _ _ _ st h=>wpAny_pyIter_rangeiter st h
variable{p:Pos}
section
def Z'(K:mw)(tl:TE):TI:=fun c H R=>tl c H fun x b=>∃a,x=.ref a/\(∃d,BC K b a d)/\R (dI K a) b
def dJ(K:mw)(tl:TE):TI:=fun c H R=>tl c H fun x b=>∃a,x=.ref a/\(∃d,BA K b a d)/\R (fU K a) b
theorem Hm{l:Expr}{tl:TE}(f:PE X l tl):PI X tg l (Z' X.K tl):=by
 intro pins s g H R I h;refine Ap (f pins s g H _ I h) fun v c i=>i.elim fun x j d k m=>?_;obtain⟨a,e,⟨u,n⟩,q⟩:=m;subst e;cases k;obtain⟨r,w,p,y⟩:=d.list n;refine wpAny_pyIter_list p.isList ?_;refine⟨c.heap.objs.size,[c.heap.objs.size],_,_,j,rfl,d.kept (t':=c.toks) fun b o e=>Heap.get?_push_of_some _ e,OL a _,⟨_,Heap.get?_push_size _ rfl,rfl,rfl⟩,fun b t=>?_,q⟩;have e:b=c.heap.objs.size:=by simpa using t
 subst e;exact d.Kv (Nat.le_refl _) (d.As.fresh (Nat.le_refl _))
theorem QE{l:Expr}{tl:TE}(g:PE X l tl):PI X tg l (dJ X.K tl):=by
 intro pins s i H R I h;refine Ap (g pins s i H _ I h) fun v c j=>j.elim fun x k d m n=>?_;obtain⟨a,e,⟨u,r⟩,q⟩:=n;subst e;cases m;obtain⟨f,w,p,y⟩:=d.tuple r;refine wpAny_pyIter_tuple (show c.heap.IsTuple a f.toArray from p) ?_;refine⟨c.heap.objs.size,[c.heap.objs.size],_,_,k,rfl,d.kept (t':=c.toks) fun b o e=>Heap.get?_push_of_some _ e,Kw a _,⟨_,Heap.get?_push_size _ rfl,rfl,rfl⟩,fun b t=>?_,q⟩;have e:b=c.heap.objs.size:=by simpa using t
 subst e;exact d.Kv (Nat.le_refl _) (d.As.fresh (Nat.le_refl _))
theorem QF{c:St}{R:It->Hp->Prop}{lo a:Int}{t u v:Tok}{tk:Nat}(I:Inv X pins c H s)(f: -(2 ^ 62)<=lo)(g:lo<2 ^ 62)(h: -(2 ^ 62)<=a)(i:a<2 ^ 62)(q:R (cS lo (a-lo).toNat) H):wpAny (model X.prog X.w) X.A (pyIter (.ref s.heap.objs.size)) (fS X pins c tg R) E {s with heap:=s.heap.push {cls:=.type "range",data:=.fields #[.int lo t,.int a u,.int 1 v]},toks:=tk}:=by
 refine wpAny_pyIter_range (IsRange.new ..) (small_one f g h i) ?_;have d:Inv X pins c H {s with heap:=s.heap.push {cls:=.type "range",data:=.fields #[.int lo t,.int a u,.int 1 v]},toks:=tk}:=I.kept fun b o e=>Heap.get?_push_of_some _ e;refine⟨(s.heap.push {cls:=.type "range",data:=.fields #[.int lo t,.int a u,.int 1 v]}).objs.size,[(s.heap.push {cls:=.type "range",data:=.fields #[.int lo t,.int a u,.int 1 v]}).objs.size],_,_,H,rfl,
  d.kept (t':=tk) fun b o e=>Heap.get?_push_of_some _ e,Kx _ lo (a-lo).toNat,?_,fun b j=>?_,q⟩
 ·have e1:lo+((0:Nat):Int)*1=lo:=by simp
  have e2:(((a-lo).toNat:Nat):Int)-((0:Nat):Int)=Builtin.Range.rangeSize lo a 1:=by rw[rangeSize_one];split<;>lia
  show IsRangeIter _ _ (lo+((0:Nat):Int)*1) ((((a-lo).toNat:Nat):Int)-((0:Nat):Int)) 1;rw[e1,e2];exact Heap.get?_push_size _ rfl
 ·have e:b=(s.heap.push {cls:=.type "range",data:=.fields #[.int lo t,.int a u,.int 1 v]}).objs.size:=by simpa using j
  subst e;exact d.Kv (Nat.le_refl _) (d.As.fresh (Nat.le_refl _))
def aA(a:TA):TI:=fun b H R=>a b H fun c d=>∃j:Int,c=[.int j]/\ -(2 ^ 62)<=j/\j<2 ^ 62/\R (cS 0 j.toNat) d
theorem CF{a:Expr}{c:TA}{pos:Pos}(d:Gl X "range")(f:X.mg "range"=none)(g:PA X [a] c)(i:starEach [a] X.env=[(false,eval a X.env)]:=by rfl):PI X tg (.Call (.Name "range" p) [a] [] pos) (aA c):=by
 intro pins s k H R I h;refine Call_ (FQ I d f boot_range (PyProof.Rows.callWith_type1 (Ap (g pos pins s k H _ I h) fun v w l=>l.elim fun x y m n b=>?_) i rfl));obtain⟨j,e,b,o,q⟩:=b;subst e;cases n with
 |cons r u=>
  cases u;obtain⟨t,rfl⟩:=r;exact call_range_1 (QF m (by lia) (by lia) b o (by simpa using q))
structure Go(D:Ends)(P:St->Hp->Prop)(e:Ends):Prop where
 n:∀{σ H},P σ H->e.nx σ H
 r:∀{v H},D.rt v H->e.rt v H
def XB(J:It)(g:TG)(f:TS)(D:Ends)(a:St)(h:Hp):Prop:=∃W:Nat->Nat->St->Hp->Prop,(∃m,W 0 m a h)/\∀i m a H,W i m a H-> (J.stop i H/\D.nx a H)∨(J.go i H/\∃N:St->Hp->Prop,(∀b c,N b c->∃e,e<m/\W (i+1) e b c)/\∀x c,J.Zi i H x c->g x a c fun d j=>f {D with nx:=N,ct:=N,bk:=D.nx} d j)
def aB(b:TI)(g:TG)(c:TS):TS:=fun D a H=>b a H fun J d=>XB J g c D a d
def FT(a:List Addr)(h:Heap):List (Addr×Obj):=a.filterMap fun b=>(h.get? b).map fun o=>(b,o)
theorem CW{a:List Addr}{o:Obj}(c:b∈a)(e:h.get? b=some o):(b,o)∈FT a h:=List.mem_filterMap.mpr ⟨b,c,by rw[e];rfl⟩
theorem OM{a:List Addr}{p:Addr×Obj}(c:p∈FT a h):p.1∈a/\h.get? p.1=some p.2:=by
 obtain⟨b,d,e⟩:=List.mem_filterMap.mp c;cases q:h.get? b with
 |none=>rw[q]at e;cases e
 |some o=>
  rw[q]at e;have f:(b,o)=p:=mr e;subst f;exact⟨d,q⟩
theorem Inv.pinned{c:St}{a:List Addr}(I:Inv X pins c H s)(h:∀b∈a,Dj X pins H b)(i:∀b∈a,∃o,s.heap.get? b=some o/\∀v,o.data≠.cell v):Inv X (pins++FT a s.heap) c H s:=
 I.Ml fun p j=>(List.mem_append.mp j).elim (fun z=>I.pin p (List.mem_append_right _ z)) fun z=>by
  obtain⟨f,e⟩:=OM z;obtain⟨k,l,m,_⟩:=h p.1 f;obtain⟨o,g,d⟩:=i p.1 f;rw[e]at g;cases g;exact⟨e,k,l,m,d⟩
theorem Inv.Cp{pl:List (Addr×Obj)}{a:St}(I:Inv X (pins++pl) a H s):Inv X pins a H s:=I.Ml fun p b=>I.pin p (List.mem_append_right _ (List.mem_append_left _ b))
theorem XC{iter:Expr}{S:TI}{g:TG}{U:TS}{pos:Pos}(B:PassesOwn (model X.prog X.w) X.A X.env X.xe)(V:X.calm=true)(hi:PI X tg iter S)(hg:PG X tg g)(c:Hk X body U)(hs:∀x,foldedSetIterable iter X.env x=pure x:=by intro _;rfl):PS X (.For tg iter body [] pos) (aB S g U):=by
 intro pins s Y H D I h;refine wpAny_For (Ap (hi pins s Y H _ I h) fun v s1 h1=>Ap h1 fun kZ s2 h2=>?_) hs;obtain⟨it,C,Z,J,H2,e,I2,T,L,f2,W,⟨m0,w0⟩,turn⟩:=h2;subst e;have j:∀{t:Hp},(∀b∈C,t b=none)->∀b∈C,Dj X pins t b:=fun hn b c=>⟨hn b c,(f2 b c).2⟩;refine codeAny_forLoop_any (fun n s'=>∃i k t,Inv X pins k t s'/\Z i s'.heap/\(∀b∈C,t b=none)/\W i n k t) ?_ m0 ⟨0,Y,H2,I2,L,fun b c=>(f2 b c).1,w0⟩;rintro n s3 ⟨i,l,K,I3,E,F,w3⟩;rcases turn i n l K w3 with⟨stop,qn⟩|⟨go,N,hN,step⟩
 ·refine wpAny_passesOwn B (Ap (T.done X rfl rfl rfl V i pins s3 l K X.xe I3 (j F) E stop) fun r s4 ⟨M,I4⟩=>?_);subst M;exact wpAny_execs_nil ⟨l,K,I4,qn⟩
 ·refine wpAny_passesOwn B (Ap (T.item X rfl rfl rfl V i pins s3 l K X.xe I3 (j F) E go) fun r s4 ⟨u,M,h4⟩=>?_);subst M;refine wpAny_passesOwn B (Ap h4 fun _ s5 ⟨x,H5,I5,r5,y5,z,O⟩=>?_);have P:=I5.pinned (j O) (T.obj _ _ z);refine wpAny_passesOwn B (Ap (hg _ s5 l H5 x u _ P r5 (step x H5 y5)) fun _ s6 ⟨Q,H6,I6,q6⟩=>?_);refine wpAny_passesOwn B (Ap (c _ s6 Q H6 _ I6 q6) fun f R y=>?_);have again:∀{a:St}{p:Hp},Inv X (pins++FT C s5.heap) a p R->N a p->∃m,m<n/\∃i k t,Inv X pins k t R/\Z i R.heap/\(∀b∈C,t b=none)/\W i m k t:=fun{a p} q G=>by
   obtain⟨m',hm,w7⟩:=hN a p G;refine⟨m',hm,i+1,a,p,q.Cp,T.keep _ _ _ z fun b c o e=>(q.pin (b,o) (List.mem_append_right _ (List.mem_append_right _ (CW c e)))).1,fun b c=>?_,w7⟩;obtain⟨o,e,d⟩:=T.obj _ _ z b c;exact(q.pin (b,o) (List.mem_append_right _ (List.mem_append_right _ (CW c e)))).2.1
  cases f with
  |next=>obtain⟨a,p,q,G⟩:=y;exact again q G
  |cont=>obtain⟨a,p,q,G⟩:=y;exact again q G
  |brk=>obtain⟨a,p,q,y⟩:=y;exact⟨a,p,q.Cp,y⟩
  |ret v=>obtain⟨x7,a,p,q,r7,y⟩:=y;exact⟨x7,a,p,q.Cp,r7,y⟩
end
theorem Ja{g:TG}{d:TS}{D:Ends}{b:St}(Pv:Nat->St->Hp->Prop)(f:Pv 0 b H)(h:∀i b H,i<=xs.length->Pv i b H->BC K H a xs)(j:∀i x b H e,Go D (Pv (i+1)) e->xs[i]?=some x->Pv i b H->g x b H (d e))(k:∀b H,Pv xs.length b H->D.nx b H):
  XB (dI K a) g d D b H:=by
 refine⟨fun i m b H=>m=xs.length-i/\i<=xs.length/\Pv i b H,⟨xs.length,by simp,Nat.zero_le _,f⟩,?_⟩;rintro i m b H ⟨rfl,l,p⟩;have q:=h i b H l p;by_cases c:i<xs.length
 ·refine .inr ⟨⟨xs,xs[i],q,by simp[c]⟩,Pv (i+1),fun n o r=>⟨xs.length-(i+1),by lia,rfl,c,r⟩,fun x o y=>?_⟩;obtain⟨e,y⟩:=y;subst e;exact j i x b _ _ ⟨id,id⟩ (y xs q) p
 ·have e:i=xs.length:=by lia
  subst e;exact .inl ⟨⟨xs,q,Nat.le_refl _⟩,k b H p⟩
theorem ED{lo:Int}{g:TG}{c:TS}{D:Ends}{a:St}(Pv:Nat->St->Hp->Prop)(d:Pv 0 a H)(f:∀i a H e,Go D (Pv (i+1)) e->i<n->Pv i a H->g (.int (lo+i)) a H (c e))(h:∀a H,Pv n a H->D.nx a H):
  XB (cS lo n) g c D a H:=by
 refine⟨fun i m a H=>m=n-i/\i<=n/\Pv i a H,⟨n,by simp,Nat.zero_le _,d⟩,?_⟩;rintro i m a H ⟨rfl,o,p⟩;by_cases b:i<n
 ·refine .inr ⟨b,Pv (i+1),fun j k l=>⟨n-(i+1),by lia,rfl,b,l⟩,fun x k y=>?_⟩;obtain⟨e,y⟩:=y;subst e y;exact f i a _ _ ⟨id,id⟩ b p
 ·have e:i=n:=by lia
  subst e;exact .inl ⟨Nat.le_refl _,h a H p⟩
abbrev R2:=V->V->Hp->VK->Prop
def Cq(X:Cx)(f:Value->Value->Sem Value)(r:R2):Prop:=
 ∀(pins:List (Addr×Obj))(s:Shared)(a:St)(H:Hp)(x y:V)(v u:Value)(Q:VK),Inv X pins a H s->RelV x v->RelV y u->r x y H Q->
  wpAny (model X.prog X.w) X.A (f v u) (EP X pins a Q) X.xe s
def dM(X:Cx)(f:Value->Sem Value)(r:V->Hp->VK->Prop):Prop:=
 ∀(pins:List (Addr×Obj))(s:Shared)(a:St)(H:Hp)(x:V)(v:Value)(Q:VK),Inv X pins a H s->RelV x v->r x H Q->
  wpAny (model X.prog X.w) X.A (f v) (EP X pins a Q) X.xe s
def BF(X:Cx)(f:Value)(r:List V->Hp->VK->Prop):Prop:=
 ∀(pins:List (Addr×Obj))(s:Shared)(a:St)(H:Hp)(b:List V)(c:List Value)(Q:VK),Inv X pins a H s->Vals b c->r b H Q->
  wpAny (model X.prog X.w) X.A (call f c) (EP X pins a Q) X.xe s
def dN(X:Cx)(r:V->Hp->(Bool->Hp->Prop)->Prop):Prop:=
 ∀(pins:List (Addr×Obj))(s:Shared)(a:St)(H:Hp)(x:V)(v:Value)(Q:Bool->Hp->Prop),Inv X pins a H s->RelV x v->r x H Q->
  wpAny (model X.prog X.w) X.A (truthy v) (TP X pins a Q) X.xe s
def Zj(r:R2)(b c:TE):TE:=fun a H Q=>b a H fun x d=>c a d fun y e=>r x y e Q
def iG(r:V->Hp->VK->Prop)(a:TE):TE:=fun b H Q=>a b H fun x c=>r x c Q
inductive iH(C:Int->Int->Prop)(g:Int->Int->V)(x y:V)(H:Hp)(Q:VK):Prop
 |mk(i j:_)(a:x=.int i)(b:y=.int j)(c:C i j)(d:Q (g i j) H)
def rI(C:Int->Int->Prop)(g:Int->Int->V):R2:=fun x y H Q=>iH C g x y H Q
inductive dO(g:Int->Int->V)(x y:V)(H:Hp)(Q:VK):Prop
 |mk(i j:_)(a:x=.int i)(b:y=.int j)(c:Q (g i j) H)
def WG(g:Int->Int->V):R2:=fun x y H Q=>dO g x y H Q
inductive iI(g:Int->V)(x:V)(H:Hp)(Q:VK):Prop
 |mk(i:_)(a:x=.int i)(b:Q (g i) H)
def rU(g:Int->V):V->Hp->VK->Prop:=fun x H Q=>iI g x H Q
variable{f:Value->Value->Sem Value}{g:Int->Int->Int}{d:St}
section
variable {a b:Expr} {tc:TE} {pos:Pos}
theorem XD(m:PE X a ta)(n:PE X b tb){R:V->V->Hp->Prop}(I:Inv X pins d H s)(h:ta d H fun x k=>tb d k fun y e=>R x y e)(o:∀v u j x y e,Inv X pins d e j->RelV x v->RelV y u->R x y e->wpAny (model X.prog X.w) X.A (f v u) Q X.xe j):
  wpAny (model X.prog X.w) X.A (eval a X.env) (fun v g=>wpAny (model X.prog X.w) X.A (eval b X.env) (fun u i=>wpAny (model X.prog X.w) X.A (f v u) Q X.xe i) X.xe g) X.xe s:=by
 refine Ap (m pins s d H _ I h) fun v p l=>l.elim fun x k q r t=>?_;refine Ap (n pins p d k _ q t) fun u j l=>l.elim fun y e z B C=>?_;exact o v u j x y e z r B C
theorem AQ{op:Operator}{r:R2}(d:Cq X (binaryOp op) r)(e:PE X a ta)(f:PE X b tb):PE X (.BinOp a op b pos) (Zj r ta tb):=by
 intro pins s g H Q I h;exact wpAny_BinOp (XD e f I h fun v u i x y j k l m q=>d pins i g j x y v u Q k l m q)
theorem Mn{op:UnaryOp}{r:V->Hp->VK->Prop}(e:dM X (unaryOp op) r)(f:PE X a ta):PE X (.UnaryOp op a pos) (iG r ta):=by
 intro pins s d H Q I h;exact UnaryOp_ (Ap (f pins s d H _ I h) fun v g i=>i.elim fun x j k l m=>e pins g d j x v Q k l m)
theorem cT{C:Int->Int->Prop}(rule:∀(i j:Int) (t u:Tok) (s:Shared) (Q:Value->Shared->Prop) (E:Value->Shared->Prop),C i j->Q (.int (g i j) s.toks) {s with toks:=s.toks+1}->wpAny (model X.prog X.w) X.A (f (.int i t) (.int j u)) Q E s):
  Cq X f (rI C fun i j=>.int (g i j)):=by
 intro pins s m H x y v u Q I d e h;obtain⟨i,j,rfl,rfl,k,q⟩:=h;obtain⟨t,rfl⟩:=d;obtain⟨l,rfl⟩:=e;exact rule i j t l s _ _ k ⟨.int (g i j),H,I.tok _,⟨_,rfl⟩,q⟩
theorem aC  (rule:∀(i j:Int)(t u:Tok)(s:Shared)(Q:Value->Shared->Prop)(E:Value->Shared->Prop),Q (.int (g i j) s.toks) {s with toks:=s.toks+1}->wpAny (model X.prog X.w) X.A (f (.int i t) (.int j u)) Q E s):
  Cq X f (WG fun i j=>.int (g i j)):=by
 intro pins s l H x y v u Q I d e h;obtain⟨i,j,rfl,rfl,q⟩:=h;obtain⟨t,rfl⟩:=d;obtain⟨k,rfl⟩:=e;exact rule i j t k s _ _ ⟨.int (g i j),H,I.tok _,⟨_,rfl⟩,q⟩
theorem Th{g:Int->Int->Bool}(rule:∀(i j:Int) (t u:Tok) (s:Shared) (Q:Value->Shared->Prop) (E:Value->Shared->Prop),Q (.bool (g i j)) s->wpAny (model X.prog X.w) X.A (f (.int i t) (.int j u)) Q E s):
  Cq X f (WG fun i j=>.bl (g i j)):=by
 intro pins s l H x y v u Q I d e h;obtain⟨i,j,rfl,rfl,q⟩:=h;obtain⟨t,rfl⟩:=d;obtain⟨k,rfl⟩:=e;exact rule i j t k s _ _ ⟨.bl (g i j),H,I,rfl,q⟩
def dP(i j:Int):Prop:=0<j/\j<1073741824
def dQ(i j:Int):Prop:=0<=j/\j<=1000000/\i.natAbs<2 ^ 64
def XE(i j:Int):Prop:=(-(2 ^ 64)<i/\i<2 ^ 64)∨(-(2 ^ 64)<j/\j<2 ^ 64)
theorem XE.ok{i j:Int}(h:XE i j):IntMulOk i j:=by
 rcases h with⟨d,e⟩|⟨d,e⟩
 ·exact .of_left (intBits_le_64 d e)
 ·exact .of_right (intBits_le_64 d e)
theorem Bq:Cq X (binaryOp .Add) (WG fun i j=>.int (i+j)):=aC fun _ _ _ _ _ _ _ q=>add_int q
theorem XF:Cq X (binaryOp .Sub) (WG fun i j=>.int (i-j)):=aC fun _ _ _ _ _ _ _ q=>sub_int q
theorem Cr:Cq X (binaryOp .Mult) (rI XE fun i j=>.int (i*j)):=cT fun _ _ _ _ _ _ _ d q=>mul_int q d.ok
theorem CY:Cq X (binaryOp .FloorDiv) (rI dP fun i j=>.int (i/j)):=cT fun i j _ _ _ _ _ d q=>by
 have e:(0:Int)<j:=d.1;have f:j<1073741824:=d.2;exact floordiv_int (by lia) (by rw[Int.fdiv_eq_ediv_of_nonneg i (by lia)];exact q) (.inl (PyProof.noPylong_small (by lia)))
theorem An:Cq X (binaryOp .Mod) (rI (fun _ j=>0<j) fun i j=>.int (i % j)):=cT fun i j _ _ _ _ _ d q=>by
 have e:(0:Int)<j:=d;exact mod_int' (by lia) (by rw[Int.fmod_eq_emod_of_nonneg i (by lia)];exact q)
theorem Ky:Cq X (binaryOp .Pow) (rI dQ fun i j=>.int (i ^ j.toNat)):=cT fun _ _ _ _ _ _ _ d q=>pow_int_small d.1 d.2.1 d.2.2 q
theorem iJ{f:Value->Sem Value}{g:Int->Int}(rule:∀(i:Int) (t:Tok) (s:Shared) (Q:Value->Shared->Prop) (E:Value->Shared->Prop),Q (.int (g i) s.toks) {s with toks:=s.toks+1}->wpAny (model X.prog X.w) X.A (f (.int i t)) Q E s):
  dM X f (rU fun i=>.int (g i)):=by
 intro pins s e H x v Q I d h;obtain⟨i,rfl,q⟩:=h;obtain⟨t,rfl⟩:=d;exact rule i t s _ _ ⟨.int (g i),H,I.tok _,⟨_,rfl⟩,q⟩
theorem Hn:dM X (unaryOp .USub) (rU fun i=>.int (-i)):=iJ fun _ _ _ _ _ q=>neg_int q
end
noncomputable def aD:V->V->Bool
 | .Aj,.Aj=>true| .Aj,.int _=>true| .int _,.Aj=>true| .Aj,.bl _=>true| .bl _,.Aj=>true| .Aj,.str _=>true| .str _,.Aj=>true
 | .int _,.int _=>true| .bl _,.bl _=>true| .str _,.str _=>true| .Mj _,.Mj _=>true
 | .int _,.str _=>true| .str _,.int _=>true| .bl _,.str _=>true| .str _,.bl _=>true
 |_,_=>false
def iK:R2:=fun x y H Q=>aD x y=true/\Q (.bl (decide (x=y))) H
def iL:R2:=fun x y H Q=>aD x y=true/\Q (.bl (!decide (x=y))) H
theorem Mo{i j:Int}:decide (V.int i=V.int j)=(i==j):=by
 rw[Bool.eq_iff_iff];simp
theorem QG{i j:Bool}:decide (V.bl i=V.bl j)=(i==j):=by
 rw[Bool.eq_iff_iff];simp
theorem Mp{i j:Str}:decide (V.str i=V.str j)=(i==j):=by
 rw[Bool.eq_iff_iff];simp
theorem Mq{i j:Array UInt8}:decide (V.Mj i=V.Mj j)=(i.toList==j.toList):=by
 rw[Bool.eq_iff_iff];cases i;cases j;simp
variable{r:R2}
section
variable {a b:Expr} {tc:TE} {pos:Pos}
theorem Ah{Q:VK}{k f:Bool}(I:Inv X pins d H s)(q:Q (.bl k) H)(e:k=f):EP X pins d Q (.bool f) s:=by
 subst e;exact⟨.bl k,H,I,rfl,q⟩
theorem Bk:Cq X (compareOp .Eq) iK:=by
 intro pins s k H x y v u Q I g d h;obtain⟨f,q⟩:=h;cases x with
 |Aj=>
  cases g;cases y with
  |Aj=>cases d;exact PySem.EqNone.eq_none_none (Ah I q (by simp))
  |bl j=>cases d;exact PySem.EqNone.eq_none_bool (Ah I q (by simp))
  |int j=>obtain⟨e,rfl⟩:=d;exact PySem.EqNone.eq_none_int (Ah I q (by simp))
  |str j=>obtain⟨e,rfl⟩:=d;exact PySem.EqNone.eq_none_str (Ah I q (by simp))
  |_=>exact absurd (show false=true from f) Bool.false_ne_true
 |bl i=>
  cases g;cases y with
  |Aj=>cases d;exact PySem.EqNone.eq_bool_none (Ah I q (by simp))
  |bl j=>cases d;exact eq_bool (Ah I q QG)
  |str j=>obtain⟨e,rfl⟩:=d;exact PySem.EqMixed.eq_bool_str (Ah I q (by simp))
  |_=>exact absurd (show false=true from f) Bool.false_ne_true
 |int i=>
  obtain⟨t,rfl⟩:=g;cases y with
  |Aj=>cases d;exact PySem.EqNone.eq_int_none (Ah I q (by simp))
  |int j=>obtain⟨e,rfl⟩:=d;exact eq_int (Ah I q Mo)
  |str j=>obtain⟨e,rfl⟩:=d;exact PySem.EqMixed.eq_int_str (Ah I q (by simp))
  |_=>exact absurd (show false=true from f) Bool.false_ne_true
 |str i=>
  obtain⟨t,rfl⟩:=g;cases y with
  |Aj=>cases d;exact PySem.EqNone.eq_str_none (Ah I q (by simp))
  |bl j=>cases d;exact PySem.EqMixed.eq_str_bool (Ah I q (by simp))
  |int j=>obtain⟨e,rfl⟩:=d;exact PySem.EqMixed.eq_str_int (Ah I q (by simp))
  |str j=>obtain⟨e,rfl⟩:=d;exact eq_str (Ah I q Mp)
  |_=>exact absurd (show false=true from f) Bool.false_ne_true
 |Mj i=>
  obtain⟨t,rfl⟩:=g;cases y with
  |Mj j=>obtain⟨e,rfl⟩:=d;exact PySem.W.eq_bytes (Ah I q Mq)
  |_=>exact absurd (show false=true from f) Bool.false_ne_true
 |_=>cases y<;>exact absurd (show false=true from f) Bool.false_ne_true
theorem WH:Cq X (compareOp .NotEq) iL:=by
 intro pins s k H x y v u Q I g d h;obtain⟨f,q⟩:=h;cases x with
 |Aj=>
  cases g;cases y with
  |Aj=>cases d;exact PySem.EqNone.ne_none_none (Ah I q (by simp))
  |bl j=>cases d;exact PySem.EqNone.ne_none_bool (Ah I q (by simp))
  |int j=>obtain⟨e,rfl⟩:=d;exact PySem.EqNone.ne_none_int (Ah I q (by simp))
  |str j=>obtain⟨e,rfl⟩:=d;exact PySem.EqNone.ne_none_str (Ah I q (by simp))
  |_=>exact absurd (show false=true from f) Bool.false_ne_true
 |bl i=>
  cases g;cases y with
  |Aj=>cases d;exact PySem.EqNone.ne_bool_none (Ah I q (by simp))
  |bl j=>cases d;exact ne_bool (Ah I q (congrArg not QG))
  |str j=>obtain⟨e,rfl⟩:=d;exact PySem.EqMixed.ne_bool_str (Ah I q (by simp))
  |_=>exact absurd (show false=true from f) Bool.false_ne_true
 |int i=>
  obtain⟨t,rfl⟩:=g;cases y with
  |Aj=>cases d;exact PySem.EqNone.ne_int_none (Ah I q (by simp))
  |int j=>obtain⟨e,rfl⟩:=d;exact ne_int (Ah I q (congrArg not Mo))
  |str j=>obtain⟨e,rfl⟩:=d;exact PySem.EqMixed.ne_int_str (Ah I q (by simp))
  |_=>exact absurd (show false=true from f) Bool.false_ne_true
 |str i=>
  obtain⟨t,rfl⟩:=g;cases y with
  |Aj=>cases d;exact PySem.EqNone.ne_str_none (Ah I q (by simp))
  |bl j=>cases d;exact PySem.EqMixed.ne_str_bool (Ah I q (by simp))
  |int j=>obtain⟨e,rfl⟩:=d;exact PySem.EqMixed.ne_str_int (Ah I q (by simp))
  |str j=>obtain⟨e,rfl⟩:=d;exact ne_str (Ah I q (congrArg not Mp))
  |_=>exact absurd (show false=true from f) Bool.false_ne_true
 |Mj i=>
  obtain⟨t,rfl⟩:=g;cases y with
  |Mj j=>obtain⟨e,rfl⟩:=d;exact PySem.W.ne_bytes (Ah I q (congrArg not Mq))
  |_=>exact absurd (show false=true from f) Bool.false_ne_true
 |_=>cases y<;>exact absurd (show false=true from f) Bool.false_ne_true
theorem Gx:Cq X (compareOp .Lt) (WG fun i j=>.bl (decide (i<j))):=Th fun _ _ _ _ _ _ _ q=>lt_int q
theorem Mr:Cq X (compareOp .LtE) (WG fun i j=>.bl (decide (i<=j))):=Th fun _ _ _ _ _ _ _ q=>le_int q
theorem WI:Cq X (compareOp .Gt) (WG fun i j=>.bl (decide (j<i))):=Th fun _ _ _ _ _ _ _ q=>gt_int q
theorem WJ:Cq X (compareOp .GtE) (WG fun i j=>.bl (decide (j<=i))):=Th fun _ _ _ _ _ _ _ q=>ge_int q
inductive Ho(x y:V)(H:Hp)(Q:VK):Prop
 |mk(i j:_)(d:x=.str i)(e:y=.str j)(f:Q (.bl (!(Builtin.Str.occurrences j i 0 j.length 1).isEmpty)) H)
def Jb:V->V->Hp->VK->Prop:=fun x y H Q=>Ho x y H Q
theorem ON:Cq X (compareOp .In) Jb:=by
 intro pins s f H x y v u Q I d e h;obtain⟨i,j,rfl,rfl,q⟩:=h;obtain⟨t,rfl⟩:=d;obtain⟨g,rfl⟩:=e;exact in_str (Ah I q rfl)
theorem AY(b:Expr)(h:op≠.In:=by decide)(d:op≠.NotIn:=by decide):behindInMarks op b=false:=by
 have e1:(op==CmpOp.In)=false:=by cases op<;>first|rfl|exact absurd rfl h
 have e2:(op==CmpOp.NotIn)=false:=by cases op<;>first|rfl|exact absurd rfl d
 cases b<;>simp[behindInMarks,e1,e2]
theorem Bh(d:Cq X (compareOp op) r)(e:PE X a ta)(f:PE X b tb)(g:behindInMarks op b=false):PE X (.Compare a [op] [b] pos) (Zj r ta tb):=by
 intro pins s i H Q I h;exact wpAny_Compare1 (XD e f I h fun v u j x y k l m n q=>d pins j i k x y v u Q l m n q) g
def aE(t:TE):TT:=fun d H Q=>t d H fun x e=>fR x e Q
theorem AV(f:Cq X (compareOp op) r)(g:PE X a ta)(i:PE X b tb)(j:behindInMarks op b=false):PT X (.Compare a [op] [b] pos) (aE (Zj r ta tb)):=by
 intro pins s d H Q I h;refine wpAny_isTrue_Compare1 (Ap (g pins s d H _ I h) fun v l m=>m.elim fun x n o p q=>Ap (i pins l d n _ o q) fun u t ⟨y,w,A,B,C⟩=>
  Ap (f pins t d w x y v u _ A p B C) fun c J ⟨z,D,E,F,k,e,G⟩=>?_) j
 subst e;cases F;exact wpAny_truthy_bool ⟨D,E,G⟩
def XG(r f:R2)(ta tb tc:TE):TE:=fun d H Q=>ta d H fun x g=>tb d g fun y h=>r x y h fun z e=>∃k,z=.bl k/\ (if k=true then tc d e fun i j=>f y i j Q else Q (.bl false) e)
theorem QH{f:CmpOp}{l:R2}(q:Cq X (compareOp op) r)(i:Cq X (compareOp f) l)(t:PE X a ta)(w:PE X b tb)(A:PE X c tc)(B:lastMarks [op,f] [b,c]=false:=by with_unfolding_all rfl):PE X (.Compare a [op,f] [b,c] pos) (XG r l ta tb tc):=by
 intro pins s g H Q I h;refine Compare_chain (Ap (t pins s g H _ I h) fun v C j=>j.elim fun x D E F G=>chain_link (Ap (w pins C g D _ E G) fun u J ⟨y,K,L,m,M⟩=>
  Ap (q pins J g K x y v u _ L F m M) fun d N ⟨z,n,o,O,k,e,p⟩=>?_)) B
 subst e;cases O;refine wpAny_truthy_bool ?_;cases k with
 |false=>exact ite_ff ⟨.bl false,n,o,rfl,p⟩
 |true=>exact ite_tt (chain_last (Ap (A pins N g n _ o p) fun P R j=>j.elim fun S T U V Y=>i pins R g T y S u P Q U m V Y))
def aF(K:mw)(x:V)(H:Hp)(k:Bool):Prop:=
 match x with
 | .Aj=>k=false
 | .bl b=>k=b
 | .int i=>k=(i !=0)
 | .str y=>y.length<=sizeLine/\k=((y.length:Int) !=0)
 | .Mj y=>y.size<=sizeLine/\k=((y.size:Int) !=0)
 | .ref p=>(∃d,BC K H p d/\k= !d.isEmpty)∨(∃d,BA K H p d/\k= !d.isEmpty)∨∃e,H p=some (.dK e)/\k= !e.isEmpty
 |_=>False
theorem Kz{d:Type}{kvs:List (d×V)}{vs:List (d×Value)}(r:KV kvs vs):(!vs.isEmpty)= !kvs.isEmpty:=by
 cases r<;>rfl
theorem FU{its:List Value}(r:Vals xs its):(!its.toArray.isEmpty)= !xs.isEmpty:=by
 cases r<;>simp
theorem DW:(sizeLine:Nat)<2 ^ 63:=by rw[sizeLine_eq];decide
theorem XH:dN X (fun x H Q=>∃k,aF X.K x H k/\Q k H):=by
 intro pins s C H x v Q I j h;obtain⟨k,e,q⟩:=h;have D:=DW;have E:sizeLine=16777216:=sizeLine_eq;cases x with
 |Aj=>
  cases j;have d:k=false:=e;subst d;exact truthy_none ⟨H,I,q⟩
 |bl b=>
  cases j;have d:k=b:=e;subst d;exact wpAny_truthy_bool ⟨H,I,q⟩
 |int i=>
  obtain⟨t,rfl⟩:=j;have d:k=(i !=0):=e;subst d;exact PySem.P.truthy_int ⟨H,I,q⟩
 |str y=>
  obtain⟨t,rfl⟩:=j;obtain⟨A,d⟩:y.length<=sizeLine/\k=((y.length:Int) !=0):=e;subst d;exact PySem.P.truthy_str (by lia) ⟨H,I.tok _,q⟩
 |Mj y=>
  obtain⟨t,rfl⟩:=j;obtain⟨A,d⟩:y.size<=sizeLine/\k=((y.size:Int) !=0):=e;subst d;exact PySem.W.truthy_bytes (by lia) ⟨H,I.tok _,q⟩
 |ref p=>
  cases j;have d:(∃g,BC X.K H p g/\k= !g.isEmpty)∨(∃g,BA X.K H p g/\k= !g.isEmpty)∨∃f,H p=some (.dK f)/\k= !f.isEmpty:=e;rcases d with⟨g,l,d⟩|⟨g,l,d⟩|⟨f,l,d⟩
  ·subst d;obtain⟨o,r,u,z⟩:=I.list l;have hlen:=r.length;exact wpAny_truthy_list u.isList (by simp only[List.size_toArray];lia) ⟨H,I.tok _,by rw[FU r];exact q⟩
  ·subst d;obtain⟨o,r,u,z⟩:=I.tuple l;have hlen:=r.length;exact truthy_tuple u (by simp only[List.size_toArray];lia) ⟨H,I.tok _,by rw[FU r];exact q⟩
  ·subst d;obtain⟨z,B,n,r,m⟩:f.length<=sizeLine/\(p==sysModules)=false/\∃n,KV f n/\s.heap.DictOf (Ad X.prog X.w) p n:=I.As p _ l;have hlen:f.length=n.length:=Paired.length r;exact wpAny_truthy_dict B m (by lia) ⟨H,I.tok _,by rw[Kz r];exact q⟩
 |_=>exact(show False from e).elim
theorem Jc(f:PE X a ta)(g:∀whole,isTrue a X.env whole=(do let v<-whole;standAt a.pos;holding [v] (truthy v))):
  PT X a (fun d H Q=>ta d H fun x e=>∃k,aF X.K x e k/\Q k e):=by
 intro pins s d H Q I h;exact isTrue_plain (Ap (f pins s d H _ I h) fun v i j=>j.elim fun x l m n o=>XH pins i d l x v Q m n o) (g _)
inductive Gi(x y:V)(H:Hp)(Q:VK):Prop
 |mk(i j:_)(d:x=.str i)(e:y=.str j)(f:i.length+j.length<=sizeLine)(g:Q (.str (i++j)) H)
def Hq:V->V->Hp->VK->Prop:=fun x y H Q=>Gi x y H Q
theorem CZ:Cq X (binaryOp .Add) Hq:=by
 intro pins s k H x y v u Q I d e h;obtain⟨i,j,rfl,rfl,f,q⟩:=h;obtain⟨t,rfl⟩:=d;obtain⟨g,rfl⟩:=e;exact add_str (fun g l=>⟨.str (i++j),H,I.tok _,⟨_,rfl⟩,q⟩) f
theorem vals1{x:V}(r:Vals [x] us):∃u,us=[u]/\RelV x u:=by
 cases r with
 |cons d e=>cases e;exact⟨_,rfl,d⟩
theorem vals2{x y:V}(r:Vals [x,y] us):∃u d,us=[u,d]/\RelV x u/\RelV y d:=by
 cases r with
 |cons e f=>
  cases f with
  |cons g h=>cases h;exact⟨_,_,rfl,e,g⟩
theorem OO:BF X (.type "int") (fun xs H Q=>(∃i,xs=[.int i]/\Q (.int i) H)∨∃k,xs=[.bl k]/\Q (.int (if k then 1 else 0)) H):=by
 intro pins s e H xs f Q I r h;rcases h with⟨i,rfl,q⟩|⟨k,rfl,q⟩
 ·obtain⟨u,rfl,t,rfl⟩:=vals1 r;exact call_int_int ⟨.int i,H,I,⟨_,rfl⟩,q⟩
 ·obtain⟨u,rfl,d⟩:=vals1 r;cases d;exact call_int_bool ⟨.int (if k then 1 else 0),H,I.tok _,⟨_,rfl⟩,q⟩
end
structure K_(h:Heap)(x dx C:Addr)(mA:Str->Option Value):Prop where
 obj:h.get? x=some (PySem.W.instObj C dx)
 ns:h.Ns1 dx mA
 ne:dx≠x
theorem OP{c:Addr}{d:Str->Option Value}(n:h.Ns1 c d):∃od,h.get? c=some od/\∀name,PySem.W.lookIn name od=some (d name):=by
 obtain⟨o,f,p,g,i,j,_,k⟩:=n;refine⟨o,g,fun name=>?_⟩;have e:=k name;unfold nsFind findBy at e;rw[<-Array.find?_toList]at e;unfold PySem.W.lookIn;rw[i];dsimp only;split
 ·rename_i y q
  rw[q]at e;exact congrArg some e
 ·rename_i q
  rw[q]at e;have a:f.toList.any (·.refKey)=false:=by
   rw[List.any_eq_false];intro y l;obtain⟨z,t,b⟩:=j y (Array.mem_toList_iff.mp l);simp[DictEntry.refKey,b]
  have m:¬f.toList.any (·.refKey)=true:=by rw[a];exact Bool.false_ne_true
  rw[if_neg m];exact congrArg some e
variable{C:Addr}
theorem K_.look{x:Addr}{b:Str->Option Value}(I:K_ h x a C b):∃od,PySem.W.InstAt h x (PySem.W.instObj C a) C (some od)/\∀name,PySem.W.lookIn name od=some (b name):=
 let⟨od,c,d⟩:=OP I.ns
 ⟨od,⟨I.obj,rfl,rfl,c⟩,d⟩
variable{prog:Program}{pl:Sem Bool}{dx:Addr}
section
variable {x f:Addr} {mA:Str->Option Value} {name:Str} {v:Value}
theorem get_map{expr:Bool}(X:K.In s.heap)(I:K_ s.heap x dx C mA)(b:PySem.W.plainGet K C name=true)(c:PySem.W.hasDictIn K C=true)(d:PySem.W.findIn K (.ref C) name=some none)(e:mA name=some v)(a:PySem.W.handedIn v=true)(h:Q v {s with toks:=s.toks+1}):
  wpAny (model prog w) A (getAttr (.ref x) name expr) Q E s:=by
 obtain⟨i,J,g⟩:=I.look;exact PySem.W.get_value X J (PySem.W.plainGet_of b).1 (PySem.W.findObj_own c d rfl (by rw[g,e])) a h
theorem QI{Q:Value×List Value->Shared->Prop}(X:K.In s.heap)(I:K_ s.heap x dx C mA)(a:PySem.W.plainGet K C name=true)(b:PySem.W.findIn K (.ref C) name=some (some (.ref f)))(c:PySem.W.isFn K (.ref f)=true)(d:mA name=none)(h:Q (.ref f,[.ref x]) s):
  wpAny (model prog w) A (getMethod (.ref x) name pl) Q E s:=by
 obtain⟨e,J,g⟩:=I.look;exact PySem.W.method_fn X J (PySem.W.plainGet_of a).1 (PySem.W.plainGet_of a).2 b (beq_iff_eq.mp c) (by show(PySem.W.lookIn name e).map (·.isSome)=some false;rw[g,d];rfl) h
theorem Ti{ns:List Str}{Q:Unit->Shared->Prop}(X:K.In s.heap)(I:K_ s.heap x dx C mA)(k:PySem.W.findIn K (.ref C) "__setattr__"=some (some (.builtin "object.__setattr__")))(l:PySem.W.plainOver K C=true)(m:PySem.W.takerIn K C name=some none)(n:PySem.W.hasDictIn K C=true)(hw:PySem.Within mA ns)(hsz:ns.length<=sizeLine)(h:∀h',K_ h' x dx C (fun y=>if y=name then some v else mA y)->Heap.SameBut dx s.heap h'->Q () {s with heap:=h',toks:=s.toks+2}):
  wpAny (model prog w) A (setAttr (.ref x) name v) Q E s:=by
 obtain⟨u,J,z⟩:=I.look;refine PySem.W.set_plain X J k (PySem.W.osa_open (s:={s with toks:=s.toks+1}) (r:=none) X J l m fun b=>?_);obtain⟨B,o,e⟩:=PySem.W.any_some n;have p:s.heap.get? x=some ⟨.ref C,some dx,.plain, #[]⟩:=I.obj;refine wpAny_bind (wpAny_pure (wpAny_bind (wpAny_bind (wpAny_loadPart p (wpAny_bind (PySem.W.Looks.here (s:={s with toks:=s.toks+1}) (PySem.W.looks_clsIn X o) ?_))))));rw[e];refine wpAny_pure (a:=some dx) (wpAny_bind (wpAny_pure (wpAny_bind ?_)));refine wpAny_nsSet1 (s:={s with toks:=s.toks+1}) I.ns fun h' c d=>?_;obtain⟨D,q,t,g,i,j⟩:=c.count (PySem.Within.cons name v hw);refine wpAny_bind (wpAny_lookBehind g (by rw[i];exact pastItsLine_dict (Nat.le_trans j (by rw[List.length_cons];lia))) ?_);exact wpAny_pure (h _ ⟨(d.2 _ (Ne.symm I.ne)).trans I.obj,c,I.ne⟩ d)
theorem QJ{R:Result->Shared->Prop}{vs:List Value}{a:List (Str×Value)}(X:K.In s.heap)(b:PySem.W.makesIn K C=true)(c:PySem.W.findIn K (.ref C) "__init__"=some (some (.ref f)))(e:PySem.W.typeIn K (.ref f)=some (.type "function"))(h:codeAny (model prog w) (A.under (.builtin "type.__call__" ⟨.ref C::vs,a⟩)) (.call (.ref f) ⟨.ref (s.heap.objs.size+1)::vs,a⟩) (PySem.W.InitBack (s.heap.objs.size+1) R)
   {s with heap:=(s.heap.push PySem.W.emptyDict).push (PySem.W.instObj C s.heap.objs.size)}):
  codeAny (model prog w) A (.call (.ref C) ⟨vs,a⟩) R s:=by
 obtain⟨i,g,d,t,os⟩:=s;exact PySem.W.make_core (PySem.W.makes_of X b) (PySem.W.looks_findIn X c) (fun self=>PySem.W.bind_fn X self e) (.inl rfl) h
end
noncomputable def Ca(f:Str)(v:V):List (Str×V)->List (Str×V)
 |[]=>[(f,v)]
 |(g,x)::r=>if g=f then(g,v)::r else(g,x)::Ca f v r
theorem Ec(f g:Str)(v:V):∀fs:List (Str×V),(Ca f v fs).lookup g=if g=f then some v else fs.lookup g
 |[]=>by
  show List.lookup g [(f,v)]=_;by_cases h:g=f
  ·have a:(g==f)=true:=beq_iff_eq.mpr h;simp only[List.lookup,a,if_pos h]
  ·have a:(g==f)=false:=beq_eq_false_iff_ne.mpr h;simp only[List.lookup,a,if_neg h]
 |(k,x)::r=>by
  have c:=Ec f g v r;rw[show Ca f v ((k,x)::r)=(if k=f then(k,v)::r else(k,x)::Ca f v r)from rfl];by_cases b:k=f
  ·rw[if_pos b];by_cases h:g=k
   ·have a:(g==k)=true:=beq_iff_eq.mpr h;simp only[List.lookup,a,if_pos (h.trans b)]
   ·have a:(g==k)=false:=beq_eq_false_iff_ne.mpr h;simp only[List.lookup,a,if_neg (fun e:g=f=>h (e.trans b.symm))]
  ·rw[if_neg b];by_cases h:g=k
   ·have a:(g==k)=true:=beq_iff_eq.mpr h;simp only[List.lookup,a,if_neg (fun e:g=f=>b (h.symm.trans e))]
   ·have a:(g==k)=false:=beq_eq_false_iff_ne.mpr h;simp only[List.lookup,a];exact c
theorem EE(f:Str)(v:V):∀fs:List (Str×V),f∈(Ca f v fs).map (·.1)/\∀g,g∈fs.map (·.1)->g∈(Ca f v fs).map (·.1)
 |[]=>⟨by simp[Ca],fun g h=>by simp at h⟩
 |(k,x)::r=>by
  obtain⟨b,c⟩:=EE f v r;rw[show Ca f v ((k,x)::r)=(if k=f then(k,v)::r else(k,x)::Ca f v r)from rfl];by_cases a:k=f
  ·rw[if_pos a];subst a;exact⟨by simp,fun g h=>by simpa using h⟩
  ·rw[if_neg a];refine⟨?_,fun g h=>?_⟩
   ·rw[List.map_cons];exact List.mem_cons_of_mem _ b
   ·rw[List.map_cons]at h⊢;rcases List.mem_cons.mp h with e|e
    ·exact List.mem_cons.mpr (.inl e)
    ·exact List.mem_cons_of_mem _ (c g e)
theorem Ed(f:Str)(v:V):∀fs:List (Str×V),(Ca f v fs).length<=fs.length+1
 |[]=>by simp[Ca]
 |(k,x)::r=>by
  have b:=Ed f v r;rw[show Ca f v ((k,x)::r)=(if k=f then(k,v)::r else(k,x)::Ca f v r)from rfl];by_cases a:k=f
  ·rw[if_pos a,List.length_cons,List.length_cons];lia
  ·rw[if_neg a,List.length_cons,List.length_cons];lia
theorem CT.some_of{o:Option Value}(r:CT (some v) o):∃u,o=some u/\RelV v u:=by
 cases o with
 |none=>exact(show False from r).elim
 |some u=>exact⟨u,rfl,r⟩
theorem CT.none_of{o:Option Value}(r:CT none o):o=none:=by
 cases o with
 |none=>rfl
 |some u=>exact(show False from r).elim
theorem OQ(r:RelV v u):PySem.W.handedIn u=true:=by
 cases v with
 |Aj=>cases(show u=Value.none from r);rfl
 |bl b=>cases(show u=Value.bool b from r);rfl
 |int i=>obtain⟨t,e⟩:=(show∃t,u=Value.int i t from r);cases e;rfl
 |str x=>obtain⟨t,e⟩:=(show∃t,u=Value.str x t from r);cases e;rfl
 |Mj b=>obtain⟨t,e⟩:=(show∃t,u=Value.bytes b t from r);cases e;rfl
 |Ws b=>obtain⟨t,e⟩:=(show∃t,u=Value.float b t from r);cases e;rfl
 |ref a=>cases(show u=Value.ref a from r);rfl
 |ty n=>cases(show u=Value.type n from r);rfl
section
variable {fs iB:List (Str×V)}
theorem Ez(c:CS P w H h)(e:H a=some (.ins C dx fs)):∃b,K_ h a dx C b/\(∀f,CT (fs.lookup f) (b f))/\PySem.Within b (fs.map (·.1))/\fs.length<=1000/\H dx=some (.own a):=by
 obtain⟨d,z,ne,g,b,n,r,q⟩:=(show Al P w H h a (.ins C dx fs)from c a _ e);exact⟨b,⟨g,n,ne⟩,r,q,z,d⟩
end
structure EA(K:mw)(C:Addr):Prop where
 pg:PySem.W.plainGet K C Str.empty=true
 hd:PySem.W.hasDictIn K C=true
 po:PySem.W.plainOver K C=true
 sa:PySem.W.findIn K (.ref C) "__setattr__"=some (some (.builtin "object.__setattr__"))
theorem EA.get(c:EA K C)(f:Str):PySem.W.plainGet K C f=true:=c.pg
def AW(K:mw)(C:Addr)(f:Str):Prop:=PySem.W.findIn K (.ref C) f=some none
theorem AW.aG{f:Str}(n:AW K C f):PySem.W.takerIn K C f=some none:=by
 unfold PySem.W.takerIn;rw[show PySem.W.findIn K (.ref C) f=some none from n];rfl
structure Meth(K:mw)(C:Addr)(m:Str)(f:Addr):Prop where
 at_:PySem.W.findIn K (.ref C) m=some (some (.ref f))
 fn:PySem.W.isFn K (.ref f)=true
 kp:PySem.W.keepIn K (.ref f)=true
variable{m:Str}
section
variable {fs:List (Str×V)} {f:Str} 
theorem K'{b:Bool}(I:Inv X pins σ H s)(e:H a=some (.ins C dx fs))(c:EA X.K C)(n:AW X.K C f)(l:fs.lookup f=some v)(h:∀u s',Inv X pins σ H s'->RelV v u->Q u s'):wpAny (model X.prog X.w) A (getAttr (.ref a) f b) Q E s:=by
 obtain⟨g,O,r,_,_,_⟩:=Ez I.As e;obtain⟨u,i,d⟩:=CT.some_of (v:=v) (o:=g f) (by rw[<-l];exact r f);exact get_map I.Ck O (c.get f) c.hd n i (OQ d) (h u _ (I.tok _) d)
theorem LA{g:Addr}{Q:Value×List Value->Shared->Prop}(I:Inv X pins σ H s)(e:H a=some (.ins C dx fs))(c:EA X.K C)(k:Meth X.K C m g)(l:fs.lookup m=none)(h:Q (.ref g,[.ref a]) s):wpAny (model X.prog X.w) A (getMethod (.ref a) m pl) Q E s:=by
 obtain⟨b,O,r,_,_,_⟩:=Ez I.As e;have d:b m=none:=CT.none_of (by rw[<-l];exact r m);exact QI I.Ck O (c.get m) k.at_ k.fn d h
theorem LB{y:V}{Q:Unit->Shared->Prop}(I:Inv X pins σ H s)(e:H a=some (.ins C dx fs))(c:EA X.K C)(n:AW X.K C f)(G:fs.length<1000)(l:RelV y u)(h:∀s',Inv X pins σ (upd H a (.ins C dx (Ca f y fs))) s'->Q () s'):wpAny (model X.prog X.w) A (setAttr (.ref a) f u) Q E s:=by
 obtain⟨i,O,r,j,_,k⟩:=Ez I.As e;have m:(fs.map (·.1)).length<=sizeLine:=by rw[List.length_map,sizeLine_eq];lia
 refine Ti I.Ck O c.sa c.po n.aG c.hd j m fun p d t=>h _ ?_;have hd:∃o,p.get? dx=some o:=let⟨o,_,_,B,_⟩:=d.ns;⟨o,B⟩;refine I.write (x:=a) (e:=dx) (by rw[e];exact True.intro) (.inr k) (fun b q D z=>(t.2 b D).trans z) hd ?_;refine⟨by rw[AK O.ne];exact k,?_,O.ne,d.obj,_,d.ns,fun g=>?_,fun g F=>?_⟩
 ·have:=Ed f y fs;lia
 ·show CT ((Ca f y fs).lookup g) (if g=f then some u else i g);rw[Ec];by_cases q:g=f
  ·rw[if_pos q,if_pos q];exact l
  ·rw[if_neg q,if_neg q];exact r g
 ·by_cases q:g=f
  ·rw[q];exact(EE f y fs).1
  ·refine(EE f y fs).2 g (j g fun z=>F ?_);show(if g=f then some u else i g)=none;rw[if_neg q];exact z
theorem Inv.made(I:Inv X pins σ H s):Inv X pins σ (upd (upd H s.heap.objs.size (.own (s.heap.objs.size+1))) (s.heap.objs.size+1) (.ins C s.heap.objs.size []))
  {s with heap:=(s.heap.push PySem.W.emptyDict).push (PySem.W.instObj C s.heap.objs.size)}:=by
 have e1:(s.heap.push PySem.W.emptyDict).get? s.heap.objs.size=some PySem.W.emptyDict:=Heap.get?_push_size s.heap rfl;have e2:((s.heap.push PySem.W.emptyDict).push (PySem.W.instObj C s.heap.objs.size)).get? (s.heap.objs.size+1)=some (PySem.W.instObj C s.heap.objs.size):=by
  have:=Heap.get?_push_size (s.heap.push PySem.W.emptyDict) (o:=PySem.W.instObj C s.heap.objs.size) rfl;rwa [Heap.size_push]at this
 have e3:(s.heap.push PySem.W.emptyDict).Ns s.heap.objs.size (fun _=>none):=⟨PySem.W.emptyDict, #[],_,e1,rfl,(fun e c=>absurd c (by simp)),fun _=>rfl⟩;have d:=I.laid (a:=s.heap.objs.size) (o:=.own (s.heap.objs.size+1)) (h':=s.heap.push PySem.W.emptyDict) (t':=s.toks) (fun b u q=>Heap.get?_push_of_some _ q) (Nat.le_refl _) ⟨_,e1⟩;refine d.laid (a:=s.heap.objs.size+1) (o:=.ins C s.heap.objs.size []) (t':=s.toks) (fun b u q=>Heap.get?_push_of_some _ q) (Nat.le_of_eq (Heap.size_push _ _)) ?_;have ne:s.heap.objs.size≠s.heap.objs.size+1:=Nat.ne_of_lt (Nat.lt_succ_self _);refine⟨by rw[AK ne,AG],Nat.zero_le _,ne,e2,fun _=>none,(Heap.Ns1.of_empty e3).at fun o q=>Heap.get?_push_of_some _ q,fun _=>True.intro,fun y g=>absurd rfl g⟩
theorem Ms{env:Env}{pos:Pos}(c:attributeBase e f env (eval e env)=eval e env)(h:wpAny (model prog w) A (eval e env) (fun o b=>wpAny (model prog w) A (getAttr o f true) Q E b) E s):wpAny (model prog w) A (eval (.Attribute e f pos) env) Q E s:=
 Attribute_any_ h (by rw[arm_eval_Attribute,c])
end
def dR(K:mw)(c:TE)(f:Str):TE:=fun d H Q=>c d H fun x b=>∃a C e fs v,x=.ref a/\b a=some (.ins C e fs)/\EA K C/\AW K C f/\fs.lookup f=some v/\Q v b
def dS(K:mw)(e g:TE)(f:Str):TS:=fun D b H=>g b H fun y h=>e b h fun x c=>∃a C d fs,x=.ref a/\c a=some (.ins C d fs)/\EA K C/\AW K C f/\fs.length<1000/\
 D.nx b (upd c a (.ins C d (Ca f y fs)))
section
variable {o value:Expr} {f:Str} {pos pos' dU:Pos} {tv:TE}
theorem BR(b:PE X e ta)(d:attributeBase e f X.env (eval e X.env)=eval e X.env):PE X (.Attribute e f pos) (dR X.K ta f):=by
 intro pins s g H Q I h;refine Ms d (Ap (b pins s g H _ I h) fun u w ⟨x,i,j,k,a,C,y,fs,v,m,p,c,n,l,q⟩=>?_);subst m;obtain rfl:u=Value.ref a:=k;exact K' j p c n l fun z A r t=>⟨v,i,r,t,q⟩
theorem BS(d:PE X o ta)(g:PE X value tv)(i:swapsWith value (some (.Attribute o f pos')) pos.line X.env=pure false):PS X (.Assign [.Attribute o f pos'] value pos) (dS X.K ta tv f):=by
 intro pins s b H D I h;refine plainObj_wpAny_Assign_Attribute (Ap (g pins s b H _ I h) fun u j k=>k.elim fun y m p r q=>Ap (d pins j b m _ p q) fun t F ⟨x,G,v,w,a,C,J,fs,z,A,c,n,l,B⟩=>?_) i;subst z;obtain rfl:t=Value.ref a:=w;exact LB v A c n l r fun L E=>⟨b,_,E,B⟩
end
section
variable {c:Value} {b:Bool}
inductive Em(K:mw)(H:Hp):V->Value->Prop where
 |Aj:Em K H .Aj (.type "NoneType")
 |bl (x:Bool):Em K H (.bl x) (.type "bool")
 |int (i:Int):Em K H (.int i) (.type "int")
 |str (x:Str):Em K H (.str x) (.type "str")
 |Ws (x:UInt64):Em K H (.Ws x) (.type "float")
 |lst {a:Addr} {xs:List V} (e:H a=some (.lst xs)):Em K H (.ref a) (.type "list")
 |CU {a:Addr} {o:Obj} {xs:List V} (e:H a=some (.CU o (.lst xs))):Em K H (.ref a) (.type "list")
 |tup {a:Addr} {xs:List V} (e:H a=some (.tup xs)):Em K H (.ref a) (.type "tuple")
 |dK {a:Addr} {kvs:List (Key×V)} (e:H a=some (.dK kvs)):Em K H (.ref a) (.type "dict")
 |dT {a:Addr} {kvs:List (List Key×V)} (e:H a=some (.dT kvs)):Em K H (.ref a) (.type "dict")
 |ins {a C d:Addr} {fs:List (Str×V)} (e:H a=some (.ins C d fs)) (cl:EA K C) (g:PySem.W.findIn K (.ref C) "__class__"=some (some (.builtin "object.__class__"))) (h:PySem.W.specialIn K (.builtin "object.__class__") "__get__"=some (some (.builtin "getset_descriptor.__get__"))) (f:PySem.W.takesIn K (.builtin "object.__class__")=some true) (j:PySem.W.mroIn K C (.type "object")=some true):Em K H (.ref a) (.ref C)
theorem CG{x:V}{t:Value}(I:Inv X pins σ H s)(d:RelV x u)(ty:Em X.K H x t)(e:PySem.W.kitOne X.K t c=some b)(h:∀tk,Q (.bool b) {s with toks:=tk}):
  wpAny (model X.prog X.w) A (call (.builtin "isinstance") [u,c]) Q E s:=by
 cases ty with
 |Aj=>cases(show u=Value.none from d);exact PySem.W.kia_one PySem.W.kitx_none I.Ck True.intro e (fun z=>nomatch z) h
 |bl y=>cases(show u=Value.bool y from d);exact PySem.W.kia_one PySem.W.kitx_bool I.Ck True.intro e (fun z=>nomatch z) h
 |int i=>obtain⟨t,q⟩:=(show∃t,u=Value.int i t from d);cases q;exact PySem.W.kia_one PySem.W.kitx_int I.Ck True.intro e (fun z=>nomatch z) h
 |str y=>obtain⟨t,q⟩:=(show∃t,u=Value.str y t from d);cases q;exact PySem.W.kia_one PySem.W.kitx_str I.Ck True.intro e (fun z=>nomatch z) h
 |Ws y=>obtain⟨t,q⟩:=(show∃t,u=Value.float y t from d);cases q;exact PySem.W.kia_one PySem.W.kitx_float I.Ck True.intro e (fun z=>nomatch z) h
 |@lst a k f=>
  cases(show u=Value.ref a from d);obtain⟨_,_,n,_,g⟩:=(show Al X.prog X.w H s.heap a (.lst k)from I.As a _ f);exact PySem.W.kia_one PySem.W.kitx_list I.Ck ⟨_,g,rfl⟩ e (fun z=>nomatch z) h
 |@CU a v k f=>
  cases(show u=Value.ref a from d);obtain⟨_,_,_,n,_,g⟩:=(show Al X.prog X.w H s.heap a (.CU v (.lst k))from I.As a _ f);exact PySem.W.kia_one PySem.W.kitx_list I.Ck ⟨_,g,rfl⟩ e (fun z=>nomatch z) h
 |@tup a k f=>
  cases(show u=Value.ref a from d);obtain⟨_,_,_,p⟩:=(show Al X.prog X.w H s.heap a (.tup k)from I.As a _ f);obtain⟨o,g,l,_⟩:=p;exact PySem.W.kia_one PySem.W.kitx_tuple I.Ck ⟨o,g,l⟩ e (fun z=>nomatch z) h
 |@dK a j f=>
  cases(show u=Value.ref a from d);obtain⟨_,_,M,_,p⟩:=(show Al X.prog X.w H s.heap a (.dK j)from I.As a _ f);obtain⟨o,B,D,g,l,_⟩:=p;exact PySem.W.kia_one PySem.W.kitx_dict I.Ck ⟨o,g,l.1⟩ e (fun z=>nomatch z) h
 |@dT a j f=>
  cases(show u=Value.ref a from d);obtain⟨_,_,k,_,o,B,D,g,l,_⟩:=(show Al X.prog X.w H s.heap a (.dT j)from I.As a _ f);exact PySem.W.kia_one PySem.W.kitx_dict I.Ck ⟨o,g,l.1⟩ e (fun z=>nomatch z) h
 |@ins a C N fs f r F G m L=>
  cases(show u=Value.ref a from d);obtain⟨P,O,_⟩:=Ez I.As f;obtain⟨R,J,_⟩:=O.look;exact PySem.W.kia_one (PySem.W.kitx_own (r.get _) r.hd F G m L) I.Ck J e (fun z=>nomatch z) h
end
structure Av(k:Nat)(A:Around):Prop where
 hd:A.handled=none
 dp:A.depth+3*k+5<recursionLimit
 un:A.units+16*k+200<cLine
 gd:A.guards=some []
theorem Av.mono{j:Nat}(r:Av k A)(h:j<=k):Av j A:=⟨r.hd,by have:=r.dp;lia,by have:=r.un;lia,r.gd⟩
theorem Av.deeper(r:Av (k+1) A)(env:Env):Av k (A.deeper env):=
 ⟨r.hd,by have:=r.dp;show A.depth+1+3*k+5<_;lia,by have:=r.un;show A.units+3+16*k+200<_;lia,r.gd⟩
theorem LC{a:List (Str×Value)}:(A.under (.builtin "type.__call__" ⟨.ref C::us,a⟩)).depth=A.depth+1:=by
 first|rfl|simp[Around.under,Code.weight,Code.isCreation,Code.isGuard,Code.isCaller,Code.frames,Code.isFrame,guardIds]
theorem LD{a:List (Str×Value)}:(A.under (.builtin "type.__call__" ⟨.ref C::us,a⟩)).units=A.units+1:=by
 first|rfl|simp[Around.under,Code.cUnits,Code.frames,Code.isFrame]
theorem Jd{f:List (Str×Value)}:(A.under (.builtin "type.__call__" ⟨.ref C::us,f⟩)).guards=A.guards:=by
 have e:(Code.builtin "type.__call__" ⟨.ref C::us,f⟩).isGuard=false:=by show guardIds.contains "type.__call__"=false;decide+kernel
 obtain⟨a,b,c,g,d⟩:=A;cases g<;>simp[Around.under,Code.guards,e,pushGuards]
theorem Av.make(r:Av (k+1) A)(C:Addr)(us:List Value)(a:List (Str×Value)):Av k (A.under (.builtin "type.__call__" ⟨.ref C::us,a⟩)):=
 ⟨r.hd,by have:=r.dp;rw[LC];lia,by have:=r.un;rw[LD];lia,by rw[Jd];exact r.gd⟩
theorem Av.depth(r:Av k A):A.depth<recursionLimit:=by have:=r.dp;lia
theorem Av.units(r:Av k A):A.units+64<cLine:=by have:=r.un;lia
theorem Av.EF(r:Av k A):A.units<cLine:=by have:=r.un;lia
def OR:TA:=fun _ H Q=>Q [] H
def FV(b:TE)(tr:TA):TA:=fun a H Q=>b a H fun x c=>tr a c fun d e=>Q (x::d) e
variable{es:List Expr}
section
variable {t:TA} {pos:Pos}
theorem AB:PA X [] OR:=fun _ _ _ _ H Q I h=>Calls.spliced_nil ⟨[],H,I,.nil,h⟩
theorem AA(c:PE X e te)(d:PA X es t)(f:starEach (e::es) X.env=(false,eval e X.env)::starEach es X.env:=by rfl):PA X (e::es) (FV te t):=by
 intro pos pins s b H Q I h;rw[f];show wpAny _ _ (spliced ((false,eval e X.env)::backTo pos (starEach es X.env))) _ _ s;refine Calls.spliced_cons (Ap (c pins s b H _ I h) fun u g a=>a.elim fun x i j k l=>?_);exact Ap (d pos pins g b i _ j l) fun r v a=>a.elim fun m n o p q=>⟨x::m,n,o,.cons k p,q⟩
def dV(t:TA):TE:=fun b H Q=>t b H fun a c=>a.length<=sizeLine/\TU c (.tup a) Q
def dW(t:TA):TE:=fun b H Q=>t b H fun a c=>a.length<=sizeLine/\TU c (.lst a) Q
theorem AF{y}(h:PA X es t):PE X (.Tuple es y pos) (dV t):=by
 intro pins s g H Q I i;refine wpAny_Tuple_spliced (Ap (h pos pins s g H _ I i) fun j a ⟨k,c,d,r,z,q⟩=>⟨by rw[<-r.length];exact z,?_⟩);have l:c a.heap.objs.size=none:=d.As.fresh (Nat.le_refl _);refine⟨.ref a.heap.objs.size,upd c a.heap.objs.size (.tup k),d.laid (t':=a.toks) (fun b u e=>Heap.get?_push_of_some _ e) (Nat.le_refl _) ?_,rfl,q _ l⟩;exact⟨z,j,r,⟨_,Heap.get?_push_size _ rfl,rfl,_,rfl⟩⟩
theorem Aa(h:PA X es t):PE X (.List es pos) (dW t):=by
 intro pins s f H Q I g;refine wpAny_List_spliced (Ap (h pos pins s f H _ I g) fun i a ⟨j,c,d,r,z,q⟩=>⟨by rw[<-r.length];exact z,?_⟩);have k:c a.heap.objs.size=none:=d.As.fresh (Nat.le_refl _);refine⟨.ref a.heap.objs.size,upd c a.heap.objs.size (.lst j),d.laid (t':=a.toks) (fun b u e=>Heap.get?_push_of_some _ e) (Nat.le_refl _) ?_,rfl,q _ k⟩;exact⟨z,i,0,r,Heap.get?_push_size _ rfl⟩
end
abbrev Sp:=List V->Hp->VK->XK->Prop
abbrev Je:=List Env->Hp->Shared->XK->Value->Shared->Prop
structure LF(P:Program)(w:World)(K:mw)(mg:Str->Option Value)(base:Heap)(A:Around)(outer:List Env)(s:Shared)(H:Hp):Prop where
 frames:A.frames=some outer
 mod:Mod K mg base
 bs:∀b o,base.get? b=some o->s.heap.get? b=some o/\H b=none
 TV:base.objs.size<=s.heap.objs.size
 EC:s.heap.FunFrames base outer
 WE:∀b∈JT outer,H b=none
 As:CS P w H s.heap
 bare:AllBare s.gens
inductive CE(outer:List Env)(P:Program)(w:World)(H:Hp)(s:Shared)(Q:VK)(u:Value)(s':Shared):Prop
 |mk(v:V)(a:Hp)(os:s'.os=s.os)(bare:AllBare s'.gens)(un:Un (JT outer) [] H a s.heap s'.heap)(b:CS P w a s'.heap)(r:RelV v u)(q:Q v a)
def CR(CX:Je)(outer:List Env)(P:Program)(w:World)(H:Hp)(s:Shared)(Q:VK)(E:XK)(r:Result)(s':Shared):Prop:=
 match r with
 | .ok (.ret u)=>CE outer P w H s Q u s'
 | .ok _=>False
 | .error e=>CX outer H s E e s'
structure AX(P:Program)(w:World)(K:mw)(mg:Str->Option Value)(base:Heap)(CX:Je)(k:Nat)(f:Addr)(fd:FuncData)(ps:List Str)(sp:Sp):Prop where
 len:∀vs H Q E,sp vs H Q E->vs.length=ps.length
 run:∀(A:Around)(outer:List Env)(s:Shared)(H:Hp)(args:Args)(us:List Value)(vs:List V)(Q:VK)(E:XK),Av k A->LF P w K mg base A outer s H->BindsTo s fd args (ps.zip us)->Vals vs us->sp vs H Q E->
  codeAny (model P w) A (.call (.ref f) args) (CR CX outer P w H s Q E) s
theorem AX.mono{P:Program}{w:World}{K:mw}{mg:Str->Option Value}{base:Heap}{CX:Je}{j k:Nat}{f:Addr}{a:FuncData}{ps:List Str}{sp:Sp}(F:AX P w K mg base CX j f a ps sp)(h:j<=k):
  AX P w K mg base CX k f a ps sp:=⟨F.len,fun A outer s H args b c Q E d=>F.run A outer s H args b c Q E (d.mono h)⟩
variable{mg:Str->Option Value}{ps:List Str}{base:Heap}{CX:Je}{sp:Sp}
theorem AX.imp{f:Addr}{b:FuncData}{a:Sp}(F:AX P w K mg base CX k f b ps sp)(h:∀vs H Q E,a vs H Q E->sp vs H Q E):AX P w K mg base CX k f b ps a:=
 ⟨fun vs H Q E q=>F.len vs H Q E (h _ _ _ _ q),fun A outer s H args c vs Q E d e g i j=>F.run A outer s H args c vs Q E d e g i (h _ _ _ _ j)⟩
variable{outer:List Env}
theorem LF.make(e:LF P w K mg base A outer s H)(C:Addr)(us:List Value)(a:List (Str×Value)):
  LF P w K mg base (A.under (.builtin "type.__call__" ⟨.ref C::us,a⟩)) outer s H:=⟨by first|exact e.frames|(simpa[Around.under,Code.envs,Code.isFrame,pushEnvs]using e.frames),e.mod,e.bs,e.TV,e.EC,e.WE,e.As,e.bare⟩
section
theorem Inv.Tj(I:Inv X pins σ H s):LF X.prog X.w X.K X.mg X.base X.A X.stack s H:=
 ⟨I.ok.frames,I.ok.mod,I.bs,Nat.le_trans I.ok.TV I.sz,I.stack,I.Dh,I.As,I.bare⟩
theorem Inv.after{Q:VK}(I:Inv X pins σ H s)(h:CE X.stack X.prog X.w H s Q u s'):EP X pins σ Q u s':=by
 obtain⟨v,e,os,bare,un,a,r,q⟩:=h;obtain⟨f,g,d,t,c⟩:=s';obtain rfl:c=s.os:=os;exact⟨v,e,I.call (h':=f) (g':=g) (d':=d) (t':=t) (ch:=[]) un a bare (fun b z=>absurd z (by simp)),r,q⟩
end
def WK(sp:Sp)(a:List V)(E:XK)(t:TA):TE:=fun b H Q=>t b H fun c d=>sp (c++a) d Q E
def aH(C:Addr)(sp:Sp)(b:List V)(E:XK)(t:TA):TE:=fun d H Q=>t d H fun e c=>∀x a,c x=none->c a=none->a≠x->
 sp (.ref x::(e++b)) (upd (upd c a (.own x)) x (.ins C a [])) (fun v f=>v=.Aj/\Q (.ref x) f) E
def Binds(K:mw)(c:FuncData)(ps:List Str)(b:List Value):Prop:=
 ∀(s:Shared)(a:List Value),K.In s.heap->(a++b).length=ps.length->BindsTo s c ⟨a,[]⟩ (ps.zip (a++b))
theorem Binds.all{a:FuncData}(h:∀us:List Value,us.length=ps.length->bindArgs a ⟨us,[]⟩=pure (ps.zip us)):Binds K a ps []:=fun s us _ b=>by
 rw[List.append_nil]at b⊢;exact .of_eq (h us b)
def Passes(CX:Je)(X:Cx)(E:XK):Prop:=∀(pins:List (Addr×Obj))(b:St)(H:Hp)(s:Shared)(e:Value)(a:Shared),Inv X pins b H s->CX X.stack H s E e a->X.xe e a
variable{vs:List V}{fd:FuncData}
section
variable {f:Addr} {OS:List V} {ds:List Value} {E:XK} {pos apos:Pos} {o:Expr} {t:TA}
theorem QK{b:St}{Q:VK}(F:AX X.prog X.w X.K X.mg X.base CX k f fd ps sp)(d:Av k X.A)(g:Binds X.K fd ps ds)(i:Vals OS ds)(j:Passes CX X E)(I:Inv X pins b H s)(r:Vals vs us)(h:sp (vs++OS) H Q E):wpAny (model X.prog X.w) X.A (call (.ref f) us) (EP X pins b Q) X.xe s:=by
 have c:Vals (vs++OS) (us++ds):=r.append i;have l:(us++ds).length=ps.length:=by rw[<-c.length];exact F.len _ _ _ _ h
 refine wpAny_call (codeAny_mono (F.run X.A X.stack s H ⟨us,[]⟩ (us++ds) (vs++OS) Q E d I.Tj (g s us I.Ck l) c h) fun r n a=>?_);cases r with
 |error e=>exact j pins b H s e n I a
 |ok q=>
  cases q with
  |ret u=>exact I.after a
  |next=>exact False.elim a
  |brk=>exact False.elim a
  |cont=>exact False.elim a
theorem Hr(F:AX X.prog X.w X.K X.mg X.base CX k f fd ps sp)(d:Av k X.A)(g:Gl X x)(i:X.mg x=some (.ref f))(j:PySem.W.keepIn X.K (.ref f)=true)(l:Binds X.K fd ps ds)(n:Vals OS ds)(u:Passes CX X E)(v:PA X (e::es) t)(a:(x==("__debug__":Str))=false:=by decide)(y:starEach (e::es) X.env=(false,eval e X.env)::starEach es X.env:=by rfl)(b:(backTo pos (starEach es X.env)).any (·.1)=false:=by rfl):
  PE X (.Call (.Name x p) (e::es) [] pos) (WK sp OS E t):=by
 intro pins s z H Q I h;refine wpAny_Call_Name_kw (DH I g i ?_ a);refine PySem.W.callWith_K (h₀:=X.base) I.ok.mod.Wt j (Ap (v pos pins s z H _ I h) fun D G B=>B.elim fun J L c r q=>⟨c.Ck,?_⟩) y b;exact QK F d l n u c r q
structure Mk(K:mw)(C f:Addr):Prop where
 makes:PySem.W.makesIn K C=true
 init:PySem.W.findIn K (.ref C) "__init__"=some (some (.ref f))
 fn:PySem.W.isFn K (.ref f)=true
 kp:PySem.W.keepIn K (.ref C)=true
theorem QL{Q:VK}(M:Mk X.K C f)(F:AX X.prog X.w X.K X.mg X.base CX k f fd ps sp)(j:Av (k+1) X.A)(l:Binds X.K fd ps ds)(n:Vals OS ds)(q:Passes CX X E)(I:Inv X pins d H s)(r:Vals vs us)(h:∀x b,H x=none->H b=none->b≠x->sp (.ref x::(vs++OS)) (upd (upd H b (.own x)) x (.ins C b [])) (fun v y=>v=.Aj/\Q (.ref x) y) E):
  wpAny (model X.prog X.w) X.A (call (.ref C) us) (EP X pins d Q) X.xe s:=by
 have g:=h (s.heap.objs.size+1) s.heap.objs.size (I.As.fresh (Nat.le_succ _)) (I.As.fresh (Nat.le_refl _)) (Nat.ne_of_lt (Nat.lt_succ_self _));have c:=Inv.made (C:=C) I;have i:Vals (V.ref (s.heap.objs.size+1)::(vs++OS)) (Value.ref (s.heap.objs.size+1)::(us++ds)):=.cons rfl (r.append n);have z:(Value.ref (s.heap.objs.size+1)::us++ds).length=ps.length:=by
  have e:=i.length;rw[F.len _ _ _ _ g]at e;exact e.symm
 refine wpAny_call (QJ (f:=f) I.Ck M.makes M.init (beq_iff_eq.mp M.fn) (codeAny_mono (F.run _ X.stack _ _ ⟨Value.ref (s.heap.objs.size+1)::us,[]⟩ (Value.ref (s.heap.objs.size+1)::(us++ds)) _ _ E (j.make C us []) (c.Tj.make C us []) (l _ (Value.ref (s.heap.objs.size+1)::us) c.Ck z) i g) fun r B a=>?_));cases r with
 |error e=>exact q pins d _ _ e B c a
 |ok D=>
  cases D with
  |ret u=>
   obtain⟨v,G,J,L,N,O⟩:=c.after a;subst N;exact⟨L,⟨V.ref (s.heap.objs.size+1),G,J,rfl,O⟩⟩
  |next=>exact False.elim a
  |brk=>exact False.elim a
  |cont=>exact False.elim a
theorem Bs(M:Mk X.K C f)(F:AX X.prog X.w X.K X.mg X.base CX k f fd ps sp)(d:Av (k+1) X.A)(g:Gl X x)(i:X.mg x=some (.ref C))(j:Binds X.K fd ps ds)(l:Vals OS ds)(n:Passes CX X E)(u:PA X (e::es) t)(a:(x==("__debug__":Str))=false:=by decide)(v:starEach (e::es) X.env=(false,eval e X.env)::starEach es X.env:=by rfl)(b:(backTo pos (starEach es X.env)).any (·.1)=false:=by rfl):
  PE X (.Call (.Name x p) (e::es) [] pos) (aH C sp OS E t):=by
 intro pins s y H Q I h;refine wpAny_Call_Name_kw (DH I g i ?_ a);refine PySem.W.callWith_K (h₀:=X.base) I.ok.mod.Wt M.kp (Ap (u pos pins s y H _ I h) fun B D z=>z.elim fun G J c r q=>⟨c.Ck,?_⟩) v b;exact QL M F d j l n c r q
end
section
variable {f:Addr} {ks:List Str} {E:XK} {pos apos iM:Pos} {o:Expr} {ka:List Keyword} {t tk:TA} {nm:Option Str}
variable{g:List Value->List Value->List Value} {gV:List V->List V->List V}
end
structure B'(N P:List Str)(sc:Scope):Prop where
 kind:sc.kind=.function:=by rfl
 co:sc.isCoroutine=false:=by rfl
 gen:sc.isGenerator=false:=by rfl
 nd:N.Nodup:=by decide+kernel
 pre:N.take P.length=P:=by rfl
 par:∀x∈P,sc.names.lookup x=some .local∨sc.names.lookup x=some .cell:=by decide+kernel
 XI:∀y∈sc.names,y.2≠.free:=by decide+kernel
theorem Gy{kindOf:Str->Option NameKind}{x:Str}:∀{binds:List (Str×Value)}{j:Str->Option Value},(∀v,(x,v)∉binds)->bindL kindOf binds j x=j x
 |[],_,_=>rfl
 |(n,v)::r,j,h=>by
  unfold bindL;rw[Gy fun w hw=>h w (List.mem_cons_of_mem _ hw)];split
  ·have:x≠n:=by rintro rfl;exact h v List.mem_cons_self
   simp[this]
  ·rfl
theorem Gz{kindOf:Str->Option NameKind}{x:Str}:∀{binds:List (Str×Value)}{j:Str->Option Value},(∀v,(x,v)∉binds)->bindC kindOf binds j x=j x
 |[],_,_=>rfl
 |(n,v)::r,j,h=>by
  unfold bindC;rw[Gz fun w hw=>h w (List.mem_cons_of_mem _ hw)];split
  ·rfl
  ·have:x≠n:=by rintro rfl;exact h v List.mem_cons_self
   simp[this]
theorem G_{kindOf:Str->Option NameKind}{x:Str}{v:Value}:∀{j:List Str}{l:List Value}{i:Nat}{q:Str->Option Value},j.Nodup->j[i]?=some x->l[i]?=some v->kindOf x=some .local->
  bindL kindOf (j.zip l) q x=some v
 |[],_,_,_,_,h,_,_=>by simp at h
 |_::_,[],_,_,_,_,h,_=>by simp at h
 |p::j,w::l,0,q,c,a,b,d=>by
  simp at a b;subst a;subst b;show bindL kindOf ((p,w)::j.zip l) q p=_;unfold bindL;rw[Gy fun v e=>(List.nodup_cons.mp c).1 (List.of_mem_zip e).1,if_pos d];simp
 |p::j,w::l,i+1,q,c,a,b,d=>by
  show bindL kindOf ((p,w)::j.zip l) q x=_;unfold bindL;exact G_ (i:=i) (List.nodup_cons.mp c).2 (by simpa using a) (by simpa using b) d
theorem G'{kindOf:Str->Option NameKind}{x:Str}{v:Value}:∀{j:List Str}{l:List Value}{i:Nat}{q:Str->Option Value},j.Nodup->j[i]?=some x->l[i]?=some v->kindOf x≠some .local->
  bindC kindOf (j.zip l) q x=some v
 |[],_,_,_,_,h,_,_=>by simp at h
 |_::_,[],_,_,_,_,h,_=>by simp at h
 |p::j,w::l,0,q,c,a,b,d=>by
  simp at a b;subst a;subst b;show bindC kindOf ((p,w)::j.zip l) q p=_;unfold bindC;rw[Gz fun v e=>(List.nodup_cons.mp c).1 (List.of_mem_zip e).1,if_neg d];simp
 |p::j,w::l,i+1,q,c,a,b,d=>by
  show bindC kindOf ((p,w)::j.zip l) q x=_;unfold bindC;exact G' (i:=i) (List.nodup_cons.mp c).2 (by simpa using a) (by simpa using b) d
def start(N:List Str)(vs:List V):St:=vs.map some++List.replicate (N.length-vs.length) none
def Eo(CX:Je)(P:Program)(w:World)(K:mw)(mg:Str->Option Value)(base:Heap)(N:List Str)(qual:Str)(scope:Scope)(f:Addr)(cd:Value)(A:Around)(outer:List Env)(s:Shared)(H:Hp)(E:XK):Cx where
 prog:=P
 w:=w
 K:=K
 mg:=mg
 base:=base
 A:=A.deeper (envOfC qual scope s.heap.objs.size f cd)
 N:=N
 s₀:=s
 H₀:=H
 env:=envOfC qual scope s.heap.objs.size f cd
 outer:=outer
 stack:=envOfC qual scope s.heap.objs.size f cd::outer
 ex:=[]
 calm:=true
 fn:=fun _=>true
 pn:=[]
 xe:=fun e s'=>wpAny (model P w) (A.deeper (envOfC qual scope s.heap.objs.size f cd)) (leaving (envOfC qual scope s.heap.objs.size f cd) e) (fun _ cU=>CX outer H s E e cU) (fun e' cU=>CX outer H s E e' cU) s'
theorem Jf{a:Scope}(h:a.names.lookup x=some .cell):∃c,(cellsFrom n a.names []).lookup x=some c:=by
 have q:=PySem.W.cellsFrom_some a.names n [] (.inl h);exact Option.isSome_iff_exists.mp q
variable{scope:Scope}
theorem OT{qual:Str}{f:Addr}{t:Value}{D:Shared}{E:XK}(S:B' N ps scope)(I:A.handled=none)(g:LF P w K mg base A outer s H)(O:vs.length=ps.length)(r:Vals vs us)(x:InCallC s s.heap.objs.size (bindL (envOfC qual scope s.heap.objs.size f t).kindOf (ps.zip us) fun _=>none) (cellsFrom (s.heap.objs.size+1) scope.names []) (bindC (envOfC qual scope s.heap.objs.size f t).kindOf (ps.zip us) fun _=>none) D):
  Inv (Eo CX P w K mg base N qual scope f t A outer s H E) [] (start N vs) H D:=by
 have J:ps.length<=N.length:=by have:=congrArg List.length S.pre;rw[List.length_take]at this;lia
 obtain⟨B,Q,rfl,F⟩:=x.done;have j:∀b:Addr,b∉(Eo CX P w K mg base N qual scope f t A outer s H E).ex:=fun b z=>absurd (show b∈([]:List Addr)from z) (by simp);refine⟨⟨g.mod,S.kind,rfl,rfl,Nat.le_refl _,fun y z c B d=>?_,fun y l=>?_,fun y c _ h=>?_,fun _=>I,Around.frames_deeper g.frames,.inr ⟨rfl,rfl⟩,fun b z=>absurd z (j b),g.bs,g.TV,fun b _ _=>j b,fun b z=>absurd z (j b),g.EC,g.WE⟩,
  rfl,g.bare,Un.kept F,⟨_,x.toInCall.ns,fun i y v B d R=>?_⟩,fun y c h=>⟨_,x.cell y c h⟩,g.As.fresh (Nat.le_refl _),fun y c h=>?_,fun p m=>absurd (show p∈([]:List (Addr×Obj))from m) (by simp),g.As.kept F,?_⟩
 ·exact name_of_addr x.apart (PySem.mem_of_lookup B) (PySem.mem_of_lookup d)
 ·have l:scope.names.lookup y=some .cell∨scope.names.lookup y=some .free:=l;rcases l with l|l
  ·exact Jf l
  ·exact absurd rfl (S.XI _ (PySem.mem_of_lookup l))
 ·exact Nat.le_of_lt (x.above y c (PySem.mem_of_lookup h))
 ·have C:i<vs.length:=by
   unfold start at d;by_cases C:i<vs.length
   ·exact C
   ·rw[List.getElem?_append_right (by simpa using C)]at d;rw[List.getElem?_replicate]at d;split at d<;>cases d
  have L:vs[i]?=some v:=by
   unfold start at d;rw[List.getElem?_append_left (by simpa using C),List.getElem?_map]at d;cases e:vs[i]? with
   |none=>rw[e]at d;cases d
   |some a=>rw[e]at d;cases d;rfl
  obtain⟨u,G,M⟩:=r.get L;have m:ps[i]?=some y:=by
   rw[<-S.pre,List.getElem?_take_of_lt (by lia)];exact B
  have o:ps.Nodup:=by rw[<-S.pre];exact S.nd.sublist (List.take_sublist _ _)
  refine⟨u,M,?_⟩;rcases S.par y (mu m)with k|k
  ·exact .inl ⟨k,G_ o m G k⟩
  ·obtain⟨c,e⟩:=Jf (n:=s.heap.objs.size+1) k;refine .inr ⟨.inl k,c,e,?_⟩;have q:=x.cell y c e;rw[G' o m G (by show scope.names.lookup y≠_;rw[k];decide)]at q;exact q
 ·exact g.As.fresh (Nat.le_of_lt (x.above y c (PySem.mem_of_lookup h)))
 ·unfold start;show _=N.length;rw[List.length_append,List.length_map,List.length_replicate];lia
theorem WL{f:Addr}{name qual:Str}{params:Arguments}{G kV j L a ct T:Value}{M od:Option Addr}{p:Array (Option Value)}(lk:K.lookup f=some ⟨T,od,.func (PySem.W.fnOf name qual params body scope G kV j L M a ct),p⟩)(z:PySem.W.codeIn K a qual=true)(S:B' N ps scope)(len:∀vs H Q E,sp vs H Q E->vs.length=ps.length)(g:∀(A:Around) (outer:List Env) (s:Shared) (H:Hp) (vs:List V) (Q:VK) (E:XK),Av k (A.deeper (envOfC qual scope s.heap.objs.size f a))->sp vs H Q E->
   ∃t,Hk (Eo CX P w K mg base N qual scope f a A outer s H E) body t/\t {nx:=fun _ d=>Q .Aj d,rt:=Q} (start N vs) H):
  AX P w K mg base CX (k+1) f (PySem.W.fnOf name qual params body scope G kV j L M a ct) ps sp:=by
 refine⟨len,fun A outer s H args U vs Q E B l X r m=>?_⟩;have Y:=len _ _ _ _ m;have O:K.In s.heap:=l.mod.Wt.keeps fun b o e=>(l.bs b o e).1;have C:s.heap.NoLimit:=l.mod.nolimit.keeps fun b o e=>(l.bs b o e).1;have h:∀y∈ps.zip U,scope.names.lookup y.1=some .local∨(scope.names.lookup y.1=some .cell/\((cellsFrom (s.heap.objs.size+1) scope.names []).lookup y.1).isSome=true):=fun⟨n,v⟩ Z=>by
  rcases S.par n (List.of_mem_zip Z).1 with q|q
  ·exact .inl q
  ·exact .inr ⟨q,PySem.W.cellsFrom_some _ _ _ (.inl q)⟩
 refine codeAny_call_function B.depth (O _ _ lk) rfl S.co S.gen rfl (PySem.W.codeRec_of O z) (X _ _ _ _ ?_);refine wpAny_newFunctionEnv_cells S.kind h fun env he R x=>?_;subst he;refine⟨C.keeps x.toInCall.keep,codeAny_func ?_⟩;obtain⟨t,ht,hq⟩:=g A outer s H vs Q E (B.deeper _) m;have I:Inv (Eo CX P w K mg base N qual scope f a A outer s H E) [] (start N vs) H R:=OT S B.hd l Y r x;refine wpAny_mono (ht [] R (start N vs) H _ I hq) (fun fl D i=>?_) fun e D i=>i;have fin:∀{c:St}{d:Hp}{v:V}{u:Value},Inv (Eo CX P w K mg base N qual scope f a A outer s H E) [] c d D->RelV v u->Q v d->CE outer P w H s Q u D:=
  fun{c d v u} J F q=>⟨v,d,J.os,J.bare,J.base,J.As,F,q⟩
 cases fl with
 |ret u=>
  obtain⟨v,c,d,J,F,q⟩:=i;exact fin J F q
 |next=>
  obtain⟨c,d,J,q⟩:=i;exact fin (v:=V.Aj) (u:=Value.none) J rfl q
 |brk=>
  obtain⟨_,_,_,q⟩:=i;exact False.elim q
 |cont=>
  obtain⟨_,_,_,q⟩:=i;exact False.elim q
section
variable {pos:Pos} {t:TA} {id T:String} {r:List V->Hp->VK->Prop}
def cV(r:List V->Hp->VK->Prop)(t:TA):TE:=fun a H Q=>t a H fun b c=>r b c Q
theorem Aq(d:BF X (.builtin id) r)(f:Gl X x)(g:X.mg x=none)(i:bootBuiltins x=some (.builtin id))(j:PA X (e::es) t)(k:x≠"__name__":=by decide)(a:(x==("__debug__":Str))=false:=by decide)(l:starEach (e::es) X.env=(false,eval e X.env)::starEach es X.env:=by rfl)(b:(backTo pos (starEach es X.env)).any (·.1)=false:=by rfl):PE X (.Call (.Name x p) (e::es) [] pos) (cV r t):=by
 intro pins s c H Q I h;refine wpAny_Call_Name_kw (FQ I f g i ?_ k a);exact PyProof.Rows.callWith_builtin1 (Ap (j pos pins s c H _ I h) fun m n o=>o.elim fun q u v w y=>d pins n c u q m Q v w y) l b
theorem DI(d:BF X (.type T) r)(f:Gl X x)(g:X.mg x=none)(i:bootBuiltins x=some (.type T))(j:PA X (e::es) t)(k:x≠"__name__":=by decide)(a:(x==("__debug__":Str))=false:=by decide)(l:starEach (e::es) X.env=(false,eval e X.env)::starEach es X.env:=by rfl)(b:(backTo pos (starEach es X.env)).any (·.1)=false:=by rfl):PE X (.Call (.Name x p) (e::es) [] pos) (cV r t):=by
 intro pins s c H Q I h;refine wpAny_Call_Name_kw (FQ I f g i ?_ k a);exact PyProof.Rows.callWith_type1 (Ap (j pos pins s c H _ I h) fun m n o=>o.elim fun q u v w y=>d pins n c u q m Q v w y) l b
end
end L2
namespace HT
open PySem PyProof.Rows
section
open PySem.SeqAt
open PySem.AutoSeq1 (wpAny_loadPart')
open PySem.MeetsSeq PySem.MeetsSeq2 PySem.MeetsSeq3
end
variable{Q:Value->Shared->Prop}
section
variable{prog:Program} {w:World} {A:Around} {E:Value->Shared->Prop} {s:Shared}
theorem Tn{t b:Addr}{vs a:List Value}(u:IsTup s.heap t vs.toArray)(v:IsTup s.heap b a.toArray)(k:vs≠[])(x:a=[]->Q (.ref t) s)(y:a≠[]->Q (.ref s.heap.objs.size) {s with heap:=s.heap.push {cls:=.type "tuple",data:=.seq (vs++a).toArray}})(j:vs.length+a.length<=sizeLine):wpAny (model prog w) A (binaryOp .Add (.ref t) (.ref b)) Q E s:=by
 obtain⟨⟨cls,l,data,m⟩,i,o,n,p⟩:=id u;obtain⟨⟨q,d,data2,f⟩,c,g,r,h⟩:=id v;simp only at o p g h;subst o p g h;have e:vs.toArray++a.toArray=(vs++a).toArray:=by simp
 by_cases hw:a=[]
 ·exact concat_meets ⟨_,i,rfl⟩ ⟨_,c,rfl⟩ noFill_tuple_add seq_tuple_add PySem.F.slot_tuple_add PySem.F.entry_tuple_add (PySem.F.args_tuple_add_2 _ _) (tuple_addW1 t b vs.toArray a.toArray n r l d m f (by simpa using k) (by simp[hw])) ⟨i,c,x hw⟩
 ·refine concat_meets ⟨_,i,rfl⟩ ⟨_,c,rfl⟩ noFill_tuple_add seq_tuple_add PySem.F.slot_tuple_add PySem.F.entry_tuple_add (PySem.F.args_tuple_add_2 _ _) (tuple_addW2 t b vs.toArray a.toArray n r l d m f (by simpa using k) (by simpa using hw) (by rw[List.size_toArray,List.size_toArray];exact j)) ⟨i,c,?_⟩;rw[e];exact y hw
noncomputable def BU(n d:Nat):Option Int->Nat
 |none=>d
 |some v=>if v<0 then(v+(n:Int)).toNat else min v.toNat n
theorem To(n d k:Nat):BU n d (some (k:Int))=min k n:=by
 show(if(k:Int)<0 then((k:Int)+(n:Int)).toNat else min (k:Int).toNat n)=min k n;rw[if_neg (by lia),Int.toNat_natCast]
theorem XJ(n d:Nat)(b:d<=n)(o:Option Int):BU n d o<=n:=by
 cases o with
 |none=>exact b
 |some v=>
  show(if v<0 then(v+(n:Int)).toNat else min v.toNat n)<=n;by_cases a:v<0
  ·rw[if_pos a];lia
  ·rw[if_neg a];exact Nat.min_le_right _ _
theorem Mt(v:Int)(n d:Nat):(if v<0 then max (v+(n:Int)) 0 else min v (n:Int))=((BU n d (some v):Nat):Int):=by
 show(if v<0 then max (v+(n:Int)) 0 else min v (n:Int))=(((if v<0 then(v+(n:Int)).toNat else min v.toNat n):Nat):Int);by_cases a:v<0
 ·simp only[if_pos a];exact(Int.toNat_eq_max _).symm
 ·simp only[if_neg a];obtain⟨m,rfl⟩:=Int.eq_ofNat_of_zero_le (Int.not_lt.mp a);show min (m:Int) (n:Int)=((min m n:Nat):Int);by_cases h:m<=n
  ·rw[Nat.min_eq_left h,Int.min_eq_left (Int.ofNat_le.mpr h)]
  ·rw[Nat.min_eq_right (Nat.le_of_not_le h),Int.min_eq_right (Int.ofNat_le.mpr (Nat.le_of_not_le h))]
theorem LG(lo a:Option Int)(n:Nat):Builtin.Slice.sliceAdjust lo a 1 (n:Int)=(((BU n 0 lo:Nat):Int),((BU n n a:Nat):Int)):=by
 have b:¬((1:Int)<0):=by lia
 unfold Builtin.Slice.sliceAdjust;simp only[b,if_false];refine Prod.ext ?_ ?_
 ·cases lo with
  |none=>rfl
  |some v=>exact Mt v n 0
 ·cases a with
  |none=>rfl
  |some v=>exact Mt v n n
theorem LH(i j:Nat):Builtin.Slice.slicePlaces (i:Int) (j:Int) 1=j-i:=by
 unfold Builtin.Slice.slicePlaces;have a:(1:Int)>0:=by lia
 simp only[a,if_true,Int.ediv_one];split<;>lia
theorem FW{v:Value}{o:Option Int}{Q:Option Int->Shared->Prop}(p:IsPart v o)(h:Q o s):wpAny (model prog w) A (Builtin.Slice.slicePartIndex v) Q E s:=by
 cases p with
 |none=>exact slicePart_none h
 |int i t=>exact slicePart_int h
theorem CH{f:Addr}{d e:Value}{lo a:Option Int}{n:Nat}{Q:Int×Int×Nat->Shared->Prop}(g:s.heap.IsSliceOf f d e .none)(pl:IsPart d lo)(i:IsPart e a)(h:Q (((BU n 0 lo:Nat):Int),1,BU n n a-BU n 0 lo) s):wpAny (model prog w) A (Builtin.Slice.sliceApplied (.ref f) (pure (n:Int))) Q E s:=by
 obtain⟨os,b,j,c⟩:=id g;unfold Builtin.Slice.sliceApplied Builtin.Slice.sliceFields;refine wpAny_bind (wpAny_bind (wpAny_field b c (x:=d) rfl (wpAny_bind (wpAny_field b c (x:=e) rfl (wpAny_bind (wpAny_field b c (x:=.none) rfl (wpAny_pure ?_)))))));refine wpAny_bind (slicePart_none ?_);show wpAny _ _ (if((1:Int)==0)=true then _ else _) _ _ s;rw[if_neg (by decide)];refine wpAny_bind (FW pl (wpAny_bind (FW i (wpAny_bind (wpAny_pure ?_)))));show wpAny _ _ (match Builtin.Slice.sliceAdjust lo a 1 (n:Int)with|(lo,a)=>pure (lo,(1:Int),Builtin.Slice.slicePlaces lo a 1)) _ _ s;rw[LG lo a n];show wpAny _ _ (pure (((BU n 0 lo:Nat):Int),(1:Int),Builtin.Slice.slicePlaces ((BU n 0 lo:Nat):Int) ((BU n n a:Nat):Int) 1)) _ _ s;rw[LH];exact wpAny_pure h
theorem QM(xs:Array Value)(i k:Nat):((List.range k).filterMap fun(m:Nat)=>xs[((i:Int)+(m:Int)*1).toNat]?).toArray=((xs.toList.drop i).take k).toArray:=by
 have e:(fun(m:Nat)=>xs[((i:Int)+(m:Int)*1).toNat]?)=fun m=>xs[i+m]?:=by
  funext m;have:((i:Int)+(m:Int)*1).toNat=i+m:=by lia
  rw[this]
 rw[e];have:=pick_run xs i k;rw[List.filterMap_map]at this;have e2:((fun x=>xs[x]?)∘fun x=>i+x)=fun m=>xs[i+m]?:=rfl;rw[e2]at this;rw[this]
theorem Dl{t d:Addr}{items:Array Value}{j k:Value}{lo b:Option Int}(c:IsTup s.heap t items)(l:s.heap.IsSliceOf d j k .none)(pl:IsPart j lo)(n:IsPart k b)(hw:¬(BU items.size 0 lo=0/\BU items.size items.size b=items.size))(h:Q (.ref s.heap.objs.size) {s with heap:=s.heap.push {cls:=.type "tuple",data:=.seq ((items.toList.drop (BU items.size 0 lo)).take (BU items.size items.size b-BU items.size 0 lo)).toArray}})(o:items.size<=sizeLine):wpAny (model prog w) A (getItem (.ref t) (.ref d)) Q E s:=by
 have a:sizeOk (.seq ((items.toList.drop (BU items.size 0 lo)).take (BU items.size items.size b-BU items.size 0 lo)).toArray):=by
  show((items.toList.drop (BU items.size 0 lo)).take (BU items.size items.size b-BU items.size 0 lo)).toArray.size<=sizeLine;rw[List.size_toArray,List.length_take,List.length_drop,Array.length_toList];lia
 have r:BU items.size items.size b<=items.size:=XJ _ _ (Nat.le_refl _) b;obtain⟨os,e,f,p⟩:=id l;have g:s.TypeIs (.ref d) "slice":=⟨os,e,f⟩;unfold getItem
 try with_reducible refine wpAny_holding ?_
 first|refine wpAny_bind (wpAny_pure ?_)|skip
 refine wpAny_bind (wpAny_sequenceKey c.typeIs (by decide) ?_);refine wpAny_bind (wpAny_callSpecial?_slot (name:=Str.ofString "__getitem__") c.typeIs PyProof.Rows.slot_tuple_getitem (wpAny_call_entry PyProof.Rows.slot_tuple_getitem c.typeIs entry_tuple_getitem ?_ (args_tuple_getitem _ _)));show wpAny _ _ (Builtin.Tuple.tupleItemsOf (.ref t)>>=_) _ _ s;refine wpAny_bind (tupleItemsOf_ c ?_);refine wpAny_bind (wpAny_typeOf g ?_);rw[if_pos (by decide)];refine wpAny_bind (CH l pl n ?_);have i:¬((((BU items.size 0 lo:Nat):Int)==0&&(1:Int)==1&&(BU items.size items.size b-BU items.size 0 lo)==items.size)=true):=by
  intro q;rw[Bool.and_eq_true,Bool.and_eq_true]at q;have u:((BU items.size 0 lo:Nat):Int)=0:=eq_of_beq q.1.1;have v:BU items.size items.size b-BU items.size 0 lo=items.size:=eq_of_beq q.2;exact hw ⟨by lia,by lia⟩
 show wpAny _ _ (if(((BU items.size 0 lo:Nat):Int)==0&&(1:Int)==1&&(BU items.size items.size b-BU items.size 0 lo)==items.size)=true then _ else _) _ _ s;rw[if_neg i,QM]
 first
  |exact wpAny_bind (m:=Builtin.Tuple.tupleExact _) (wpAny_newObj_type (wpAny_pure ⟨_,rfl,wpAny_pure h⟩) a)
  |exact wpAny_bind (m:=Builtin.Tuple.tupleExact _) (wpAny_newObj_type (wpAny_bind (wpAny_pure (wpAny_pure ⟨_,rfl,wpAny_pure h⟩))) a)
  |exact wpAny_bind (wpAny_bind (m:=Builtin.Tuple.tupleExact _) (wpAny_newObj_type (wpAny_pure (wpAny_pure ⟨_,rfl,wpAny_pure h⟩)) a))
  |exact wpAny_bind (wpAny_bind (m:=Builtin.Tuple.tupleExact _) (wpAny_newObj_type (wpAny_pure ⟨_,rfl,wpAny_pure h⟩) a))
end
end HT
namespace L2
open PySem PySem.Spec PyProof.Rows
abbrev TO:=St->Hp->(Option Int->Hp->Prop)->Prop
def PO(X:Cx)(e:Option Expr)(t:TO):Prop:=
 ∀(pins:List (Addr×Obj))(s:Shared)(a:St)(H:Hp)(Q:Option Int->Hp->Prop),Inv X pins a H s->t a H Q->
  wpAny (model X.prog X.w) X.A (evalPart e X.env) (fun u c=>∃o b,Inv X pins a b c/\IsPart u o/\Q o b) X.xe s
def Tp:TO:=fun _ H Q=>Q none H
def aI(t:TE):TO:=fun a H Q=>t a H fun x b=>iD x b Q
variable{X:Cx}{us:List Value}{e:Expr}
section
variable {te:TE} {lo hi:Option Expr} {tl th:TO} {pos p2:Pos}
theorem DJ:PO X none Tp:=by
 intro pins s a H Q I h;rw[evalPart_none];exact wpAny_pure ⟨none,H,I,.none,h⟩
theorem CA(h:PE X e te):PO X (some e) (aI te):=by
 intro pins s a H Q I hw;rw[evalPart_some];refine Ap (h pins s a H _ I hw) fun u j b=>b.elim fun x c d f g=>?_;obtain⟨i,rfl,q⟩:=g;obtain⟨t,rfl⟩:=f;exact⟨some i,c,d,.int i t,q⟩
def cW(X:Cx)(r:V->Option Int->Option Int->Hp->VK->Prop):Prop:=
 ∀(pins:List (Addr×Obj))(s:Shared)(a:St)(H:Hp)(x:V)(v b c:Value)(lo hi:Option Int)(d:Addr)(Q:VK),Inv X pins a H s->RelV x v->s.heap.IsSliceOf d b c .none->IsPart b lo->IsPart c hi->r x lo hi H Q->
  ∃T id,typeLookup (.type T) "__getitem__"=pure (some (.builtin id))/\s.TypeIs v T/\wpAny (model X.prog X.w) X.A (getItem v (.ref d)) (EP X pins a Q) X.xe s
def iN(r:V->Option Int->Option Int->Hp->VK->Prop)(te:TE)(tl th:TO):TE:=fun a H Q=>te a H fun x b=>tl a b fun l c=>th a c fun u d=>r x l u d Q
theorem Bt{r:V->Option Int->Option Int->Hp->VK->Prop}(i:cW X r)(j:PE X e te)(k:PO X lo tl)(m:PO X hi th):PE X (.Subscript e (.Slice lo hi none p2) pos) (iN r te tl th):=by
 intro pins s c H Q I h;refine Subscript_ (Ap (j pins s c H _ I h) fun v n o=>o.elim fun x p t y z=>?_);refine wpAny_Slice (Ap (k pins n c p _ t z) fun d B ⟨l,C,D,E,F⟩=>Ap (m pins B c C _ D F) fun f a ⟨u,g,G,J,K⟩=>?_);rw[evalPart_none];refine wpAny_pure ?_;have L:Inv X pins c g {a with heap:=a.heap.push {cls:=.type "slice",data:=.fields #[d,f,.none]}}:=G.kept (t':=a.toks) fun b P q=>Heap.get?_push_of_some _ q;obtain⟨T,id,M,N,O⟩:=i pins {a with heap:=a.heap.push {cls:=.type "slice",data:=.fields #[d,f,.none]}} c g x v d f l u a.heap.objs.size Q L y (Heap.IsSliceOf.new ..) E J K;show wpAny (model X.prog X.w) X.A (subscriptTail e (.Slice lo hi none p2) v (.ref a.heap.objs.size)) (EP X pins c Q) X.xe {a with heap:=a.heap.push {cls:=.type "slice",data:=.fields #[d,f,.none]}};exact tail_any (ops:=[.ref a.heap.objs.size,v]) N M O (by with_unfolding_all rfl)
def EG(xs:List V)(lo hi:Option Int):List V:=(xs.drop (HT.BU xs.length 0 lo)).take (HT.BU xs.length xs.length hi-HT.BU xs.length 0 lo)
theorem Ee(xs:List V)(lo hi:Option Int):(EG xs lo hi).length<=xs.length:=by
 unfold EG;rw[List.length_take,List.length_drop];lia
inductive aJ(K:mw)(x:V)(lo hi:Option Int)(H:Hp)(Q:VK):Prop
 |mk(a xs:_)(b:x=.ref a)(c:BA K H a xs)(d:¬(HT.BU xs.length 0 lo=0/\HT.BU xs.length xs.length hi=xs.length))(f:∀p,H p=none->Q (.ref p) (upd H p (.tup (EG xs lo hi))))
def dX(K:mw):V->Option Int->Option Int->Hp->VK->Prop:=fun x lo hi H Q=>aJ K x lo hi H Q
theorem XM:cW X (dX X.K):=by
 intro pins s n H x v p t lo hi u Q I i j k l h;obtain⟨a,c,rfl,m,hw,q⟩:=h;cases i;obtain⟨d,r,f,g⟩:=I.tuple m;have hlen:d.toArray.size=c.length:=by rw[List.size_toArray];exact r.length.symm
 refine⟨"tuple",_,PyProof.Rows.slot_tuple_getitem.lookup,f.typeIs,?_⟩;refine HT.Dl f j k l (by rw[hlen];exact hw) ?_ (by rw[hlen];exact g);rw[hlen];refine⟨.ref s.heap.objs.size,_,I.laid (t':=s.toks) (o:=.tup (EG c lo hi)) (fun b w q=>Heap.get?_push_of_some _ q) (Nat.le_refl _) ?_,rfl,q _ (I.As.fresh (Nat.le_refl _))⟩;exact⟨Nat.le_trans (Ee c lo hi) g,_,(r.drop (HT.BU c.length 0 lo)).take (HT.BU c.length c.length hi-HT.BU c.length 0 lo),IsTup.new _ _⟩
inductive XN(K:mw)(x y:V)(H:Hp)(Q:VK):Prop
 |mk(a b xs ys:_)(c:x=.ref a)(d:y=.ref b)(f:BA K H a xs)(g:BA K H b ys)(h:xs≠[])(i:xs.length+ys.length<=sizeLine)(j:(ys=[]->Q (.ref a) H))(k:(ys≠[]->∀p,H p=none->Q (.ref p) (upd H p (.tup (xs++ys)))))
def aK(K:mw):R2:=fun x y H Q=>XN K x y H Q
theorem Vals.Dm{xs:List V}(r:Vals xs us):us=[]↔xs=[]:=by
 cases r with
 |nil=>simp
 |cons _ _=>simp
theorem Tq:Cq X (binaryOp .Add) (aK X.K):=by
 intro pins s C H x y v u Q I i j h;obtain⟨a,b,k,l,rfl,rfl,m,n,p,f,r,t⟩:=h;cases i;cases j;obtain⟨A,d,B,_⟩:=I.tuple m;obtain⟨g,c,p2,_⟩:=I.tuple n;refine HT.Tn B p2 (fun z=>p (d.Dm.mp z)) (fun z=>⟨.ref a,H,I,rfl,r (c.Dm.mp z)⟩) (fun z=>?_) (by rw[<-d.length,<-c.length];exact f);refine⟨.ref s.heap.objs.size,_,I.laid (t':=s.toks) (o:=.tup (k++l)) (fun b D q=>Heap.get?_push_of_some _ q) (Nat.le_refl _) ?_,rfl,t (fun w=>z (c.Dm.mpr w)) _ (I.As.fresh (Nat.le_refl _))⟩;exact⟨by rw[List.length_append];exact f,_,d.append c,IsTup.new _ _⟩
end
def QN(n:Nat)(i:Int):Option Nat:=if 0<=i then(if i<n then some i.toNat else none)else if-(n:Int)<=i then some (i+n).toNat else none
def Hs{a:Type}(xs:List a)(i:Int):Option a:=(QN xs.length i).bind fun j=>xs[j]?
variable{n:Nat}
theorem Ht{i:Int}{j:Nat}(h:QN n i=some j):seqIndex? i n=some j/\j<n/\ -(n:Int)<=i/\i<n:=by
 unfold QN at h;by_cases b:0<=i
 ·rw[if_pos b]at h;by_cases a:i<n
  ·rw[if_pos a]at h;have e:i.toNat=j:=mr h;exact⟨by rw[seqIndex_of b a,e],by lia,by lia,a⟩
  ·rw[if_neg a]at h;cases h
 ·rw[if_neg b]at h;by_cases a: -(n:Int)<=i
  ·rw[if_pos a]at h;have e:(i+n).toNat=j:=mr h;exact⟨by rw[seqIndex_neg (by lia) a,e],by lia,a,by lia⟩
  ·rw[if_neg a]at h;cases h
theorem Dn{a:Type}{xs:List a}{i:Int}{v:a}(h:Hs xs i=some v):∃j,seqIndex? i xs.length=some j/\xs[j]?=some v/\j<xs.length/\ -(xs.length:Int)<=i/\i<xs.length:=by
 unfold Hs at h;cases e:QN xs.length i with
 |none=>rw[e]at h;cases h
 |some j=>
  rw[e]at h;obtain⟨b,c,d,f⟩:=Ht e;exact⟨j,b,h,c,d,f⟩
theorem BJ{a:Type}{xs:List a}{j:Nat}{v:a}(h:xs[j]?=some v):Hs xs (j:Int)=some v:=by
 have b:j<xs.length:=(mq h).1;have e:QN xs.length (j:Int)=some j:=by
  unfold QN;rw[if_pos (by lia),if_pos (by lia)];simp
 unfold Hs;rw[e];exact h
theorem Jg{a:Type}(xs:List a)(v:a):Hs (xs++[v]) (-1)=some v:=by
 have b:(xs++[v]).length=xs.length+1:=by simp
 have e:QN (xs++[v]).length (-1)=some xs.length:=by
  unfold QN;rw[b,if_neg (by decide),if_pos (by lia)];congr 1;lia
 unfold Hs;rw[e];show(xs++[v])[xs.length]?=some v;simp
def Mu(b:Expr):Prop:=∀o i,subscripted b false o i=operate [o,i] (getItem o i)
def cX(X:Cx)(r:R2):Prop:=
 ∀(value slice:Expr)(pins:List (Addr×Obj))(s:Shared)(a:St)(H:Hp)(x y:V)(v u:Value)(Q:VK),Inv X pins a H s->RelV x v->RelV y u->r x y H Q->
  subscripted slice false v u=operate [v,u] (getItem v u)->wpAny (model X.prog X.w) X.A (subscriptTail value slice v u) (EP X pins a Q) X.xe s
def dY(X:Cx)(id:String)(r:V->List V->Hp->VK->Prop):Prop:=
 ∀(pins:List (Addr×Obj))(s:Shared)(a:St)(H:Hp)(x:V)(b:List V)(v:Value)(c:List Value)(Q:VK),Inv X pins a H s->RelV x v->Vals b c->r x b H Q->
  wpAny (model X.prog X.w) X.A (call (.builtin id) (v::c)) (EP X pins a Q) X.xe s
variable{pins:List (Addr×Obj)}{s:Shared}{u:Value}{H:Hp}{A:Around}{y:V}{its:List Value}{T:String}
section
variable {a b:Expr} {ta tb:TE} {pos:Pos}
theorem BH{r:R2}(c:cX X r)(d:PE X a ta)(e:PE X b tb)(f:Mu b):PE X (.Subscript a b pos) (Zj r ta tb):=by
 intro pins s g H Q I h;exact Subscript_ (XD d e I h fun v u i x y j k l m q=>c a b pins i g j x y v u Q k l m q (f _ _))
inductive aM(K:mw)(x y:V)(H:Hp)(Q:VK):Prop
 |mk(p xs i v:_)(c:x=.ref p)(d:y=.int i)(e:BC K H p xs)(f:Hs xs i=some v)(g:Q v H)
def Cn(K:mw):R2:=fun x y H Q=>aM K x y H Q
inductive aN(K:mw)(x y:V)(H:Hp)(Q:VK):Prop
 |mk(p xs i v:_)(c:x=.ref p)(d:y=.int i)(e:BA K H p xs)(f:Hs xs i=some v)(g:Q v H)
def Ts(K:mw):R2:=fun x y H Q=>aN K x y H Q
inductive aO(x y:V)(H:Hp)(Q:VK):Prop
 |mk(z i c:_)(d:x=.str z)(e:y=.int i)(f:z.length<=sizeLine)(g:Hs z.cps.toList i=some c)(h:Q (.str ⟨#[c]⟩) H)
def dZ:R2:=fun x y H Q=>aO x y H Q
theorem Az:cX X (Cn X.K):=by
 intro value slice pins s k H x y v u Q I o A h l;obtain⟨p,L,i,z,rfl,rfl,B,C,q⟩:=h;cases o;obtain⟨t,rfl⟩:=A;obtain⟨d,r,e,M⟩:=I.list B;obtain⟨j,c,D,N,E,F⟩:=Dn C;obtain⟨w,m,f⟩:=r.get D;have G:=r.length;have O:=DW;have fin:EP X pins k Q w s:=⟨z,H,I,f,q⟩;by_cases n:0<=i
 ·have g:i.toNat=j:=by
   rw[seqIndex_of n F]at c;exact mr c
  exact item_listR e.isList n (by lia) (by rw[g];simpa using m) fin l
 ·have g:(i+(d.toArray.size:Int)).toNat=j:=by
   rw[seqIndex_neg (by lia) E]at c;rw[List.size_toArray,<-G];exact mr c
  exact subscriptTail_builtinR (x:=w) e.isList.typeIs slot_list_getitem.lookup (wpAny_getItem_list_neg (Q:=fun r J=>r=w/\EP X pins k Q r J) e.isList (by lia) (by rw[List.size_toArray]<;>lia) (by lia) (by rw[g];simpa using m) ⟨rfl,fin⟩) l
theorem LI:cX X (Ts X.K):=by
 intro value slice pins s d H x y v u Q I f g h k;obtain⟨p,E,i,z,rfl,rfl,l,m,q⟩:=h;cases f;obtain⟨t,rfl⟩:=g;obtain⟨n,r,e,F⟩:=I.tuple l;obtain⟨j,o,A,G,J,L⟩:=Dn m;obtain⟨w,B,c⟩:=r.get A;have C:=r.length;have M:=DW;have fin:EP X pins d Q w s:=⟨z,H,I,c,q⟩;exact subscriptTail_builtinR (x:=w) e.typeIs slot_tuple_getitem.lookup (getItem_tuple (j:=j) (Q:=fun r D=>r=w/\EP X pins d Q r D) e (by lia) (by lia) (by rw[List.size_toArray,<-C];exact o) (by simpa using B) ⟨rfl,fin⟩) k
theorem LJ:cX X dZ:=by
 intro value slice pins s p H x y v u Q I e f h g;obtain⟨z,i,c,rfl,rfl,r,k,q⟩:=h;obtain⟨t,rfl⟩:=e;obtain⟨w,rfl⟩:=f;obtain⟨j,d,l,A,m,n⟩:=Dn k;have o:z.cps.toList.length=z.length:=by simp[Str.length]
 rw[o]at d m n;have B:=DW;exact tail_any (typeIs_str s z t) slot_str_getitem.lookup (getItem_str (c:=c) (by
  have e1:decide (i< -(2 ^ 63:Int))=false:=decide_eq_false (by lia);have e2:decide (i≥2 ^ 63)=false:=decide_eq_false (by lia);rw[e1,e2,Bool.or_false]) (by rw[d];simpa using l) ⟨.str ⟨#[c]⟩,H,I.tok _,⟨_,rfl⟩,q⟩) g
theorem LK(its:List Value)(n j:Nat)(u:Value):Obj.mapSeq (·.setIfInBounds j u) {cls:=.type "list",data:=.seq its.toArray n}={cls:=.type "list",data:=.seq (its.set j u).toArray n}:=by
 simp[Obj.mapSeq]
theorem Inv.lst{pins:List (Addr×Obj)}{c:St}{H:Hp}{s:Shared}{p:Addr}{xs:List V}(I:Inv X pins c H s)(h:H p=some (.lst xs)):
  ∃(its:List Value)(n:Nat),Vals xs its/\s.heap.get? p=some {cls:=.type "list",data:=.seq its.toArray n}/\xs.length<=sizeLine:=by
 obtain⟨z,its,n,r,e⟩:=I.As p _ h;exact⟨its,n,r,e,z⟩
theorem Inv.XO{c:St}{p:Addr}{xs ys:List V}{its':List Value}{n':Nat}{f:Obj->Obj}(I:Inv X pins c H s)(h:H p=some (.lst xs))(g:s.heap.get? p=some {cls:=.type "list",data:=.seq its.toArray n})(d:f {cls:=.type "list",data:=.seq its.toArray n}={cls:=.type "list",data:=.seq its'.toArray n'})(r:Vals ys its')(i:ys.length<=sizeLine)(t:Nat):
  Inv X pins c (upd H p (.lst ys)) {s with heap:=s.heap.update p f,toks:=t}:=by
 have e:(s.heap.update p f).get? p=some {cls:=.type "list",data:=.seq its'.toArray n'}:=by
  rw[Heap.get?_update_self f g (by rw[d]<;>rfl),d]
 refine I.write (x:=p) (e:=p) (by rw[h];trivial) (.inl rfl) (fun b u j q=>(Heap.get?_update_other _ _ (Ne.symm j)).trans q) ⟨_,e⟩ ?_;exact⟨i,its',n',r,e⟩
inductive XP(o i v:V)(H:Hp)(Q:(Hp->Prop)):Prop
 |mk(p xs k j:_)(c:o=.ref p)(d:i=.int k)(e:H p=some (.lst xs))(f:QN xs.length k=some j)(g:Q (upd H p (.lst (xs.set j v))))
def aP:V->V->V->Hp->(Hp->Prop)->Prop:=fun o i v H Q=>XP o i v H Q
theorem set_list:Zy X aP:=by
 intro pins s z H o i v G J u Q I A B C h;obtain⟨p,D,k,j,rfl,rfl,l,E,q⟩:=h;cases A;obtain⟨t,rfl⟩:=B;obtain⟨c,n,r,e,F⟩:=I.lst l;obtain⟨d,K,m,w⟩:=Ht E;have f:=r.length;have L:=DW;have x:Inv X pins z (upd H p (.lst (D.set j v))) {s with heap:=s.heap.update p (Obj.mapSeq (·.setIfInBounds j u))}:=
  I.XO l e (LK c n j u) (r.set C j) (by rw[List.length_set];exact F) s.toks
 by_cases y:0<=k
 ·have g:k.toNat=j:=by
   rw[seqIndex_of y w]at d;exact mr d
  exact PySem.W.ki_setAt e y (by lia) (by rw[List.size_toArray,<-f];exact w) (by rw[g];exact⟨_,x,q⟩)
 ·have g:(k+(c.toArray.size:Int)).toNat=j:=by
   rw[seqIndex_neg (by lia) m]at d;rw[List.size_toArray,<-f];exact mr d
  exact PySem.W.ki_setBack e (by lia) (by rw[List.size_toArray,<-f];exact m) (by lia) (by rw[g];exact⟨_,x,q⟩)
noncomputable def BI:V->Bool
 | .Aj=>true
 | .bl _=>true
 | .int _=>true
 | .str _=>true
 |_=>false
noncomputable def OU:V->V->Bool
 | .Aj,.Aj=>true
 | .bl a,.bl b=>a==b
 | .bl a,.int b=>(if a then 1 else 0)==b
 | .int a,.bl b=>a==(if b then 1 else 0)
 | .int a,.int b=>a==b
 | .str a,.str b=>a==b
 |_,_=>false
theorem LL{x:V}{v:Value}(e:RelV y u)(c:RelV x v)(g:BI y=true)(f:BI x=true):SeqAt.EqAt A s u v (OU y x):=by
 cases y with
 |Aj=>
  cases e;cases x with
  |Aj=>cases c;exact SeqAt.EqAt.same _
  |bl b=>cases c;exact SeqAt.EqAt.none_bool b
  |int b=>obtain⟨t,rfl⟩:=c;exact SeqAt.EqAt.none_int b t
  |str b=>obtain⟨t,rfl⟩:=c;exact SeqAt.EqAt.none_str b t
  |_=>exact absurd (show false=true from f) Bool.false_ne_true
 |bl a=>
  cases e;cases x with
  |Aj=>cases c;exact SeqAt.EqAt.bool_none a
  |bl b=>cases c;exact SeqAt.EqAt.bool_bool a b
  |int b=>obtain⟨t,rfl⟩:=c;exact SeqAt.EqAt.bool_int a b t
  |str b=>obtain⟨t,rfl⟩:=c;exact SeqAt.EqAt.bool_str a b t
  |_=>exact absurd (show false=true from f) Bool.false_ne_true
 |int a=>
  obtain⟨d,rfl⟩:=e;cases x with
  |Aj=>cases c;exact SeqAt.EqAt.int_none a d
  |bl b=>cases c;exact SeqAt.EqAt.int_bool a d b
  |int b=>obtain⟨t,rfl⟩:=c;exact SeqAt.EqAt.int_int a d b t
  |str b=>obtain⟨t,rfl⟩:=c;exact SeqAt.EqAt.int_str a d b t
  |_=>exact absurd (show false=true from f) Bool.false_ne_true
 |str a=>
  obtain⟨d,rfl⟩:=e;cases x with
  |Aj=>cases c;exact SeqAt.EqAt.str_none a d
  |bl b=>cases c;exact SeqAt.EqAt.str_bool a d b
  |int b=>obtain⟨t,rfl⟩:=c;exact SeqAt.EqAt.str_int a d b t
  |str b=>obtain⟨t,rfl⟩:=c;exact SeqAt.EqAt.str_str a d b t
  |_=>exact absurd (show false=true from f) Bool.false_ne_true
 |_=>exact absurd (show false=true from g) Bool.false_ne_true
def Tt(x:V)(u:Value):Bool:=match u with
 | .none=>OU .Aj x
 | .bool b=>OU (.bl b) x
 | .int i _=>OU (.int i) x
 | .str z _=>OU (.str z) x
 |_=>false
theorem QO{x:V}(r:RelV y u)(f:BI y=true):Tt x u=OU y x:=by
 cases y with
 |Aj=>cases r;rfl
 |bl b=>cases r;rfl
 |int i=>obtain⟨t,rfl⟩:=r;rfl
 |str z=>obtain⟨t,rfl⟩:=r;rfl
 |_=>exact absurd (show false=true from f) Bool.false_ne_true
theorem Hu{x:V}:∀{xs:List V}{us:List Value},Vals xs us->xs.all BI=true->us.any (Tt x)=xs.any fun y=>OU y x
 |_,_,.nil,_=>rfl
 |y::xs,u::us,.cons r t,f=>by
  rw[List.all_cons,Bool.and_eq_true]at f;rw[List.any_cons,List.any_cons,QO r f.1,Hu t f.2]
theorem FX{A:Around}{s:Shared}{x:V}{v:Value}(d:RelV x v)(e:BI x=true):∀{xs:List V}{us:List Value},Vals xs us->xs.all BI=true->∀u∈us,SeqAt.EqAt A s u v (Tt x u)
 |_,_,.nil,_=>fun u c=>by cases c
 |y::xs,u::us,.cons r t,f=>fun g c=>by
  rw[List.all_cons,Bool.and_eq_true]at f;rcases List.mem_cons.mp c with rfl|c
  ·rw[QO r f.1];exact LL r d f.1 e
  ·exact FX d e t f.2 g c
def Pz(x:V)(xs:List V):Bool:=xs.any fun y=>OU y x
inductive da(K:mw)(c:Bool)(x y:V)(H:Hp)(Q:VK):Prop
 |mk(p xs:_)(d:y=.ref p)(e:(BC K H p xs∨BA K H p xs))(f:BI x=true)(g:xs.all BI=true)(h:Q (.bl (if c then !Pz x xs else Pz x xs)) H)
def aQ(K:mw)(c:Bool):R2:=fun x y H Q=>da K c x y H Q
theorem DK:Cq X (compareOp .In) (aQ X.K false):=by
 intro pins s k H x y v u Q I f i h;obtain⟨p,l,rfl,d,g,fs,q⟩:=h;cases i;rcases d with d|d
 ·obtain⟨c,r,e,j⟩:=I.list d;refine SeqAt.in_listAt (Tt x) e.isList (fun w hw=>FX f g r fs w (by simpa using hw)) ⟨.bl _,H,I,rfl,?_⟩;rw[show c.toArray.any (Tt x)=c.any (Tt x)by simp,Hu r fs];exact q
 ·obtain⟨c,r,e,j⟩:=I.tuple d;refine SeqAt.in_tupleAt (Tt x) e (fun w hw=>FX f g r fs w (by simpa using hw)) ⟨.bl _,H,I,rfl,?_⟩;rw[show c.toArray.any (Tt x)=c.any (Tt x)by simp,Hu r fs];exact q
inductive Ep(K:mw)(xs:List V)(H:Hp)(Q:VK):Prop
 |mk(p ys:_)(c:xs=[.ref p])(d:(BC K H p ys∨BA K H p ys))(e:Q (.int ys.length) H)
def Cs(K:mw):List V->Hp->VK->Prop:=fun c H Q=>Ep K c H Q
theorem Hv:BF X (.builtin "len") (Cs X.K):=by
 intro pins s k H l m Q I r h;obtain⟨p,g,rfl,c,q⟩:=h;obtain⟨u,rfl,i⟩:=vals1 r;cases i;have n:=DW;rcases c with c|c
 ·obtain⟨d,e,f,j⟩:=I.list c;have hlen:=e.length;exact Calls.call_len_list f.isList (by simp only[List.size_toArray]<;>lia) ⟨.int g.length,H,I.tok _,⟨s.toks+1,by rw[List.size_toArray,hlen]⟩,q⟩
 ·obtain⟨d,e,f,j⟩:=I.tuple c;have hlen:=e.length;exact len_tuple f (by simp only[List.size_toArray]<;>lia) ⟨.int g.length,H,I.tok _,⟨s.toks+1,by rw[List.size_toArray,hlen]⟩,q⟩
inductive Er(xs:List V)(H:Hp)(Q:VK):Prop
 |mk(z:_)(c:xs=[.str z])(d:z.length<=sizeLine)(e:Q (.int z.length) H)
def FY:List V->Hp->VK->Prop:=fun c H Q=>Er c H Q
theorem Dp:BF X (.builtin "len") FY:=by
 intro pins s c H d e Q I r h;obtain⟨z,rfl,f,q⟩:=h;obtain⟨u,rfl,t,rfl⟩:=vals1 r;have g:=DW;exact len_str (by lia) ⟨.int z.length,H,I.tok _,⟨_,rfl⟩,q⟩
inductive Es(K:mw)(xs:List V)(H:Hp)(Q:VK):Prop
 |mk(p ys:_)(c:xs=[.ref p])(d:(BC K H p ys∨BA K H p ys))(e:TU H (.lst ys) Q)
def FZ(K:mw):List V->Hp->VK->Prop:=fun c H Q=>Es K c H Q
theorem Hw:BF X (.type "list") (FZ X.K):=by
 intro pins s z H B C Q I r h;obtain⟨p,l,rfl,i,q⟩:=h;obtain⟨u,rfl,A⟩:=vals1 r;cases A;have fin:∀(c:List Value),Vals l c->l.length<=sizeLine->∀(d:Heap)(f:Nat),(∀b y,s.heap.get? b=some y->d.get? b=some y)->
   d.get? s.heap.objs.size=some {cls:=.type "list",dict:=none,data:=.seq c.toArray f,slots:= #[]}->EP X pins z Q (.ref s.heap.objs.size) {s with heap:=d}:=fun c g j d f k e=>
  ⟨.ref s.heap.objs.size,_,I.laid (t':=s.toks) k (Nat.le_refl _) (show Al X.prog X.w _ d _ (.lst l)from⟨j,c,f,g,e⟩),rfl,q _ (I.As.fresh (Nat.le_refl _))⟩
 rcases i with i|i
 ·obtain⟨c,g,m,j⟩:=I.list i;have hlen:=g.length;obtain⟨o,t,v,n,x⟩:=m.isList;exact call_list_seq p (.inl rfl) t v x (fun d f k e=>fin c g j d f k e) (by simp only[List.size_toArray]<;>lia)
 ·obtain⟨c,g,m,j⟩:=I.tuple i;have hlen:=g.length;obtain⟨o,t,v,n,x⟩:=m;exact call_list_seq p (.inr rfl) t v x (fun d f k e=>fin c g j d f k e) (by simp only[List.size_toArray]<;>lia)
def dc(K:mw)(T:String)(x:V)(H:Hp):Prop:=match x with
 | .str _=>T="str"
 | .int _=>T="int"
 | .ref p=>(T="list"/\∃d,BC K H p d)∨(T="tuple"/\∃o,K.lookup p=some o/\o.cls=.type "tuple"/\o.dict=none)∨ (T="dict"/\((∃c,H p=some (.dK c))∨∃c,H p=some (.dT c)))∨(T="set"/\∃S n,H p=some (.set S n))
 |_=>False
theorem QP{k:St}{x:V}{v:Value}(I:Inv X pins k H s)(r:RelV x v)(ty:dc X.K T x H):
  s.TypeIs v T/\∀a,v=.ref a->∃ob,s.heap.get? a=some ob/\ob.dict=none:=by
 cases x with
 |str z=>
  obtain⟨t,rfl⟩:=r;cases(show T="str"from ty);exact⟨typeIs_str s z t,fun _ e=>nomatch e⟩
 |int i=>
  obtain⟨t,rfl⟩:=r;cases(show T="int"from ty);exact⟨typeIs_int s i t,fun _ e=>nomatch e⟩
 |ref p=>
  cases r;rcases ty with⟨rfl,u,l⟩|⟨rfl,o,d,m,g⟩|⟨rfl,d⟩|⟨rfl,S,n,d⟩
  ·obtain⟨q,_,j,_⟩:=I.list l;refine⟨j.isList.typeIs,fun a e=>?_⟩;cases e;obtain⟨o,n,e,c,g,_⟩:=j;exact⟨o,e,g⟩
  ·refine⟨⟨o,I.Ck p o d,m⟩,fun a e=>?_⟩;cases e;exact⟨o,I.Ck _ o d,g⟩
  ·have z:∃o,s.heap.get? p=some o/\o.ExactDict:=by
    rcases d with⟨h,d⟩|⟨h,d⟩
    ·obtain⟨_,_,_,_,o,_,_,e,f,_⟩:=I.As p _ d;exact⟨o,e,f⟩
    ·obtain⟨_,_,_,_,o,_,_,e,f,_⟩:=I.As p _ d;exact⟨o,e,f⟩
   obtain⟨o,e,f⟩:=z;refine⟨⟨o,e,f.1⟩,fun a e2=>?_⟩;cases e2;exact⟨o,e,f.2.1⟩
  ·obtain⟨o,_,_,_,e,f,_⟩:=I.As p _ d;refine⟨⟨o,e,f.1⟩,fun a e2=>?_⟩;cases e2;exact⟨o,e,f.2.1⟩
 |_=>exact False.elim ty
def de(K:mw)(T:String)(r:V->List V->Hp->VK->Prop)(d:TE):TE:=fun e H Q=>d e H fun x c=>dc K T x c/\r x [] c Q
def df(K:mw)(T:String)(r:V->List V->Hp->VK->Prop)(e:TE)(t:TA):TE:=fun c H Q=>e c H fun x d=>dc K T x d/\t c d fun f g=>r x f g Q
variable{o:Expr} {es:List Expr} {to:TE} {t:TA} {name:Str} {apos Bc:Pos} {id:String} {r:V->List V->Hp->VK->Prop}
theorem QQ(k:PlainAttrs T)(slot:Slot T name id)(f:typeOf (.builtin id)=pure (.type "method_descriptor"))(l:dY X id r)(m:PE X o to)(c:attributeBase o name X.env (eval o X.env)=eval o X.env:=by rfl)(d:(apos.endLine==Bc.line)=true:=by rfl):PE X (.Call (.Attribute o name apos) [] [] Bc) (de X.K T r to):=by
 intro pins s g H Q I h;refine wpAny_Call_method0_late c d (Ap (m pins s g H _ I h) fun v n ⟨x,p,i,j,ty,q⟩=>?_);obtain⟨u,w⟩:=QP i j ty;exact⟨T,id,k,slot,f,u,w,Calls.callWith_builtin rfl (PySem.evalArgs_none (l pins n g p x [] v [] Q i j .nil q))⟩
theorem Mv(n:PlainAttrs T)(slot:Slot T name id)(i:typeOf (.builtin id)=pure (.type "method_descriptor"))(p:dY X id r)(q:PE X o to)(u:PA X (e::es) t)(d:attributeBase o name X.env (eval o X.env)=eval o X.env:=by rfl)(g:((backTo Bc (starEach (e::es) X.env)).all (fun x=> !x.1)&&(backToKw Bc (keywordEach [] X.env)).all (fun x=>x.1.isSome)
   &&decide ((e::es).length+([]:List Keyword).length+(if([]:List Keyword).isEmpty then 0 else 1)<30))=true:=by rfl)(f:(apos.endLine==Bc.line)=true:=by rfl)(w:starEach (e::es) X.env=(false,eval e X.env)::starEach es X.env:=by rfl)(c:(backTo Bc (starEach es X.env)).any (·.1)=false:=by rfl):
  PE X (.Call (.Attribute o name apos) (e::es) [] Bc) (df X.K T r to t):=by
 intro pins s j H Q I h;refine wpAny_Call_method_late d g f rfl (Ap (q pins s j H _ I h) fun v y ⟨x,z,k,l,ty,A⟩=>?_);obtain⟨B,C⟩:=QP k l ty;refine⟨T,id,n,slot,i,B,C,?_⟩;have m:=u Bc pins y j z _ k A;rw[w]at m⊢;refine Calls.callWith_builtin (by show(false||(backTo Bc (starEach es X.env)).any (·.1))=false;rw[c]<;>rfl) (Calls.evalArgs_plain ?_);exact Ap m fun D E F=>F.elim fun G J L M N=>p pins E j J x G v D Q L l M N
end
def dg(X:Cx)(id:String)(r:V->List V->Hp->VK->Prop):Prop:=
 ∀(pins:List (Addr×Obj))(s:Shared)(a:St)(H:Hp)(x:V)(b:List V)(v:Value)(c:List Value)(Q:VK),Inv X pins a H s->RelV x v->Vals b c->r x b H Q->
  wpAny (model X.prog X.w) X.A (call (.builtin id) (v::c)) (EP X pins a Q) X.xe s
theorem Vals.zero(r:Vals [] us):us=[]:=List.eq_nil_of_length_eq_zero (Paired.length r).symm
theorem Vals.one{x:V}{us:List Value}(r:Vals [x] us):∃u,us=[u]/\RelV x u:=by
 obtain⟨u,a,rfl,h,t⟩:=r.inv;rw[t.zero];exact⟨u,rfl,h⟩
theorem Vals.dropLast{xs:List V}(h:Vals xs us):Vals xs.dropLast us.dropLast:=by
 induction h with
 |nil=>exact .nil
 |cons r t a=>
  cases t with
  |nil=>exact .nil
  |cons q b=>exact .cons r a
theorem Vals.rep{xs:List V}{us:List Value}(h:Vals xs us):∀k:Nat,Vals (List.replicate k xs).flatten (List.replicate k us).flatten
 |0=>.nil
 |k+1=>by
  rw[List.replicate_succ,List.replicate_succ,List.flatten_cons,List.flatten_cons];exact Vals.append h (Vals.rep h k)
theorem LM{a:Type}(l:List a):l.eraseIdx (l.length-1)=l.dropLast:=List.eraseIdx_length_sub_one
theorem foldl_rep(its:List Value):∀(k:Nat)(a:List Value),
  List.foldl (fun b c=>b++c) a.toArray (List.replicate k its.toArray)=(a++(List.replicate k its).flatten).toArray
 |0,a=>by simp
 |k+1,a=>by
  have e:a.toArray++its.toArray=(a++its).toArray:=by simp
  have e2:(a++its)++(List.replicate k its).flatten=a++(List.replicate (k+1) its).flatten:=by
   rw[List.replicate_succ,List.flatten_cons,List.append_assoc]
  rw[<-e2,<-foldl_rep its k (a++its),<-e,List.replicate_succ,List.foldl_cons]
variable{σ:St}{t':Nat}
section
variable {l b:Addr} {xs ys zs:List V}
theorem Inv.XQ{its':List Value}{f:Array Value->Array Value}(I:Inv X pins σ H s)(a:H l=some (.lst xs))(e:s.heap.get? l=some {cls:=.type "list",data:=.seq its.toArray n})(c:f its.toArray=its'.toArray)(d:Vals ys its')(g:ys.length<=sizeLine):
  Inv X pins σ (upd H l (.lst ys)) {s with heap:=s.heap.update l (Obj.mapSeq f),toks:=t'}:=by
 have q:=PySem.IsL.update e f;rw[c]at q;refine I.write (x:=l) (e:=l) (by rw[a];exact trivial) (.inl rfl) (fun j u h i=>(Heap.get?_update_other s.heap (Obj.mapSeq f) (Ne.symm h)).trans i) ⟨_,q⟩ ?_;exact⟨g,its',_,d,q⟩
theorem Inv.aR(I:Inv X pins σ H s)(a:Vals ys its)(c:ys.length<=sizeLine):
  Inv X pins σ (upd H s.heap.objs.size (.lst ys)) {s with heap:=s.heap.push {cls:=.type "list",data:=.seq its.toArray},toks:=t'}:=
 I.laid (fun _ _ q=>Heap.get?_push_of_some _ q) (Nat.le_refl _) ⟨c,its,0,a,Heap.get?_push_size _ rfl⟩
theorem Inv.fresh(I:Inv X pins σ H s):H s.heap.objs.size=none:=I.As.fresh (Nat.le_refl _)
theorem Inv.OV(I:Inv X pins σ H s)(a:H l=some (.lst xs)):xs.length<=sizeLine/\∃(its:List Value)(n:Nat),Vals xs its/\xs.length=its.length/\s.heap.get? l=some {cls:=.type "list",data:=.seq its.toArray n}:=by
 obtain⟨z,its,n,r,e⟩:=I.As l _ a;exact⟨z,its,n,r,r.length,e⟩
theorem QR(h:n<=sizeLine):Builtin.List.listTooLong n=false:=by
 unfold Builtin.List.listTooLong;exact decide_eq_false (by lia)
end
section
inductive QS(x:V)(vs:List V)(H:Hp)(Q:VK):Prop
 |mk(l xs y:_)(a:x=.ref l)(b:vs=[y])(c:H l=some (.lst xs))(d:xs.length<sizeLine)(e:Q .Aj (upd H l (.lst (xs++[y]))))
def Mw:V->List V->Hp->VK->Prop:=fun x a H Q=>QS x a H Q
theorem EH:dg X "list.append" Mw:=by
 intro pins s g H x i v j Q I c d h;obtain⟨l,k,y,rfl,rfl,b,m,q⟩:=h;cases c;obtain⟨u,rfl,f⟩:=d.one;obtain⟨z,a,n,r,o,e⟩:=I.OV b;refine call_meets F.slot_list_append ⟨_,e,rfl⟩ F.entry_list_append (F.args_list_append_2 _ _) (PySem.list_append l a.toArray n u (by rw[List.size_toArray];lia)) ⟨e,?_⟩;refine⟨.Aj,_,I.XQ (its':=a++[u]) b e (by simp) (r.append (.cons f .nil)) ?_,rfl,q⟩;rw[List.length_append,List.length_singleton];lia
inductive QT(x:V)(vs:List V)(H:Hp)(Q:VK):Prop
 |mk(l b xs a:_)(c:x=.ref l)(d:vs=[.ref b])(e:H l=some (.lst xs))(f:H b=some (.lst a))(g:xs.length+a.length<=sizeLine)(h:Q .Aj (upd H l (.lst (xs++a))))
def Mx:V->List V->Hp->VK->Prop:=fun x a H Q=>QT x a H Q
theorem OW:dg X "list.extend" Mx:=by
 intro pins s w H x y v A Q I i j h;obtain⟨l,b,B,C,rfl,rfl,g,k,D,q⟩:=h;cases i;obtain⟨u,rfl,m⟩:=j.one;cases m;obtain⟨z,c,n,r,E,e⟩:=I.OV g;obtain⟨z2,a,o,p,t,e2⟩:=I.OV k;have f:c.toArray.size+a.toArray.size<=sizeLine:=by rw[List.size_toArray,List.size_toArray];lia
 have d:¬(!c.toArray.isEmpty&&Builtin.List.listTooLong (c.toArray.size+a.toArray.size))=true:=by
  rw[QR f,Bool.and_false];exact Bool.false_ne_true
 refine call_meets F.slot_list_extend ⟨_,e,rfl⟩ F.entry_list_extend (F.args_list_extend_2 _ _) (AutoSeq1.list_extend_list_list_0 l c.toArray n b a.toArray o d (by rw[List.size_toArray];lia) (by lia)) ⟨e,e2,?_⟩;refine⟨.Aj,_,I.XQ (its':=c++a) g e (by simp) (r.append p) ?_,rfl,q⟩;rw[List.length_append];lia
inductive aS(x:V)(vs:List V)(H:Hp)(Q:VK):Prop
 |mk(l xs y:_)(a:x=.ref l)(b:vs=[])(c:H l=some (.lst xs))(d:xs[xs.length-1]?=some y)(e:Q y (upd H l (.lst xs.dropLast)))
def dh:V->List V->Hp->VK->Prop:=fun x a H Q=>aS x a H Q
theorem QU:dg X "list.pop" dh:=by
 intro pins s o H x p v t Q I f g h;obtain⟨l,w,y,rfl,rfl,d,i,q⟩:=h;cases f;have b:=g.zero;subst b;obtain⟨z,a,n,r,j,e⟩:=I.OV d;obtain⟨u,k,m⟩:=r.get i;have c:a.toArray[a.toArray.size-1]?=some u:=by
  show a.toArray[a.length-1]?=some u;rw[<-Array.getElem?_toList,<-j];exact k
 refine call_meets F.slot_list_pop ⟨_,e,rfl⟩ F.entry_list_pop (F.args_list_pop_1 _) (MeetsSeq.list_pop_last l a.toArray n u c (by rw[List.size_toArray];lia)) ⟨e,?_⟩;refine⟨y,_,I.XQ (its':=a.dropLast) d e ?_ r.dropLast ?_,m,q⟩
 ·show a.toArray.eraseIdxIfInBounds (a.toArray.size-1)=a.dropLast.toArray;rw[List.size_toArray,List.eraseIdxIfInBounds_toArray,LM]
 ·rw[List.length_dropLast];lia
inductive aT(x y:V)(H:Hp)(Q:VK):Prop
 |mk(l b xs a:_)(c:x=.ref l)(d:y=.ref b)(e:H l=some (.lst xs))(f:H b=some (.lst a))(g:xs.length+a.length<=sizeLine)(h:TU H (.lst (xs++a)) Q)
def di:R2:=fun x y H Q=>aT x y H Q
theorem Cb:Cq X (binaryOp .Add) di:=by
 intro pins s o H x y v u Q I d f h;obtain⟨l,b,p,t,rfl,rfl,g,i,w,q⟩:=h;cases d;cases f;obtain⟨z,c,n,r,A,e⟩:=I.OV g;obtain⟨z2,a,B,j,k,e2⟩:=I.OV i;refine PySem.P.add_list e e2 ?_ (by rw[List.size_toArray,List.size_toArray];lia);have m:c.toArray++a.toArray=(c++a).toArray:=by simp
 rw[m];exact⟨.ref _,_,I.aR (t':=s.toks) (r.append j) (by rw[List.length_append];lia),rfl,q _ I.fresh⟩
theorem len_rep{a:Type}(xs:List a)(k:Nat):(List.replicate k xs).flatten.length=k*xs.length:=by
 induction k with
 |zero=>simp
 |succ k b=>rw[List.replicate_succ,List.flatten_cons,List.length_append,b,Nat.succ_mul,Nat.add_comm]
end
variable{E:Value->Shared->Prop}{w:World}{prog:Program}
section
end
section
end
variable{o:Option V}
section
variable{κ:Type} [DecidableEq κ]
def Be(kvs:List (κ×V))(k:κ):Option V:=(kvs.find? fun a=>decide (a.1=k)).map (·.2)
def putK(kvs:List (κ×V))(k:κ)(v:V):List (κ×V):=
 if(kvs.any fun a=>decide (a.1=k))=true then kvs.map (fun a=>if a.1=k then(a.1,v)else a)else kvs++[(k,v)]
theorem Ct{p:κ×V}{r:List (κ×V)}{k:κ}(e:p.1=k):Be (p::r) k=some p.2:=by simp[Be,List.find?_cons,e]
theorem Dq{p:κ×V}{r:List (κ×V)}{k:κ}(e:¬p.1=k):Be (p::r) k=Be r k:=by simp[Be,List.find?_cons,e]
theorem Jh(k:κ):∀kvs:List (κ×V),(kvs.any fun a=>decide (a.1=k))=(Be kvs k).isSome
 |[]=>rfl
 |p::r=>by
  rw[List.any_cons];by_cases e:p.1=k
  ·simp only[Ct e,decide_eq_true e,Bool.true_or,Option.isSome_some]
  ·rw[Dq e,decide_eq_false e,Bool.false_or];exact Jh k r
theorem Cu(kvs:List (κ×V))(k:κ)(v:V):(putK kvs k v).length<=kvs.length+1:=by
 unfold putK;split
 ·rw[List.length_map];lia
 ·rw[List.length_append,List.length_cons,List.length_nil];lia
theorem CT.DL{u:Option Value}(r:CT o u):o.isSome=u.isSome:=by
 cases o with
 |none=>cases u with
  |none=>rfl
  |some _=>exact(show False from r).elim
 |some _=>cases u with
  |none=>exact(show False from r).elim
  |some _=>rfl
theorem KV.val{kvs:List (κ×V)}{vs:List (κ×Value)}(r:KV kvs vs)(k:κ):CT (Be kvs k) (valueAt vs k):=by
 unfold KV at r
 induction r with
 |nil=>exact True.intro
 |@cons p q i a h t f=>
  obtain⟨d,g⟩:=h;by_cases e:p.1=k
  ·have c:q.1=k:=d.symm.trans e;have b:valueAt (q::a) k=some q.2:=by simp[valueAt,List.find?_cons,c]
   rw[Ct e,b];exact g
  ·have c:¬q.1=k:=fun z=>e (d.trans z);have b:valueAt (q::a) k=valueAt a k:=by simp[valueAt,List.find?_cons,c]
   rw[Dq e,b];exact f
theorem KV.any{kvs:List (κ×V)}{vs:List (κ×Value)}(r:KV kvs vs)(k:κ):(kvs.any fun a=>decide (a.1=k))=vs.any fun a=>decide (a.1=k):=by
 unfold KV at r
 induction r with
 |nil=>rfl
 |cons h t b=>rw[List.any_cons,List.any_cons,b,h.1]
theorem KV.XR{kvs:List (κ×V)}{vs:List (κ×Value)}(r:KV kvs vs)(k:κ)(c:RelV y u):
  KV (kvs.map fun a=>if a.1=k then(a.1,y)else a) (vs.map fun a=>if a.1=k then(a.1,u)else a):=by
 unfold KV at r⊢
 induction r with
 |nil=>exact .nil
 |@cons p q g i h t d=>
  rw[List.map_cons,List.map_cons];refine .cons ?_ d;obtain⟨b,f⟩:=h;by_cases e:p.1=k
  ·rw[if_pos e,if_pos (b.symm.trans e)];exact⟨b,c⟩
  ·rw[if_neg e,if_neg (fun z=>e (b.trans z))];exact⟨b,f⟩
theorem KV.put{kvs:List (κ×V)}{vs:List (κ×Value)}(r:KV kvs vs)(k:κ)(a:RelV y u):KV (putK kvs k y) (stored vs k u):=by
 unfold putK stored;rw[r.any k];by_cases e:(vs.any fun b=>decide (b.1=k))=true
 ·rw[if_pos e,if_pos e];exact r.XR k a
 ·rw[if_neg e,if_neg e];exact Paired.snoc r ⟨rfl,a⟩
theorem KV.keys{kvs:List (κ×V)}{vs:List (κ×Value)}(r:KV kvs vs):kvs.map (·.1)=vs.map (·.1):=by
 unfold KV at r
 induction r with
 |nil=>rfl
 |cons h t a=>rw[List.map_cons,List.map_cons,a,h.1]
theorem KV.length{kvs:List (κ×V)}{vs:List (κ×Value)}(r:KV kvs vs):kvs.length=vs.length:=Paired.length r
end
variable{P:Program}
theorem Fc{k:Key}(r:RelV (kV k) u):(Ad P w).is k u=true:=by
 cases k with
 |inl i=>obtain⟨t,e⟩:=(show∃t,u=Value.int i t from r);subst e;exact JU P w i t
 |inr x=>obtain⟨t,e⟩:=(show∃t,u=Value.str x t from r);subst e;exact JV P w x t
theorem HB{P:Program}{w:World}:∀{ks:List Key}{us:List Value},Vals (ks.map kV) us->ItemsAre (Ad P w) ks us
 |[],_,r=>by rw[List.map_nil]at r;cases r;exact .nil
 |k::ks,_,r=>by
  rw[List.map_cons]at r;cases r with
  |cons h t=>exact .cons (Fc h) (HB t)
abbrev KT(H:Hp):List (List Key×V)->List (List Key×Addr×Value)->Prop:=Paired fun p q=>p.1=q.1/\H q.2.1=some (.tup (p.1.map kV))/\RelV p.2 q.2.2
theorem KT.val{H:Hp}{kvs:List (List Key×V)}{xs:List (List Key×Addr×Value)}(r:KT H kvs xs)(k:List Key):CT (Be kvs k) ((atKey xs k).map (·.2)):=by
 induction r with
 |nil=>exact True.intro
 |@cons p q i a h t f=>
  obtain⟨d,_,g⟩:=h;by_cases e:p.1=k
  ·have c:q.1=k:=d.symm.trans e;have b:atKey (q::a) k=some q.2:=by simp[atKey,List.find?_cons,c]
   rw[Ct e,b];exact g
  ·have c:¬q.1=k:=fun z=>e (d.trans z);have b:atKey (q::a) k=atKey a k:=by simp[atKey,List.find?_cons,c]
   rw[Dq e,b];exact f
variable{kvs:List (List Key×V)}{xs:List (List Key×Addr×Value)}
theorem KT.XR(r:KT H kvs xs)(k:List Key)(d:RelV y u):
  KT H (kvs.map fun b=>if b.1=k then(b.1,y)else b) (xs.map (putAt k u)):=by
 induction r with
 |nil=>exact .nil
 |@cons p q i j h t f=>
  rw[List.map_cons,List.map_cons];refine .cons ?_ f;obtain⟨a,c,g⟩:=h;unfold putAt;by_cases e:p.1=k
  ·rw[if_pos e,if_pos (a.symm.trans e)];exact⟨a,c,d⟩
  ·rw[if_neg e,if_neg (fun z=>e (a.trans z))];exact⟨a,c,g⟩
theorem KT.put(r:KT H kvs xs)(k:List Key){b:Addr}(c:H b=some (.tup (k.map kV)))(a:RelV y u):
  KT H (putK kvs k y) (storedH xs k b u):=by
 have e:(kvs.any fun d=>decide (d.1=k))=(atKey xs k).isSome:=by
  rw[Jh,(r.val k).DL,Option.isSome_map]
 unfold putK storedH;rw[e];by_cases q:(atKey xs k).isSome=true
 ·rw[if_pos q,if_pos q];exact r.XR k a
 ·rw[if_neg q,if_neg q];exact Paired.snoc r ⟨rfl,c,a⟩
theorem KT.keeps{a:Hp}(r:KT H kvs xs)(c:∀b ys,H b=some (.tup ys)->a b=some (.tup ys)):KT a kvs xs:=
 Paired.Zp r fun _ _ z=>⟨z.1,c _ _ z.2.1,z.2.2⟩
variable{a:Addr}
section
variable {h:Heap} 
theorem WM{u:HO}(ok:CS P w H h)(e:Rd H a u):Al P w H h a u:=e.ok ok
theorem Ef{kvs:List (Key×V)}(ok:CS P w H h)(e:Rd H a (.dK kvs)):kvs.length<=sizeLine/\(a==sysModules)=false/\∃vs,KV kvs vs/\h.DictOf (Ad P w) a vs:=
 show Al P w H h a (.dK kvs)from WM ok e
theorem WN{kvs:List (Key×V)}(ok:CS P w H h)(e:H a=some (.dK kvs)):kvs.length<=sizeLine/\(a==sysModules)=false/\∃vs,KV kvs vs/\h.DictOf (Ad P w) a vs:=Ef ok (.inl e)
theorem Hx{ks:List Key}(ok:CS P w H h)(e:H a=some (.tup (ks.map kV))):(tupleKind (Ad P w)).is h ks a:=by
 obtain⟨_,b,r,o,c,d,n,f⟩:=(show Al P w H h a (.tup (ks.map kV))from ok a _ e);exact⟨o,b.toArray,n,c,d,f,by simpa using HB r⟩
theorem My(ok:CS P w H h)(e:Rd H a (.dT kvs)):kvs.length<=sizeLine/\(a==sysModules)=false/\
  ∃xs,KT H kvs xs/\h.DictOfH (tupleKind (Ad P w)) a xs:=by
 obtain⟨z,y,xs,r,o,d,f,g,i,j,k,n⟩:=(show Al P w H h a (.dT kvs)from WM ok e);refine⟨z,y,xs,r,o,d,f,g,i,j,k,fun x b=>?_,n⟩;have all:∀{l:List (List Key×V)}{m:List (List Key×Addr×Value)},KT H l m->∀x∈m,(tupleKind (Ad P w)).is h x.1 x.2.1:=by
  intro l m q
  induction q with
  |nil=>intro x b;exact nomatch b
  |@cons p q u v c t s=>
   intro x b;rcases List.mem_cons.mp b with e|b
   ·subst e;exact Hx ok (by rw[<-c.1];exact c.2.1)
   ·exact s x b
 exact all r x b
theorem aU(ok:CS P w H h)(e:H a=some (.dT kvs)):kvs.length<=sizeLine/\(a==sysModules)=false/\
  ∃xs,KT H kvs xs/\h.DictOfH (tupleKind (Ad P w)) a xs:=My ok (.inl e)
end
def QV(H:Hp)(a:Addr)(y:V)(r:Option V):Prop:= (∃c k,Rd H a (.dK c)/\y=kV k/\r=Be c k)∨∃c k b,Rd H a (.dT c)/\y=.ref b/\H b=some (.tup (k.map kV))/\r=Be c k
def aV(H:Hp)(a:Addr)(y v:V)(d:Hp):Prop:= (∃c k,H a=some (.dK c)/\y=kV k/\c.length<sizeLine/\d=upd H a (.dK (putK c k v)))∨
 ∃c k b,H a=some (.dT c)/\y=.ref b/\H b=some (.tup (k.map kV))/\c.length<sizeLine/\d=upd H a (.dT (putK c k v))
variable{Q:Value->Shared->Prop}{h':Heap}
section
variable {v:V} {r:Value} 
theorem Inv.big(I:Inv X pins σ H s):sysModules<s.heap.objs.size:=by
 have h:mainGlobals<s.heap.objs.size:=(I.mod.glob.keeps I.bk).lt;exact Nat.lt_trans (by decide) h
theorem OX(t:A.units+1<cLine)(I:Inv X pins σ H s)(g:QV H a y (some v))(q:RelV y u)(h:∀f s',Inv X pins σ H s'->RelV v f->Q f s'):
  wpAny (model X.prog X.w) A (getItem (.ref a) u) Q E s:=by
 rcases g with⟨i,k,e,j,l⟩|⟨i,k,b,e,j,x,l⟩
 ·subst j;obtain⟨z,B,C,c,m⟩:=Ef I.As e;obtain⟨f,hw,d⟩:=CT.some_of (v:=v) (o:=valueAt C k) (by rw[l];exact c.val k);exact wpAny_getItem_of (Fc q) m.mapOf hw (h f _ (I.tok _) d)
 ·subst j;cases(show u=Value.ref b from q);obtain⟨z,B,D,c,m⟩:=My I.As e;obtain⟨f,hw,d⟩:=CT.some_of (v:=v) (o:=(atKey D k).map (·.2)) (by rw[l];exact c.val k);obtain⟨p,F,n⟩:=Option.map_eq_some_iff.mp hw;refine wpAny_getItem_heap (tupleKind_room_in1 t) (Hx I.As x) m F ?_;rw[n];exact h f _ (I.tok _) d
theorem dj(n:A.units+1<cLine)(I:Inv X pins σ H s)(g:QV H a y o)(m:RelV y u)(h:∀s',Inv X pins σ H s'->Q (.bool o.isSome) s'):
  wpAny (model X.prog X.w) A (compareOp .In u (.ref a)) Q E s:=by
 rcases g with⟨d,k,e,f,l⟩|⟨d,k,b,e,f,p,l⟩
 ·subst f;obtain⟨z,i,t,c,j⟩:=Ef I.As e;refine wpAny_in_of (Fc m) i j.mapOf ?_;rw[<-(c.val k).DL,<-l];exact h _ (I.tok _)
 ·subst f;cases(show u=Value.ref b from m);obtain⟨z,i,x,c,j⟩:=My I.As e;refine wpAny_in_heap (tupleKind_room_in1 n) (Hx I.As p) i j ?_;have q:=(c.val k).DL;rw[Option.isSome_map]at q;rw[<-q,<-l];exact h _ (I.tok _)
theorem Hy{ob:HO}(I:Inv X pins σ H s)(c:Zq (H a))(d:Heap.SameBut a s.heap h')(f:∃q,h'.get? a=some q)(new:Al X.prog X.w (upd H a ob) h' a ob):
  Inv X pins σ (upd H a ob) {s with heap:=h',toks:=t'}:=
 I.write (x:=a) (e:=a) c (.inl rfl) (fun b q g z=>(d.2 b g).trans z) f new
theorem LN{c:Hp}{kvs:List (Key×V)}{vs:List (Key×Value)}(z:kvs.length<=sizeLine)(d:(a==sysModules)=false)(b:KV kvs vs)(dd:h'.DictOf (Ad P w) a vs):
  Al P w c h' a (.dK kvs):=⟨z,d,vs,b,dd⟩
theorem OY{D:Hp}{Q:Unit->Shared->Prop}(M:A.units+1<cLine)(I:Inv X pins σ H s)(g:aV H a y v D)(F:RelV y u)(G:RelV v r)(h:∀s',Inv X pins σ D s'->Q () s'):
  wpAny (model X.prog X.w) A (setItem (.ref a) u r) Q E s:=by
 rcases g with⟨d,k,e,m,l,n⟩|⟨d,k,b,e,m,J,l,n⟩
 ·subst m n;obtain⟨z,p,N,f,t⟩:=WN I.As e;have x:N.length<=sizeLine:=by rw[<-f.length];exact z
  have B:(putK d k v).length<=sizeLine:=by have:=Cu d k v;lia
  refine wpAny_setItem_pairs (hsz:=x) (Fc F) t fun K i C=>h _ ?_;have O:∃q,K.get? a=some q:=let⟨q,_,_,j,_⟩:=i;⟨q,j⟩;exact Hy I (by rw[e];exact True.intro) C O (LN B p (f.put k G) i)
 ·subst m n;cases(show u=Value.ref b from F);obtain⟨z,p,P,f,t⟩:=aU I.As e;have x:P.length<=sizeLine:=by rw[<-Paired.length f];exact z
  have B:(putK d k v).length<=sizeLine:=by have:=Cu d k v;lia
  refine wpAny_setItem_heap (hsz:=x) (tupleKind_room_in1 M) (Hx I.As J) t fun K i C=>h _ ?_;obtain⟨q,R,S,j,T,U,Y,_,Z⟩:=i;refine Hy I (by rw[e];exact True.intro) C ⟨q,j⟩ ⟨B,p,_,(f.put k J G).keeps fun c W L=>?_,q,R,S,j,T,U,Y,Z⟩;rw[AK (Zo L e (fun z=>nomatch z))];exact L
end
section
variable {kvs:List (Key×V)} {k:Key} 
end
def Tu(i:Expr):Prop:=∀a b,subscripted i false a b=operate [a,b] (getItem a b)
theorem Mz{env:Env}{value slice:Expr}{pos:Pos}{id:String}(j:typeLookup (.type T) "__getitem__"=pure (some (.builtin id)))(k:Tu slice)(h:wpAny (model prog w) A (eval value env) (fun o c=>wpAny (model prog w) A (eval slice env) (fun i a=>a.TypeIs o T/\wpAny (model prog w) A (getItem o i) Q E a) E c) E s):
  wpAny (model prog w) A (eval (.Subscript value slice pos) env) Q E s:=by
 refine Subscript_ (wpAny_mono h (fun o c e=>wpAny_mono e (fun i a b=>?_) fun _ _ x=>x) fun _ _ x=>x);obtain⟨g,b⟩:=b;unfold subscriptTail;refine wpAny_bind ?_;rw[getitemInPython_of_ne g.not_modules];refine wpAny_bind (wpAny_specialOf g j ?_);have fin:wpAny (model prog w) A (subscripted slice false o i) (fun r d=>wpAny (model prog w) A (letTemporaryGo value o r>>=fun _=>pure r) Q E d) E a:=by
  rw[k o i];exact wpAny_operating (wpAny_mono b (fun r d f=>wpAny_bind (wpAny_letTemporaryGo (wpAny_pure f))) fun _ _ x=>x)
 first
  |exact wpAny_pure (wpAny_bind fin)
  |exact wpAny_bind (wpAny_pure (wpAny_bind fin))
  |exact wpAny_bind fin
theorem Ji{f:St}(I:Inv X pins f H s)(g:QV H a y o):s.TypeIs (.ref a) "dict":=by
 rcases g with⟨c,k,e,_,_⟩|⟨c,k,b,e,_,_,_⟩
 ·obtain⟨_,_,h,_,d⟩:=Ef I.As e;exact d.typeIs
 ·obtain⟨_,_,i,_,d⟩:=My I.As e;exact d.typeIs
inductive iO(x y:V)(H:Hp)(Q:VK):Prop
 |mk(a:Addr)(v:V)(e:x=.ref a)(g:QV H a y (some v))(q:Q v H)
inductive iP(x y:V)(H:Hp)(Q:VK):Prop
 |mk(a:Addr)(o:Option V)(e:x=.ref a)(g:QV H a y o)(q:Q (.bl o.isSome) H)
def WO(b ty:TE):TE:=fun a H Q=>b a H fun x c=>ty a c fun y d=>iO x y d Q
def dm(ty b:TE):TE:=fun a H Q=>ty a H fun y c=>b a c fun x d=>iP x y d Q
def aW(d ty e:TE):TS:=fun D b H=>e b H fun v f=>d b f fun x g=>ty b g fun y h=>∃a c,x=.ref a/\aV h a y v c/\D.nx b c
section
variable {o i value:Expr} {pos pos' dU:Pos} {td ty tv:TE}
theorem Tv(f:X.A.units+1<cLine)(j:PE X o td)(k:PE X i ty)(l:Tu i):PE X (.Subscript o i pos) (WO td ty):=by
 intro pins s c H Q I h;refine Mz PySem.F.slot_dict_getitem.lookup l (Ap (j pins s c H _ I h) fun u m n=>n.elim fun x p q r t=>Ap (k pins m c p _ q t) fun E G ⟨y,w,d,z,a,v,B,g,C⟩=>?_);subst B;obtain rfl:u=Value.ref a:=r;exact⟨Ji d g,OX f d g z fun J K D b=>⟨v,w,D,b,C⟩⟩
theorem XS(c:X.A.units+1<cLine)(d:PE X i ty)(f:PE X o td):PC X .In i o (dm ty td):=by
 intro pins s b H Q I h;refine Ap (d pins s b H _ I h) fun C j k=>k.elim fun y l m n p=>Ap (f pins j b l _ m p) fun u D ⟨x,q,r,t,a,v,w,g,z⟩=>?_;subst w;obtain rfl:u=Value.ref a:=t;exact dj c r g n fun E B=>⟨.bl v.isSome,q,B,rfl,z⟩
theorem Tw(d:X.A.units+1<cLine)(f:PE X o td)(j:PE X i ty)(k:PE X value tv)(l:swapsWith value (some (.Subscript o i pos')) pos.line X.env=pure false):
  PS X (.Assign [.Subscript o i pos'] value pos) (aW td ty tv):=by
 intro pins s b H D I h;refine wpAny_Assign_Subscript (Ap (k pins s b H _ I h) fun r m c=>c.elim fun v n p q t=>Ap (f pins m b n _ p t) fun u w c=>c.elim fun x z B C E=>Ap (j pins w b z _ B E) fun N O ⟨y,P,F,G,a,J,K,g,L⟩=>?_) l;subst K;obtain rfl:u=Value.ref a:=C;exact OY d F g G q fun Q M=>⟨b,J,M,L⟩
end
theorem Jj(h:Heap)(a:sysModules<h.objs.size):Al P w H (h.push {cls:=.type "dict",data:=.dict #[]}) h.objs.size (.dK []):=
 ⟨Nat.zero_le _,beq_eq_false_iff_ne.mpr (Ne.symm (Nat.ne_of_lt a)),[],.nil,Heap.DictOf.new h⟩
def XT:TE:=fun _ H Q=>TU H (.dK []) Q
section
variable {pos:Pos}
theorem Fd:PE X (.Dict [] [] pos) XT:=fun pins s b H Q I h=>
 wpAny_Dict_empty ⟨.ref s.heap.objs.size,_,I.laid (a:=s.heap.objs.size) (o:=.dK []) (t':=s.toks) (fun _ _ q=>Heap.get?_push_of_some _ q) (Nat.le_refl _) (Jj s.heap I.big),rfl,h _ (I.As.fresh (Nat.le_refl _))⟩
end
def LO:List (TE×TE)->St->Hp->(List (V×V)->Hp->Prop)->Prop
 |[],_,H,Q=>Q [] H
 |(tk,b)::r,a,H,Q=>tk a H fun x c=>b a c fun y d=>LO r a d fun ps e=>Q ((x,y)::ps) e
abbrev VV:List (V×V)->List (Value×Value)->Prop:=Paired fun p q=>RelV p.1 q.1/\RelV p.2 q.2
def aX(X:Cx)(pos:Pos)(keys:List (Option Expr))(values:List Expr)(a:List (TE×TE)):Prop:=
 ∀(pins:List (Addr×Obj))(s:Shared)(b:St)(H:Hp)(Q:List (V×V)->Hp->Prop),Inv X pins b H s->LO a b H Q->
  wpAny (model X.prog X.w) X.A (evalPairs (pairTrees keys values X.env pos)) (fun e f=>∃c d,Inv X pins b d f/\VV c e/\Q c d) X.xe s
theorem Dr{pos:Pos}:aX X pos [] [] []:=fun pins s a H Q I h=>pairTrees_nil_walk ⟨[],H,I,.nil,h⟩
theorem BM{X:Cx}{pos:Pos}{k v:Expr}{ks:List (Option Expr)}{vs:List Expr}{tk d:TE}{a:List (TE×TE)}(e:PE X k tk)(f:PE X v d)(g:aX X pos ks vs a):
  aX X pos (some k::ks) (v::vs) ((tk,d)::a):=fun pins s b H Q I h=>
 pairTrees_cons_walk (Ap (e pins s b H _ I h) fun u i j=>j.elim fun x l m n o=>Ap (f pins i b l _ m o) fun D p ⟨y,q,r,t,w⟩=>
  Ap (g pins p b q _ r w) fun E F ⟨z,A,B,c,C⟩=>⟨(x,y)::z,A,B,.cons ⟨n,t⟩ c,C⟩)
def Cv(kvs more:List (Key×V)):List (Key×V):=more.foldl (fun a b=>putK a b.1 b.2) kvs
theorem KV.merge:∀{more:List (Key×V)}{g:List (Key×Value)}{i:List (Key×V)}{vs:List (Key×Value)},KV more g->KV i vs->KV (Cv i more) (merged vs g):=by
 intro more g i vs r;unfold KV at r
 induction r generalizing i vs with
 |nil=>intro q;exact q
 |@cons p q d f h t b=>
  intro c;have e:KV (putK i p.1 p.2) (stored vs q.1 q.2):=by
   have:=c.put p.1 h.2;rw[<-h.1];exact this
  exact b e
theorem DR:∀(more kvs:List (Key×V)),(Cv kvs more).length<=kvs.length+more.length
 |[],kvs=>by show kvs.length<=kvs.length+0;lia
 |p::r,kvs=>by
  have a:=DR r (putK kvs p.1 p.2);have b:=Cu kvs p.1 p.2;show(Cv (putK kvs p.1 p.2) r).length<=_;rw[List.length_cons];lia
theorem Fe{P:Program}{w:World}:∀{j:List (Key×V)}{k:List (Value×Value)},VV (j.map fun f=>(kV f.1,f.2)) k->∃d,Carries (Ad P w) k d/\KV j d
 |[],_,r=>by rw[List.map_nil]at r;cases r;exact⟨[],True.intro,.nil⟩
 |p::j,_,r=>by
  rw[List.map_cons]at r;cases r with
  |@cons a b as bs h t=>
   obtain⟨d,c,q⟩:=Fe (P:=P) (w:=w) t;obtain⟨i,g⟩:=b;exact⟨(p.1,g)::d,⟨Fc h.1,rfl,c⟩,.cons ⟨rfl,h.2⟩ q⟩
def WQ(b:List (TE×TE)):TE:=fun e H Q=>∀p,H p=none->LO b e (upd H p (.dK [])) fun f c=>c p=some (.dK [])/\∃a:List (Key×V),f=a.map (fun d=>(kV d.1,d.2))/\a.length<=15/\Q (.ref p) (upd c p (.dK (Cv [] a)))
theorem M_{X:Cx}{pos:Pos}{keys:List (Option Expr)}{values:List Expr}{b:List (TE×TE)}(h:aX X pos keys values b)(d:keys.all (·.isSome)=true)(l:keys.length=values.length)(m:keys≠[])(i:keys.length<=15):PE X (.Dict keys values pos) (WQ b):=by
 intro pins s n H Q I q;have p:=I.As.fresh (Nat.le_refl s.heap.objs.size);have r:=I.laid (a:=s.heap.objs.size) (o:=.dK []) (h':=s.heap.push {cls:=.type "dict",data:=.dict #[]}) (t':=s.toks) (fun _ _ q=>Heap.get?_push_of_some _ q) (Nat.le_refl _) (Jj s.heap I.big);refine wpAny_Dict_walk (knd:=Ad X.prog X.w) d l m i (Ap (h pins _ n _ _ r (q _ p)) fun K L ⟨M,N,k,j,e,f,t,lk,u⟩=>?_);subst t;obtain⟨v,c,x⟩:=Fe (P:=X.prog) (w:=X.w) j;obtain⟨z,y,A,B,C⟩:=WN k.As e;cases B;refine⟨v,c,C,fun h' g D=>⟨.ref s.heap.objs.size,_,?_,rfl,u⟩⟩;have E:(Cv [] f).length<=sizeLine:=by
  have F:=DR f [];rw[List.length_nil]at F;rw[sizeLine_eq];lia
 have G:∃q,h'.get? s.heap.objs.size=some q:=let⟨q,_,_,J,_⟩:=g;⟨q,J⟩;exact Hy k (by rw[e];exact True.intro) D G (LN E y (x.merge .nil) g)
structure M1(X:Cx)(o:Expr)(m:Str)(apos:Pos)(e:Expr)(Bc:Pos):Prop where
 base:attributeBase o m X.env (eval o X.env)=eval o X.env
 iQ:((backTo Bc (starEach [e] X.env)).all (fun x=> !x.1)&&(backToKw Bc (keywordEach [] X.env)).all (fun x=>x.1.isSome)
  &&decide (([e]:List Expr).length+([]:List Keyword).length+(if([]:List Keyword).isEmpty then 0 else 1)<30))=true
 line:(apos.endLine==Bc.line)=true
 trees:backTo Bc (starEach [e] X.env)=[(false,eval e X.env)]
structure M2(X:Cx)(o:Expr)(m:Str)(apos:Pos)(e f:Expr)(Bc:Pos):Prop where
 base:attributeBase o m X.env (eval o X.env)=eval o X.env
 iQ:((backTo Bc (starEach [e,f] X.env)).all (fun x=> !x.1)&&(backToKw Bc (keywordEach [] X.env)).all (fun x=>x.1.isSome)
  &&decide (([e,f]:List Expr).length+([]:List Keyword).length+(if([]:List Keyword).isEmpty then 0 else 1)<30))=true
 line:(apos.endLine==Bc.line)=true
 trees:backTo Bc (starEach [e,f] X.env)=[(false,eval e X.env),(false,eval f X.env)]
section
variable {d:V} {r:Value} 
end
section
variable {o f:Expr} {apos Bc:Pos} {td ty tx:TE}
end
section
variable {kvs:List (Key×V)} 
theorem QW(I:Inv X pins σ H s)(e:Rd H a (.dK kvs))(h:∀p s',H p=none->Inv X pins σ (upd H p (.dK kvs)) s'->Q (.ref p) s'):wpAny (model X.prog X.w) A (call (.type "dict") [.ref a]) Q E s:=by
 obtain⟨z,g,k,c,i⟩:=Ef I.As e;refine kt_call_dict g i (by rw[<-c.length];exact z) fun l d j=>?_;refine h _ _ (I.As.fresh (Nat.le_refl _)) (I.laid (a:=s.heap.objs.size) (o:=.dK kvs) (t':=s.toks) (fun b q f=>?_) (Nat.le_refl _) (LN z (beq_eq_false_iff_ne.mpr (Ne.symm (Nat.ne_of_lt I.big))) c d));exact(j.2 b (Nat.ne_of_lt (Heap.lt_size f))).trans (Heap.get?_push_of_some _ f)
end
section
end
end L2
namespace fV
open PySem PySem.W PySem.Calls PyProof.Rows
variable{P:Params}
theorem Et{h:Heap}:∀(c:List Int)(vs:List Value),WellAll P h vs (c.map WData.int)->IntsAre vs c:=by
 intro c
 induction c with
 |nil=>
  intro vs w;rw[List.map_nil]at w;cases w;exact .nil
 |cons n c d=>
  intro vs w;rw[List.map_cons]at w;cases w with
  |cons a b=>
   cases a;exact .cons _ _ (d _ b)
variable{l:OpenLaw}
theorem OZ{n:Nat}(m:l.most=some n){h:Heap}{args:List WData}{vals:List Value}(c:l.row.toRowW.claim.pre args=true)(i:WellAll P h vals args):
  ∃a vs b,vals=[Value.ref a]/\args=[WData.list (b.map WData.int)]/\h.get? a=some {cls:=.type "list",data:=.seq vs.toArray}/\IntsAre vs b/\b.length<=n:=by
 have j:WShape.hasAll [] args [.list .int]=true:=(pre_splitW c).1;have k:l.pre.holds [] {args:=args}=true:=(pre_splitW c).2;obtain⟨d,r,rfl,o,p⟩:=hasAllW_cons j;obtain rfl:=hasAllW_nil p;obtain⟨x,rfl,s⟩:=hasW_list o;obtain⟨b,rfl⟩:=items_int s;have hlen:b.length<=n:=by
  unfold OpenLaw.pre at k;have f:(WTm.not (.lt (.lit (.int (n:Int))) (.len (.arg 0)))).holds [] {args:=[.list (b.map .int)]}=true:=by
   have f:=(holds_andW k).1;rw[m]at f;exact f
  have g:=condW_of f (w_not (w_lt w_lit (w_len_list (w_arg rfl))));rw[List.length_map]at g;refine Nat.le_of_not_lt fun q=>?_;have t:(n:Int)<((b.length:Nat):Int):=by lia
  first
   |(rw[decide_eq_true t]at g;exact absurd g (by decide))
   |(simp at g;lia)
 cases i with
 |cons u v=>
  cases v;cases u with
  |list w e=>exact⟨_,_,b,rfl,rfl,w,Et b _ e,hlen⟩
theorem Oa(l:OpenLaw)(args:List WData):l.row.toRowW.claim.post args (.bool true) args=true:=
 postW_of (r:=l.row.toRowW) (X:=(true==true)) (show WShape.has [] (.bool true) .bool=true by first|rfl|decide|simp[WShape.has,WShape.arms,WShape.armsAll]) (show(WTm.eq .res (.lit (.bool true))).value [] {args:=args,res:=some (.bool true),after:=args}=some (.bool (true==true))from w_eq_bool (w_res rfl) w_lit) rfl
theorem Jk{n:Nat}{q:Program}{loose:List Str}{v:(Str->Option Value)->Heap->Prop}{YP:World->Heap->Prop}{d:DefRec}(z:l.most=some n)(k:d.params.defaults=[])(call:∀(w:World) (s₀ b:Shared) (mg m:Str->Option Value) (fa:Addr) (o:Obj) (p h c:Value) (a:Addr) (vs:List Value) (i:List Int),
   Ground q loose [] v w s₀ mg m b.heap->YP w b.heap->
   b.heap.get? fa=some o->o.data=.func (docDef d.name d.params d.body d.scope p h c)->b.heap.CodeRec h d.name->mg d.name=some (.ref fa)->
   b.heap.get? a=some {cls:=.type "list",data:=.seq vs.toArray}->IntsAre vs i->i.length<=n->b.gens= #[]->
   codeAny (model l.prog w) callerA (.call (.ref fa) ⟨[.ref a],[]⟩) (fun r j=>r=.ok (.ret (.bool true))/\OldK b.heap j.heap/\j.os=b.os/\AllBare j.gens) b):
  WalkO q loose v YP l.row.toRowW d [] (fun f vs=>PySem.call f vs):=by
 intro w s₀ b mg m G Y fa o p h c A kV B C s x t D args vals M e y E u F;obtain rfl:A=.none:=Dflts.none x k;obtain rfl:kV=.none:=Dflts.noKw x;obtain⟨a,vs,i,rfl,rfl,g,hints,hlen⟩:=OZ z e u;refine enter_call (codeAny_mono (call w s₀ b mg m fa o p h c a vs i G Y B (fd_plain C) s t g hints hlen D) fun r j H=>?_);obtain⟨rfl,I,J,K⟩:=H;exact⟨.inl ⟨.bool true,.bool true,[],rfl,fun _=>rfl,.bool true,Oa l _,fun _=>⟨List.Pairwise.nil,fun _ L=>(nomatch L)⟩⟩,I,J,K⟩
section
variable{prog:Program} {w:World} {A:Around} {E:Value->Shared->Prop} {s:Shared} {K:Frag}
end
end fV
namespace L2
open PySem PySem.Spec PyProof.Rows
variable{vs:List Value}
theorem Ob{a:List Int}(h:IntsAre vs a):Vals (a.map V.int) vs:=by
 induction h with
 |nil=>exact .nil
 |cons n t _ b=>exact .cons ⟨t,rfl⟩ b
def XU(H:Hp):Prop:=∀b,H b=none∨∃o a,H b=some (.CU o (.lst a))
variable{x:Str}{mg:Str->Option Value}{w:World}{k:Nat}{K:mw}{P:Program}
theorem QX{L:Str->Option Value}{CX:Je}{fa a:Addr}{T:FuncData}{sp:Sp}{c:Shared}{p:List Int}(U:K.In c.heap)(t:c.heap.Ns mainGlobals mg)(g:c.heap.Ns builtinsNs L)(M:∀x:Str,x≠"__name__"->L x=bootBuiltins x)(y:c.heap.NoLimit)(hg:c.gens= #[])(J:c.heap.get? a=some {cls:=.type "list",data:=.seq vs.toArray})(X:IntsAre vs p)(Y:p.length<=sizeLine)(hr:Av k callerA)(F:∀base:Heap,K.In base->base.Ns mainGlobals mg->AX P w K mg base CX k fa T [x] sp)(l:∀(s:Shared) (u:Value),BindsTo s T ⟨[u],[]⟩ [(x,u)])(N:∀H:Hp,XU H->BC K H a (p.map V.int)->sp [.ref a] H (fun v _=>v=.bl true) fun _ _ _=>False)(O:∀H e i,CX [] H c (fun _ _ _=>False) e i->False):
  codeAny (model P w) callerA (.call (.ref fa) ⟨[.ref a],[]⟩) (fun r i=>r=.ok (.ret (.bool true))/\OldK c.heap i.heap/\i.os=c.os/\AllBare i.gens) c:=by
 have Z:=Ob X;have A:=X.length;have core:∀H:Hp,XU H->BC K H a (p.map V.int)->CS P w H c.heap->(∀b,H b≠none->b=a)->(H a≠none->K.lookup a=none)->
   codeAny (model P w) callerA (.call (.ref fa) ⟨[.ref a],[]⟩) (fun r i=>r=.ok (.ret (.bool true))/\OldK c.heap i.heap/\i.os=c.os/\AllBare i.gens) c:=by
  intro H hO hS B hA hK;have f:∀{b:Addr}{o:Obj},c.heap.get? b=some o->H b=none->(Hj c.heap H).get? b=some o:=fun e n=>P' e n;have Q:∀{b:Addr}{o:Obj}{C:Array DictEntry}{D:Nat},c.heap.get? b=some o->o.data=.dict C D->H b=none:=fun{b o C D} e d=>by
   cases q:H b with
   |none=>rfl
   |some u=>
    have R:b=a:=hA b (by rw[q];simp);subst R;rw[J]at e;cases e;have d':Data.seq vs.toArray _=Data.dict C D:=d;cases d'
  have j:∀{b:Addr}{m:Str->Option Value},c.heap.Ns b m->(Hj c.heap H).Ns b m:=fun{b m} ⟨o,C,D,e,d,r⟩=>⟨o,C,D,f e (Q e d),d,r⟩;have E:K.In (Hj c.heap H):=fun b o e=>f (U b o e) (by
   cases q:H b with
   |none=>rfl
   |some u=>
    have R:b=a:=hA b (by rw[q];simp);subst R;rw[hK (by rw[q];simp)]at e;cases e)
  have hM:Mod K mg (Hj c.heap H):=⟨E,j t,⟨L,j g,M⟩,let⟨mc,h1,h2⟩:=y;⟨mc,j h1,h2⟩⟩;have e0:LF P w K mg (Hj c.heap H) callerA [] c H:=⟨rfl,hM,fun b o e=>TZ e,Nat.le_of_eq (OG _ _),trivial,fun b g=>absurd (show b∈([]:List Addr)from g) (by simp),B,.of_eq hg⟩;refine codeAny_mono ((F _ E (j t)).run callerA [] c H ⟨[.ref a],[]⟩ [.ref a] [.ref a] _ _ hr e0 (l c (.ref a)) (.cons rfl .nil) (N H hO hS)) fun r i h=>?_;cases r with
  |error e=>exact(O H e i h).elim
  |ok fl=>
   cases fl with
   |next=>exact False.elim h
   |brk=>exact False.elim h
   |cont=>exact False.elim h
   |ret u=>
    obtain⟨v,H',os,bare,un,G,r',q⟩:=h;have q':v=.bl true:=q;subst q';obtain rfl:u=Value.bool true:=r';refine⟨rfl,OldK.of_keep fun b o e=>?_,os,bare⟩;cases q:H b with
    |none=>exact un.keep b o e q (by intro z;exact absurd (show b∈([]:List Addr)from z) (by simp)) (by simp)
    |some u=>
     rcases hO b with z|⟨ob,xs,z⟩
     ·rw[q]at z;cases z
     ·have z2:=un.DV b ob _ z;obtain⟨e1,_⟩:=B b _ z;obtain⟨e2,_⟩:=G b _ z2;rw[e]at e1;cases e1;exact e2
 cases S:K.lookup a with
 |some o=>
  have e:=U a o S;rw[J]at e;cases e;refine core (fun _=>none) (fun _=>.inl rfl) (.inr ⟨_,vs.toArray,_,S,rfl,rfl,rfl,by rw[List.size_toArray,A];exact Y,by simpa using Z⟩) (fun b u z=>by have I:(none:Option HO)=some u:=z;cases I) (fun b z=>absurd rfl z) fun z=>absurd rfl z
 |none=>
  refine core (fun b=>if b=a then some (.CU {cls:=.type "list",data:=.seq vs.toArray} (.lst (p.map V.int)))else none) (fun b=>?_) (.inl (.inr ⟨{cls:=.type "list",data:=.seq vs.toArray},if_pos rfl⟩)) (fun b u z=>?_) (fun b z=>?_) fun _=>S
  ·by_cases g:b=a
   ·exact .inr ⟨_,_,if_pos g⟩
   ·exact .inl (if_neg g)
  ·by_cases g:b=a
   ·have I:=(if_pos g).symm.trans z;cases I;subst g;exact⟨J,by rw[List.length_map];exact Y,vs,_,Z,J⟩
   ·have I:=(if_neg g).symm.trans z;cases I
  ·by_cases g:b=a
   ·exact g
   ·exact absurd (if_neg g) z
theorem Tx{l:PySem.W.OpenLaw}{n:Nat}{q:Program}{loose:List Str}{C:(Str->Option Value)->Heap->Prop}{YP:World->Heap->Prop}{d:DefRec}{K:Params->mw}{CX:World->Je}{sp:World->Sp}(D:l.most=some n)(m:n<=sizeLine)(p:d.params.defaults=[])(E:Av k callerA)(I:∀(w:World) (h:Heap),YP w h->(K w.params).In h)(F:∀(w:World) (mg:Str->Option Value) (fa:Addr) (h:Heap),(K w.params).In h->h.Ns mainGlobals mg->mg d.name=some (.ref fa)->
   ∃r:FuncData,(∀(s:Shared) (u:Value),BindsTo s r ⟨[u],[]⟩ [(x,u)])/\
    ∀base:Heap,(K w.params).In base->base.Ns mainGlobals mg->AX l.prog w (K w.params) mg base (CX w) k fa r [x] (sp w))(t:∀(w:World) (H:Hp) (a:Addr) (j:List Int),j.length<=n->XU H->BC (K w.params) H a (j.map V.int)->sp w [.ref a] H (fun v _=>v=.bl true) fun _ _ _=>False)(y:∀(w:World) (H:Hp) (s:Shared) (e:Value) (s':Shared),CX w [] H s (fun _ _ _=>False) e s'->False):
  PySem.W.WalkO q loose C YP l.row.toRowW d [] (fun f vs=>PySem.call f vs):=by
 refine fV.Jk D p fun w A c mg R fa o S U J a vs j G Y X Z L z i hints hlen M=>?_;have B:=I w _ Y;obtain⟨r,N,O⟩:=F w mg fa _ B G.T.g z;exact QX B G.T.g G.T.b G.T.builtins G.T.nolimit M i hints (Nat.le_trans hlen m) E O N (fun H P Q=>t w H a j hlen P Q) fun H e s'=>y w H c e s'
def inClass(s:Stmt)(j:Nat):Stmt:=match s with
 | .ClassDef _ _ _ body _ _ _ _ _ _ _=>body.getD j (.Pass ⟨0,0,0,0⟩)
 |_=>.Pass ⟨0,0,0,0⟩
def Ab(s:Stmt):Arguments:=match s with
 | .FunctionDef _ a _ _ _ _ _ _ _ _=>a
 |_=>{posonlyargs:=[],args:=[],vararg:=none,kwonlyargs:=[],kw_defaults:=[],kwarg:=none,defaults:=[]}
def AZ(s:Stmt):List Stmt:=match s with
 | .FunctionDef _ _ b _ _ _ _ _ _ _=>b
 |_=>[]
def AO(s:Stmt):Scope:=match s with
 | .FunctionDef _ _ _ _ _ _ a _ _ _=>a
 |_=>{kind:=.function,names:=[],isGenerator:=false,isCoroutine:=false}
abbrev BN:Je:=fun _ _ _ _ _ _=>False
abbrev E0:XK:=fun _ _ _=>False
variable{X:Cx}
theorem Cw:Passes BN X E0:=fun _ _ _ _ _ _ _ h=>h.elim
structure Cy(K:mw)(x qual:Str)(st:Stmt)(f:Addr)(fd:FuncData):Prop where
 ex:∃(oc:Value)(od:Option Addr)(kV doc pm:Value)(an:Option Addr)(cY ct:Value)(iR:Array (Option Value)),
  fd=PySem.W.fnOf x qual (Ab st) (AZ st) (AO st) .none kV doc pm an cY ct/\K.lookup f=some ⟨oc,od,.func fd,iR⟩/\PySem.W.codeIn K cY qual=true
 kp:PySem.W.keepIn K (.ref f)=true
variable{qual:Str}{st:Stmt}{f:Addr}
section
variable {base:Heap}
theorem Cy.ok{g:FuncData}{N ps:List Str}{sp:Sp}(F:Cy K x qual st f g)(S:B' N ps (AO st))(len:∀vs H Q E,sp vs H Q E->vs.length=ps.length)(b:∀(a:Value) (A:Around) (outer:List Env) (s:Shared) (H:Hp) (vs:List V) (e:Ends) (E:XK),(∀{i H},e.rt .Aj H->e.nx i H)->Av k (A.deeper (envOfC qual (AO st) s.heap.objs.size f a))->sp vs H e.rt E->
   ∃t,Hk (Eo BN P w K mg base N qual (AO st) f a A outer s H E).Zh (AZ st) t/\t e (start N vs) H):AX P w K mg base BN (k+1) f g ps sp:=by
 obtain⟨o,p,kV,j,r,u,a,v,l,rfl,lk,c⟩:=F.ex;refine WL lk c S len fun A outer s H vs Q E m d=>?_;obtain⟨t,h,q⟩:=b a A outer s H vs {nx:=fun _ n=>Q .Aj n,rt:=Q} E id m d;exact⟨t,h.Zh,q⟩
theorem Cy.binds{e:FuncData}{ps:List Str}(F:Cy K x qual st f e)(h:∀(kV a c:Value) (d:Option Addr) (b ct:Value) (us:List Value),us.length=ps.length->bindArgs (PySem.W.fnOf x qual (Ab st) (AZ st) (AO st) .none kV a c d b ct) ⟨us,[]⟩=pure (ps.zip us)):Binds K e ps []:=by
 obtain⟨j,k,kV,a,c,d,b,ct,g,rfl,lk,i⟩:=F.ex;exact .all (h kV a c d b ct)
theorem BB{h:Value}{od e:Option Addr}{d:Array (Option Value)}{kV b g a ct:Value}(l:K.lookup f=some ⟨h,od,.func (PySem.W.fnOf x qual (Ab st) (AZ st) (AO st) .none kV b g e a ct),d⟩)(c:PySem.W.codeIn K a qual=true)(k:PySem.W.keepIn K (.ref f)=true):Cy K x qual st f (PySem.W.fnOf x qual (Ab st) (AZ st) (AO st) .none kV b g e a ct):=⟨⟨h,od,kV,b,g,e,a,ct,d,rfl,l,c⟩,k⟩
end
variable{A:Around}
theorem M'(a:Av k A):A.units+1<cLine:=Nat.lt_of_le_of_lt (Nat.add_le_add_left (by decide:1<=64) _) a.units
theorem BK{n:Nat}(h:n<=1000):n<sizeLine:=Nat.lt_of_le_of_lt h (by decide)
section
theorem pv(i:Nat){pos:Pos}(b:X.N[i]?=some x:=by rfl)(c:Zr X.env.scope x:=by first|exact Or.inl rfl|exact Or.inr (Or.inl rfl)|exact Or.inr (Or.inr rfl))(d:(x==("__debug__":Str))=false:=by decide)(a:(x==("__classdict__":Str))=false:=by decide):PE X (.Name x pos) (Wu i):=Wv b c d a
end
theorem Ac{A B:Prop}(h:B):if false=true then A else B:=by
 rw[if_neg Bool.false_ne_true];exact h
theorem Cc{A B:Prop}(h:A):if true=true then A else B:=by
 rw[if_pos rfl];exact h
theorem Jl{c A B:Prop}[Decidable c](a:c->A)(b:¬c->B):if c then A else B:=by
 by_cases h:c
 ·rw[if_pos h];exact a h
 ·rw[if_neg h];exact b h
def AJ(H a:Hp):Prop:=∀b o,H b=some o->a b=some o
theorem AJ.refl(H:Hp):AJ H H:=fun _ _ h=>h
variable{H:Hp}
theorem AJ.trans{d e:Hp}(a:AJ H d)(b:AJ d e):AJ H e:=fun c o h=>b c o (a c o h)
theorem AJ.free{a:Hp}(e:AJ H a){l:Addr}(h:a l=Option.none):H l=Option.none:=by
 cases q:H l with
 |none=>rfl
 |some o=>
  rw[e l o q]at h;cases h
theorem AJ.seq{b:Hp}{a:Addr}{xs:List V}(e:AJ H b)(h:BC K H a xs):BC K b a xs:=by
 rcases h with(h|⟨o,h⟩)|h
 ·exact .inl (.inl (e _ _ h))
 ·exact .inl (.inr ⟨o,e _ _ h⟩)
 ·exact .inr h
section
variable{κ:Type} [DecidableEq κ]
end
variable{s:Shared}{scope:Scope}
theorem LP{prog:Program}{R:Result->Shared->Prop}{a f iter:Expr}{d:List Expr}{pos:Pos}{it b:Value}{env:Env}(e:Nat->Shared->Prop)(step:∀n s,e n s->wpAny (model prog w) A (pyNext it) (fun r o=>match r with
   |none=>R (.ok .next) o
   |some v=>wpAny (model prog w) A (letOwnedTupleGo f it v) (fun _ p=>wpAny (model prog w) A (assign f env v) (fun _ u=>
     wpAny (model prog w) A (forIn d true fun c r=>if r=true then do let ok<-isTrue c env (eval c env);pure (ForInStep.yield ok)else pure (ForInStep.yield r)) (fun ok g=>
      if ok=true then wpAny (model prog w) A (eval a env) (fun y i=>wpAny (model prog w) A (call (.builtin "list.append") [b,y]) (fun _ j=>∃m,m<n/\e m j) (fun _ _=>False) i) (fun _ _=>False) g
      else∃m,m<n/\e m g) (fun _ _=>False) u) (fun _ _=>False) p) (fun _ _=>False) o) (fun _ _=>False) s)(n:Nat)(h:e n s):codeAny (model prog w) A (.compLoop (.ListComp a [⟨f,iter,d,0⟩] scope pos) 0 it b env) R s:=by
 have up:∀{B:Type}{t:Sem B}{Q:B->Shared->Prop}{E:Value->Shared->Prop}{s:Shared},wpAny (model prog w) A t Q (fun _ _=>False) s->wpAny (model prog w) A t Q E s:=
  fun h=>wpAny_mono h (fun _ _ q=>q) fun _ _ z=>z.elim
 refine codeAny_loop rfl e (fun k s D=>?_) n h;show wpAny _ A ((compTurn (.ListComp a [⟨f,iter,d,0⟩] scope pos) 0 it b env).onRaise (fun x=>do noteFrame x env;theTreesLotGoes x)) _ _ s;refine wpAny_noted ?_;rw[compTurn_list];refine wpAny_bind (wpAny_standAt (wpAny_bind (wpAny_mono (up (step k s D)) (fun r o C=>?_) fun _ _ z=>z)));cases r with
 |none=>exact wpAny_pure C
 |some v=>
  refine wpAny_bind (wpAny_mono (up C) (fun _ p F=>?_) fun _ _ z=>z);refine wpAny_bind (wpAny_mono (up F) (fun _ u G=>?_) fun _ _ z=>z);refine wpAny_bind (wpAny_mono (up G) (fun ok g l=>?_) fun _ _ z=>z);cases ok with
  |false=>exact wpAny_pure ⟨rfl,l⟩
  |true=>
   have l:wpAny (model prog w) A (eval a env) (fun y i=>wpAny (model prog w) A (call (.builtin "list.append") [b,y]) (fun _ j=>∃m,m<k/\e m j) (fun _ _=>False) i) (fun _ _=>False) g:=l;exact wpAny_bind (wpAny_bind (wpAny_mono (up l) (fun y i H=>wpAny_bind (wpAny_mono (up H) (fun _ j I=>wpAny_pure (wpAny_pure ⟨rfl,I⟩)) fun _ _ z=>z)) fun _ _ z=>z))
noncomputable def Bl(cells:List (Str×Addr)):List (Str×NameKind)->List (Str×Addr)->List (Str×Addr)
 |[],a=>a
 |(n,k)::r,a=>if k==.free then Bl cells r ((n,(cells.lookup n).getD 0)::a)else Bl cells r a
theorem Cd{x:Str}:∀(names:List (Str×NameKind))(a:List (Str×Addr)),(∀p∈names,p.2=.free->∃c,cells.lookup p.1=some c)-> (∀y d,a.lookup y=some d->cells.lookup y=some d)->(Bl cells names a).lookup x=some c->cells.lookup x=some c
 |[],a=>fun _ g h=>g x c h
 |(n,k)::r,a=>fun i g h=>by
  unfold Bl at h;by_cases j:(k==NameKind.free)=true
  ·rw[if_pos j]at h;have o:k=.free:=by simpa using j
   obtain⟨d,q⟩:=i (n,k) List.mem_cons_self o;refine Cd r _ (fun p l=>i p (List.mem_cons_of_mem _ l)) (fun y e f=>?_) h;rw[List.lookup_cons]at f;cases b:y==n with
   |true=>
    rw[b]at f;have:y=n:=by simpa using b
    subst this;have m:List.lookup y cells=some d:=q;rw[m]at f⊢;exact f
   |false=>
    rw[b]at f;exact g y e f
  ·rw[if_neg j]at h;exact Cd r a (fun p l=>i p (List.mem_cons_of_mem _ l)) g h
theorem DM:∀(names:List (Str×NameKind))(a:List (Str×Addr)),((a.lookup x).isSome=true∨(x,NameKind.free)∈names)->((Bl cells names a).lookup x).isSome=true
 |[],a,h=>h.elim (fun z=>z) fun z=>nomatch z
 |(n,k)::r,a,h=>by
  unfold Bl;by_cases b:(k==NameKind.free)=true
  ·rw[if_pos b];refine DM r _ ?_;rcases h with h|h
   ·refine .inl ?_;rw[List.lookup_cons];cases x==n<;>simp[h]
   ·rcases List.mem_cons.mp h with e|e
    ·refine .inl ?_;have:x=n:=congrArg Prod.fst e;subst this;rw[List.lookup_cons];simp
    ·exact .inr e
  ·rw[if_neg b];refine DM r _ ?_;rcases h with h|h
   ·exact .inl h
   ·rcases List.mem_cons.mp h with e|e
    ·have:NameKind.free=k:=congrArg Prod.snd e;subst this;exact absurd rfl b
    ·exact .inr e
theorem CI(h:∀p∈scope.names,p.2=.free->∃c,env.cells.lookup p.1=some c):closureFor scope env=pure (Bl env.cells scope.names []):=by
 have go:∀(names:List (Str×NameKind))(b:List (Str×Addr)),(∀p∈names,p.2=.free->∃c,env.cells.lookup p.1=some c)-> (forIn names b (fun(x:Str×NameKind) r=>if(x.2==NameKind.free)=true then do let a<-cellOf env x.1;pure (ForInStep.yield ((x.1,a)::r))else pure (ForInStep.yield r)):Sem (List (Str×Addr)))=pure (Bl env.cells names b):=by
  intro names
  induction names with
  |nil=>intro b _;rfl
  |cons p r j=>
   intro b f;obtain⟨n,k⟩:=p;rw[List.forIn_cons];unfold Bl;by_cases g:(k==NameKind.free)=true
   ·have l:k=.free:=by simpa using g
    obtain⟨c,d⟩:=f (n,k) List.mem_cons_self l;have d:List.lookup n env.cells=some c:=d;have e:cellOf env n=pure c:=by unfold cellOf;rw[d]
    simp only[g,if_true,e,d,Option.getD_some];exact j _ fun p i=>f p (List.mem_cons_of_mem _ i)
   ·simp only[g,if_false];exact j _ fun p i=>f p (List.mem_cons_of_mem _ i)
 unfold closureFor;exact Eq.trans (congrArg (fun t:Sem (List (Str×Addr))=>t>>=fun m=>pure m) (go scope.names [] h)) rfl
def Jm(env:Env)(n:Str)(k:NameKind):NameKind:=if(k==.free&&env.scope.kind==.function&&env.kindOf n==some .cell)=true then .cell else k
theorem Ds{g:Str->NameKind->NameKind}(y:Str):∀names:List (Str×NameKind),(names.map fun p=>(p.1,g p.1 p.2)).lookup y=(names.lookup y).map (g y)
 |[]=>rfl
 |(n,k)::r=>by
  rw[List.map_cons,List.lookup_cons,List.lookup_cons];cases e:y==n with
  |true=>
   have:y=n:=by simpa using e
   subst this;rfl
  |false=>exact Ds y r
theorem Bu(scope:Scope)(env:Env)(y:Str):(relabel scope env).names.lookup y=(scope.names.lookup y).map (Jm env y):=by
 have e:(relabel scope env).names=scope.names.map fun p=>(p.1,Jm env p.1 p.2):=by
  unfold relabel;refine List.map_congr_left fun p _=>?_;obtain⟨n,k⟩:=p;show(if(k==NameKind.free&&env.scope.kind==.function&&env.kindOf n==some .cell)=true then(n,NameKind.cell)else(n,k))=(n,if(k==NameKind.free&&env.scope.kind==.function&&env.kindOf n==some .cell)=true then NameKind.cell else k);by_cases h:(k==NameKind.free&&env.scope.kind==.function&&env.kindOf n==some .cell)=true
  ·rw[if_pos h,if_pos h]
  ·rw[if_neg h,if_neg h]
 rw[e];exact Ds y _
def Bv(a:St)(fs:List Nat):St:=fs.map fun i=>(a[i]?).join
theorem Oc{b:St}{fs:List Nat}{j:Nat}{v:V}(h:(Bv b fs)[j]?=some (some v)):∃i,fs[j]?=some i/\b[i]?=some (some v):=by
 unfold Bv at h;rw[List.getElem?_map]at h;cases e:fs[j]? with
 |none=>rw[e]at h;cases h
 |some i=>
  rw[e]at h;refine⟨i,rfl,?_⟩;have a:(b[i]?).join=some v:=mr h;cases e2:b[i]? with
  |none=>rw[e2]at a;cases a
  |some o=>
   rw[e2]at a;have a:o=some v:=a;rw[a]
noncomputable def kindB:Bool->NameKind
 |true=>.cell
 |false=>.local
noncomputable def XW:Bool->Str->List (Str×NameKind)
 |true,x=>[(x,.cell)]
 |false,_=>[]
noncomputable def EI:Bool->Str->Addr->List (Str×Addr)
 |true,x,C=>[(x,C+1)]
 |false,_,_=>[]
theorem DX:∀(names:List (Str×NameKind))(n:Nat)(a:List (Str×Addr))(h:Heap),names.filter (fun p=>p.2==.cell)=[]->cellsFrom n names a=a/\pushCells h names=h
 |[],_,_,_,_=>⟨rfl,rfl⟩
 |(y,k)::r,n,a,h,e=>by
  rw[List.filter_cons]at e;cases b:k==NameKind.cell with
  |true=>rw[b]at e;simp at e
  |false=>
   rw[b]at e;unfold cellsFrom pushCells;rw[b];exact DX r n a h (by simpa using e)
theorem HC:∀(names:List (Str×NameKind))(n:Nat)(a:List (Str×Addr))(h:Heap),names.filter (fun p=>p.2==.cell)=[(x,.cell)]->cellsFrom n names a=(x,n)::a/\pushCells h names=h.push {cls:=.type "cell",data:=.cell none}
 |[],_,_,_,e=>by simp at e
 |(y,k)::r,n,a,h,e=>by
  rw[List.filter_cons]at e;cases b:k==NameKind.cell with
  |true=>
   rw[b]at e;simp only[if_true,List.cons.injEq,Prod.mk.injEq]at e;unfold cellsFrom pushCells;rw[b];simp only[if_true];obtain⟨e1,e2⟩:=DX r (n+1) ((y,n)::a) (h.push {cls:=.type "cell",data:=.cell none}) e.2;rw[e1,e2,e.1.1];exact⟨rfl,rfl⟩
  |false=>
   rw[b]at e;unfold cellsFrom pushCells;rw[b];exact HC r n a h (by simpa using e)
variable{E:Value->Shared->Prop}
theorem Ff{M:Model}{globals:Addr}{cl:List (Str×Addr)}{outer:Env}{Q:Env->Shared->Prop}(d:scope.names.filter (fun p=>p.2==.cell)=XW b x)(f:∀h':Heap,h'.Ns s.heap.objs.size (fun _=>none)->(∀a o,s.heap.get? a=some o->h'.get? a=some o)->(b=true->h'.IsCell (s.heap.objs.size+1) none)->
   Q {scope,locals:=s.heap.objs.size,globals,cells:=EI b x s.heap.objs.size++cl,qual,func:=none,code:=outer.code,frame:=outer.frame,builtins:=outer.builtins} {s with heap:=h'}):
  wpAny M A (newFunctionEnv scope globals cl [] qual none .none (some outer)) Q E s:=by
 simp only[newFunctionEnv,Option.isSome_some,if_true];refine wpAny_bind (wpAny_alloc ?_);refine wpAny_bind (wpAny_layCells _ (fun name kind cells=>by cases c:kind==NameKind.cell<;>simp[c]) _ _ _ _ ?_);rw[List.forIn_nil];refine wpAny_bind (wpAny_pure (wpAny_pure ?_));have sz:(s.heap.push {cls:=.type "dict",data:=.dict #[]}).objs.size=s.heap.objs.size+1:=Heap.size_push ..;cases b with
 |false=>
  obtain⟨e1,e2⟩:=DX scope.names (s.heap.push {cls:=.type "dict",data:=.dict #[]}).objs.size cl (s.heap.push {cls:=.type "dict",data:=.dict #[]}) d;show Q {scope:=_,locals:=_,globals:=_,cells:=cellsFrom (s.heap.push {cls:=.type "dict",data:=.dict #[]}).objs.size scope.names cl,qual:=_,func:=_,code:=_,frame:=_,builtins:=_} {s with heap:=pushCells (s.heap.push {cls:=.type "dict",data:=.dict #[]}) scope.names};rw[e1,e2];exact f _ (Heap.Ns.new s.heap (.type "dict")) (fun a o e=>Heap.get?_push_of_some _ e) (fun z=>nomatch z)
 |true=>
  obtain⟨e1,e2⟩:=HC scope.names (s.heap.push {cls:=.type "dict",data:=.dict #[]}).objs.size cl (s.heap.push {cls:=.type "dict",data:=.dict #[]}) d;show Q {scope:=_,locals:=_,globals:=_,cells:=cellsFrom (s.heap.push {cls:=.type "dict",data:=.dict #[]}).objs.size scope.names cl,qual:=_,func:=_,code:=_,frame:=_,builtins:=_} {s with heap:=pushCells (s.heap.push {cls:=.type "dict",data:=.dict #[]}) scope.names};rw[e1,e2,sz];exact f _ ((Heap.Ns.new s.heap (.type "dict")).push _) (fun a o e=>Heap.get?_push_of_some _ (Heap.get?_push_of_some _ e)) (fun _=>⟨_,by rw[<-sz];exact Heap.get?_push_size _ rfl,rfl⟩)
structure Bf(X:Cx)(scope:Scope)(x:Str)(fv:List Str)(fs:List Nat)(b:Bool:=false):Prop where
 kind:scope.kind=.function
 fW:scope.names.filter (fun p=>p.2==.cell)=XW b x
 names:∀p∈scope.names,p.2=.local->scope.names.lookup p.1=some .local
 tg:scope.names.lookup x=some (kindB b)
 free:∀p∈scope.names,p.2=.free->X.env.scope.names.lookup p.1=some .cell
 nd:(x::fv).Nodup
 iS:∀(j:Nat) y,fv[j]?=some y->∃i,fs[j]?=some i/\X.N[i]?=some y/\scope.names.lookup y=some .free
 len:fv.length=fs.length
def NA(a:Scope)(N:List Str)(scope:Scope)(x:Str)(fv:List Str)(fs:List Nat)(b:Bool:=false):Bool:=
 scope.kind==.function&&scope.names.filter (fun p=>p.2==.cell)==XW b x&&(scope.names.all fun p=>p.2 !=.local||scope.names.lookup p.1==some .local)&&scope.names.lookup x==some (kindB b)&&
 (scope.names.all fun p=>p.2 !=.free||a.names.lookup p.1==some .cell)&&decide (x::fv).Nodup&&fs.map (N[·]?)==fv.map some&&(fv.all fun y=>scope.names.lookup y==some .free)
theorem Bf.of(h:NA X.env.scope X.N scope x fv fs b=true):Bf X scope x fv fs b:=by
 unfold NA at h;simp only[Bool.and_eq_true,List.all_eq_true,Bool.or_eq_true,bne_iff_ne,beq_iff_eq,decide_eq_true_eq]at h;obtain⟨⟨⟨⟨⟨⟨⟨i,k⟩,m⟩,n⟩,o⟩,q⟩,g⟩,r⟩:=h;have hlen:fs.length=fv.length:=by
  have:=congrArg List.length g;simpa using this
 refine⟨i,k,fun p c d=>(m p c).resolve_left fun z=>z d,n,fun p c d=>(o p c).resolve_left fun z=>z d,q,fun j y e=>?_,hlen.symm⟩;have s:j<fv.length:=(mq e).1;have f:=congrArg (fun l=>l[j]?) g;simp only[List.getElem?_map,e]at f;have a:j<fs.length:=by lia
 rw[mn a]at f;refine⟨fs[j],mn a,?_,r y (mu e)⟩;simpa using f
abbrev BV(X:Cx)(ex:List (Str×Addr))(N':List Str)(scope:Scope)(C:Addr)(s0:Shared)(H0:Hp)(fp:List Addr):Cx where
 prog:=X.prog
 w:=X.w
 K:=X.K
 mg:=X.mg
 base:=X.base
 A:=X.A
 N:=N'
 s₀:=s0
 H₀:=H0
 env:=compEnvC scope (ex++Bl X.env.cells scope.names []) C X.env
 outer:=X.stack
 stack:=X.stack
 ex:=fp
 fn:=fun y=>(ex.lookup y).isSome
 calm:=X.calm
 pn:=[]
 xe:=fun _ _=>False
abbrev Jn(X:Cx)(a:List Str)(scope:Scope)(C:Addr)(b:Shared)(c:Hp)(d:List Addr):Cx:=BV X [] a scope C b c d
variable{pins:List (Addr×Obj)}{fv:List Str}
section
variable {σ:St} {H':Hp} {s':Shared} {fs:List Nat} {fp:List Addr} {b:Bool}
theorem Bf.cells(ok:Bf X scope x fv fs b)(I:Inv X pins σ H s):∀p∈scope.names,p.2=.free->∃c,X.env.cells.lookup p.1=some c:=fun p a d=>I.ok.has p.1 (.inl (ok.free p a d))
theorem Bf.look(ok:Bf X scope x fv fs b)(I:Inv X pins σ H s)(h:(Bl X.env.cells scope.names []).lookup y=some c):X.env.cells.lookup y=some c:=
 Cd scope.names [] (ok.cells I) (fun _ _ z=>by cases z) h
theorem Fg(h:(EI b x C).lookup y=some c):b=true/\y=x/\c=C+1:=by
 cases b with
 |false=>cases h
 |true=>
  have h:(List.lookup y [(x,C+1)])=some c:=h;rw[List.lookup_cons]at h;cases e:y==x with
  |true=>rw[e]at h;cases h;exact⟨rfl,eq_of_beq e,rfl⟩
  |false=>rw[e]at h;cases h
theorem LQ(ok:Bf X scope x fv fs b)(I:Inv X pins σ H s)(D:∀b∈fp,Dj X pins H b)(w:∀b∈fp,∃o,s.heap.get? b=some o){t:Heap}{m:Str->Option Value}{tk:Nat}(P:t.Ns s.heap.objs.size m)(kept:∀b o,s.heap.get? b=some o->t.get? b=some o)(A:b=true->t.IsCell (s.heap.objs.size+1) none):Inv (BV X (EI b x s.heap.objs.size) (x::fv) scope s.heap.objs.size s H fp) [] (none::Bv σ fs) H {s with heap:=t,toks:=tk}:=by
 have B:∀{y c},(EI b x s.heap.objs.size++Bl X.env.cells scope.names []).lookup y=some c->X.env.cells.lookup y=some c∨(b=true/\y=x/\c=s.heap.objs.size+1):=fun{y c} h=>by
  rw[List.lookup_append]at h;cases e:(EI b x s.heap.objs.size).lookup y with
  |some d=>rw[e]at h;cases h;exact .inr (Fg e)
  |none=>rw[e]at h;exact .inl (ok.look I (by simpa using h))
 have lt:∀{y c},X.env.cells.lookup y=some c->c<s.heap.objs.size:=fun h=>by obtain⟨_,o,n,_⟩:=I.cell _ _ h;exact Heap.lt_size n
 have E:X.env.scope.kind=.function:=I.ok.kind;refine⟨⟨I.ok.mod,ok.kind,I.ok.glob,I.ok.blt,Nat.le_refl _,fun y z c t Q=>?_,fun y f=>?_,fun y c q h=>?_,I.ok.hd,I.ok.frames,.inl rfl,fun b g=>⟨?_,fun y c e z=>?_⟩,I.bs,
  Nat.le_trans I.ok.TV I.sz,fun b o e g=>?_,fun b g F=>?_,I.stack,I.Dh⟩,rfl,I.bare,Un.kept kept,⟨m,P,fun i y v e1 e2 e3=>?_⟩,fun y c e=>?_,I.fresh,fun y c e=>?_,fun p R=>absurd (show p∈([]:List (Addr×Obj))from R) (by simp),I.As.kept kept,?_⟩
 ·rcases B t with a|⟨_,a1,a2⟩<;>rcases B Q with d|⟨_,S,d2⟩
  ·exact I.ok.inj y z c a d
  ·have:=lt a;lia
  ·have:=lt d;lia
  ·rw[a1,S]
 ·have f:(relabel scope X.env).names.lookup y=some .cell∨(relabel scope X.env).names.lookup y=some .free:=f;rw[Bu]at f;cases e:scope.names.lookup y with
  |none=>rw[e]at f;rcases f with z|z<;>cases z
  |some k=>
   show∃c,(EI b x s.heap.objs.size++Bl X.env.cells scope.names []).lookup y=some c;rw[List.lookup_append];rw[e]at f;have f:Jm X.env y k=.cell∨Jm X.env y k=.free:=f.elim (fun z=>.inl (mr z)) fun z=>.inr (mr z);by_cases G:k=.free
   ·subst G;have:=DM (cells:=X.env.cells) scope.names [] (.inr (PySem.mem_of_lookup e));obtain⟨c,T⟩:=Option.isSome_iff_exists.mp this;rw[T];cases(EI b x s.heap.objs.size).lookup y<;>exact⟨_,rfl⟩
   ·have e2:Jm X.env y k=k:=by
     unfold Jm;have:(k==NameKind.free)=false:=by simpa using G
     rw[this];rfl
    rw[e2]at f;rcases f with z|z
    ·subst z;have J:(y,NameKind.cell)∈scope.names.filter (fun p=>p.2==.cell):=List.mem_filter.mpr ⟨PySem.mem_of_lookup e,rfl⟩;rw[ok.fW]at J;cases b with
     |false=>cases J
     |true=>
      have:y=x:=congrArg Prod.fst (List.mem_singleton.mp J);subst this;exact⟨s.heap.objs.size+1,by show(List.lookup y [(y,s.heap.objs.size+1)]).or _=_;rw[List.lookup_cons];simp⟩
    ·exact absurd z G
 ·have q:((EI b x s.heap.objs.size).lookup y).isSome=true:=q;obtain⟨d,hd⟩:=Option.isSome_iff_exists.mp q;have h:(EI b x s.heap.objs.size++Bl X.env.cells scope.names []).lookup y=some c:=h;rw[List.lookup_append,hd]at h;cases h;obtain⟨_,_,rfl⟩:=Fg hd;exact Nat.le_succ _
 ·obtain⟨o,n⟩:=w b g;exact Nat.ne_of_lt (Heap.lt_size n)
 ·rcases B e with a|⟨_,_,a2⟩
  ·exact(D b g).2.2.2.2.1 y c a z
  ·obtain⟨o,n⟩:=w b g;have:=Heap.lt_size n;lia
 ·rcases(D b g).2.2.2.1 with z|z
  ·exact I.ok.OH b o e z
  ·exact absurd (Nat.lt_of_lt_of_le (Heap.lt_size e) (Nat.le_trans I.ok.TV z)) (Nat.lt_irrefl _)
 ·rcases List.mem_cons.mp (I.FO b F)with z|z
  ·exact(D b g).2.1 z
  ·exact(D b g).2.2.1 z
 ·cases i with
  |zero=>
   have e2:(some none:Option (Option V))=some (some v):=e2;cases e2
  |succ j=>
   have e1:fv[j]?=some y:=e1;have e2:(Bv σ fs)[j]?=some (some v):=e2;obtain⟨i,U,Y⟩:=Oc e2;obtain⟨i',O,Z,K⟩:=ok.iS j y e1;rw[U]at O;cases O;have L:X.env.scope.names.lookup y=some .cell:=ok.free (y,.free) (PySem.mem_of_lookup K) rfl;obtain⟨m0,_,M⟩:=I.loc;obtain⟨u,r,l⟩:=M i y v Z Y (.inr (.inl L));refine⟨u,r,?_⟩;rcases l with⟨k,_⟩|⟨_,c,e,o,n,hd⟩
   ·have k:X.env.scope.names.lookup y=some .local:=k;rw[L]at k;cases k
   ·obtain⟨c',C⟩:=Option.isSome_iff_exists.mp (DM (cells:=X.env.cells) scope.names [] (.inr (PySem.mem_of_lookup K)));have:=ok.look I C;rw[e]at this;cases this;have W:(EI b x s.heap.objs.size).lookup y=none:=by
     cases ey:(EI b x s.heap.objs.size).lookup y with
     |none=>rfl
     |some d=>
      obtain⟨_,z,_⟩:=Fg ey;exact absurd (show x∈fv from z▸mu (l:=fv) (show fv[j]?=some y from e1)) (List.nodup_cons.mp ok.nd).1
    refine .inr ⟨.inl ?_,c,by show(EI b x s.heap.objs.size++Bl X.env.cells scope.names []).lookup y=some c;rw[List.lookup_append,W];exact C,o,kept _ _ n,hd⟩;show(relabel scope X.env).names.lookup y=some .cell;rw[Bu,K];show some (Jm X.env y .free)=_;have N:X.env.kindOf y=some .cell:=L;unfold Jm;rw[E,N];rfl
 ·rcases B e with a|⟨g,_,rfl⟩
  ·obtain⟨v,o,n,hd⟩:=I.cell y c a;exact⟨v,o,kept _ _ n,hd⟩
  ·exact⟨none,A g⟩
 ·rcases B e with a|⟨_,_,rfl⟩
  ·exact I.Bj y c a
  ·exact I.As.fresh (Nat.le_succ _)
 ·show(none::Bv σ fs).length=(x::fv).length;simp[Bv,ok.len]
theorem LR(I:Inv X pins σ H s)(a:∀b∈fp,Dj X pins H b)(c:Inv (BV X ex g scope C s H fp) [] e H' s'):Inv X pins σ H' s':=
 I.JX (ch:=fp) c.os c.base c.As c.bare fun b d=>⟨(a b d).2.2.2.1,(a b d).2.1,(a b d).2.2.2.2.1,(a b d).2.2.2.2.2⟩
theorem Inv.off(I:Inv X pins σ H s)(f:Dj X pins H C)(a:Heap.SameBut C s.heap h'):Inv X pins σ H {s with heap:=h'}:=
 I.turned (t':=s.toks) (fun b o c e=>a.extBut b o c e) f.1 (fun z=>f.2.1 z) f.2.2.2.1 f.2.2.2.2.1 f.2.2.2.2.2
end
def Zk(X:Cx)(a:List Expr)(t:TT):Prop:=
 ∀(pins:List (Addr×Obj))(s:Shared)(b:St)(H:Hp)(Q:Bool->Hp->Prop),Inv X pins b H s->t b H Q->
  wpAny (model X.prog X.w) X.A (forIn a true fun c r=>if r=true then do let ok<-isTrue c X.env (eval c X.env);pure (ForInStep.yield ok)else pure (ForInStep.yield r)) (TP X pins b Q) X.xe s
def XX:TT:=fun _ H Q=>Q true H
theorem NB:Zk X [] XX:=fun _ _ _ H _ I h=>wpAny_tests_nil ⟨H,I,h⟩
def Fh(J:It)(h:TT)(j:TE)(fs:List Nat)(d:St)(H:Hp)(Q:VK):Prop:=∀D,H D=none->∃W:Nat->Nat->Hp->Prop,(∃m,W 0 m (upd H D (.lst [])))/\∀i m a,W i m a-> (J.stop i a/\Q (.ref D) a)∨(J.go i a/\∀v e,J.Zi i a v e->h (some v::Bv d fs) e fun ok f=>
  if ok=true then j (some v::Bv d fs) f fun y g=>∃c,g D=some (.lst c)/\c.length<sizeLine/\∃b,b<m/\W (i+1) b (upd g D (.lst (c++[y])))else∃b,b<m/\W (i+1) b f)
def Jo(b:TI)(c:TT)(d:TE)(fs:List Nat):TE:=fun a H Q=>b a H fun J e=>Fh J c d fs a e Q
variable{Q:VK}{J:It}
section
variable {elt iter:Expr} {px pos:Pos} {ifs:List Expr} {fs:List Nat} {wi:TI} {te:TE} {tc:TT}
theorem Jp(hc:X.calm=true)(ok:Bf X scope x fv fs b)(iT:∀C s0 H0 f,Zk (BV X (EI b x C) (x::fv) scope C s0 H0 f) ifs tc)(he:∀C s0 H0 f,PE (BV X (EI b x C) (x::fv) scope C s0 H0 f) elt te){z:St}{it:Addr}{f:List Addr}{G:Nat->Heap->Prop}(I:Inv X pins z H s)(T:Turn X.prog X.w X.K (.Name x px) J f it G)(st:G 0 s.heap)(hf:∀b∈f,Dj X pins H b)(rd:Fh J tc te fs z H Q){RR:Value->Addr->Result->Shared->Prop}(iU:∀D C s' g,Inv X pins z g s'->Dj X pins g C->(∃m,s'.heap.Ns C m)->Q (.ref D) g->RR (.ref D) C (.ok .next) s'):
  wpAny (model X.prog X.w) X.A (newList []) (fun L c=>wpAny (model X.prog X.w) X.A (newFunctionEnv scope X.env.globals (Bl X.env.cells scope.names []) [] X.env.qual none .none (some X.env)) (fun j s4=>
   codeAny (model X.prog X.w) X.A (.compStart (.ListComp elt [⟨.Name x px,iter,ifs,0⟩] scope pos) 0 (.ref it) L {j with scope:=relabel scope X.env}) (RR L j.locals) s4) E c) E s:=by
 obtain⟨W,⟨m0,w0⟩,turn⟩:=rd s.heap.objs.size I.fresh;have Z:Inv X pins z (upd H s.heap.objs.size (.lst [])) {s with heap:=s.heap.push {cls:=.type "list",dict:=none,data:=.seq ([]:List Value).toArray}}:=I.aR (its:=[]) (ys:=[]) (t':=s.toks) .nil (Nat.zero_le _);refine wpAny_newObj_type ?_;show wpAny _ _ _ _ _ ({s with heap:=s.heap.push {cls:=.type "list",dict:=none,data:=.seq ([]:List Value).toArray}}:Shared);generalize iV:({s with heap:=s.heap.push {cls:=.type "list",dict:=none,data:=.seq ([]:List Value).toArray}}:Shared)=c at Z⊢;refine Ff ok.fW fun h1 iW kept M=>?_;have eh:c.heap=s.heap.push {cls:=.type "list",dict:=none,data:=.seq ([]:List Value).toArray}:=by rw[<-iV]
 have N:∀b o,s.heap.get? b=some o->c.heap.get? b=some o:=fun b o e=>by rw[eh];exact Heap.get?_push_of_some _ e
 have iX:∀b∈f,∃o,c.heap.get? b=some o:=fun b d=>let⟨o,ho,_⟩:=T.obj 0 _ st b d;⟨o,N b o ho⟩;have iY:∀b∈f,b≠s.heap.objs.size:=fun b d=>let⟨o,ho,_⟩:=T.obj 0 _ st b d;Nat.ne_of_lt (Heap.lt_size ho);have k:∀b∈f,Dj X pins (upd H s.heap.objs.size (.lst [])) b:=fun b d=>⟨by rw[AK (iY b d)];exact(hf b d).1,(hf b d).2⟩;have I4:=LQ (tk:=c.toks) ok Z k iX iW kept M;have O:G 0 h1:=T.keep 0 _ _ st fun b d o e=>kept b o (N b o e);have h:∀{g:Hp},(∀b∈f,g b=none)->∀a∈f,Dj (BV X (EI b x c.heap.objs.size) (x::fv) scope c.heap.objs.size c (upd H s.heap.objs.size (.lst [])) f) [] g a:=fun hn b d=>
  ⟨hn b d,(I4.ok.Zt b d).1,I4.ok.OI b d,.inl d,(I4.ok.Zt b d).2,fun p hp=>absurd hp (by simp)⟩
 have hg:PG (BV X (EI b x c.heap.objs.size) (x::fv) scope c.heap.objs.size c (upd H s.heap.objs.size (.lst [])) f) (.Name x px) (Eb 0):=by
  have tg:=ok.tg;cases b with
  |false=>exact Hl ok.nd rfl (.inl (lookup_relabel_local tg)) (.inr (lookup_relabel_local tg))
  |true=>exact Hl ok.nd rfl (.inr (show(relabel scope X.env).names.lookup x=_ from by rw[Bu,tg];rfl)) (.inl (show(List.lookup x [(x,c.heap.objs.size+1)]).isSome=true from by rw[List.lookup_cons];simp))
 have loop:codeAny (model X.prog X.w) X.A (.compLoop (.ListComp elt [⟨.Name x px,iter,ifs,0⟩] scope pos) 0 (.ref it) (.ref s.heap.objs.size) (compEnvC scope (EI b x c.heap.objs.size++Bl X.env.cells scope.names []) c.heap.objs.size X.env)) (RR (.ref s.heap.objs.size) c.heap.objs.size)
   {c with heap:=h1}:=by
  refine LP (fun n s'=>∃i o g,Inv (BV X (EI b x c.heap.objs.size) (x::fv) scope c.heap.objs.size c (upd H s.heap.objs.size (.lst [])) f) [] (o::Bv z fs) g s'/\G i s'.heap/\(∀b∈f,g b=none)/\W i n g) ?_ m0
   ⟨0,none,_,I4,O,fun b d=>(k b d).1,w0⟩
  rintro n s5 ⟨i,o,H5,I5,P,R,w5⟩;rcases turn i n H5 w5 with⟨stop,q⟩|⟨go,step⟩
  ·refine Ap (T.done (BV X (EI b x c.heap.objs.size) (x::fv) scope c.heap.objs.size c (upd H s.heap.objs.size (.lst [])) f) rfl rfl rfl hc i [] s5 _ H5 _ I5 (h R) P stop) fun r s6 ⟨hr,I6⟩=>?_;subst hr;obtain⟨m,hm,_⟩:=I6.loc;exact iU _ _ s6 H5 (LR Z k I6) (Z.Kv (Nat.le_refl _) I6.free) ⟨m,hm⟩ q
  ·refine Ap (T.item (BV X (EI b x c.heap.objs.size) (x::fv) scope c.heap.objs.size c (upd H s.heap.objs.size (.lst [])) f) rfl rfl rfl hc i [] s5 _ H5 _ I5 (h R) P go) fun r s6 ⟨u,hr,h6⟩=>?_;subst hr;refine Ap h6 fun _ s7 ⟨v,H7,I7,r7,y7,l,iZ⟩=>?_;have ia:=I7.pinned (h iZ) (T.obj _ _ l);have back:∀{S:St}{B:Hp}{U:Shared},Inv (BV X (EI b x c.heap.objs.size) (x::fv) scope c.heap.objs.size c (upd H s.heap.objs.size (.lst [])) f) ([]++FT f s7.heap) S B U->G (i+1) U.heap/\∀b∈f,B b=none:=fun{S B U} F=>
    ⟨T.keep _ _ _ l fun b d o e=>(F.pin (b,o) (CW d e)).1,fun b d=>by
     obtain⟨o,e,_⟩:=T.obj _ _ l b d;exact(F.pin (b,o) (CW d e)).2.1⟩
   refine Ap (hg _ s7 _ H7 v u (fun σ2 H2=>σ2=some v::Bv z fs/\H2=H7) ia r7 ⟨rfl,rfl⟩) fun _ s8 ⟨σ8,H8,I8,e8,ib⟩=>?_;subst e8 ib;refine Ap (iT _ _ _ _ _ s8 _ H8 _ I8 (step v H8 y7)) fun ok U ⟨B,F,q9⟩=>?_;cases ok with
   |false=>
    obtain⟨m',t,w9⟩:=q9;obtain⟨b1,b2⟩:=back F;exact⟨m',t,i+1,some v,B,F.Cp,b1,b2,w9⟩
   |true=>
    refine Ap (he _ _ _ _ _ U _ B _ F q9) fun y s10 ⟨yv,V,ie,r10,ys,hD,hz,m',t,w10⟩=>?_;refine Ap (EH _ s10 _ V (.ref s.heap.objs.size) [yv] (.ref s.heap.objs.size) [y] (fun _ g=>g=upd V s.heap.objs.size (.lst (ys++[yv]))) ie rfl (.cons r10 .nil) ⟨_,ys,yv,rfl,rfl,hD,hz,rfl⟩) fun _ s11 ⟨_,ig,Y,_,e11⟩=>?_;subst e11;obtain⟨b1,b2⟩:=back Y;exact⟨m',t,i+1,some v,_,Y.Cp,b1,b2,w10⟩
 exact codeAny_compStart_list loop (T.self _ 0 _ _ _ O loop)
theorem QY(b:Bool)(i:X.calm=true)(ok:Bf X scope x fv fs b)(j:PI X (.Name x px) iter wi)(c:∀C d e a,Zk (BV X (EI b x C) (x::fv) scope C d e a) ifs tc)(k:∀C d e a,PE (BV X (EI b x C) (x::fv) scope C d e a) elt te)(l:∀x,foldedSetIterable iter X.env x=pure x:=by intro _;rfl):PE X (.ListComp elt [⟨.Name x px,iter,ifs,0⟩] scope pos) (Jo wi tc te fs):=by
 intro pins s n H Q I h;rw[eval_ListComp];refine wpAny_comprehension_free (use:=none) rfl l (CI (ok.cells I)) ok.kind ok.names (Ap (j pins s n H _ I h) fun B E o=>Ap o fun p F r=>?_);obtain⟨G,a,K,J,L,rfl,t,T,f,u,v⟩:=r;exact Jp i ok c k t T f u v fun D C M w y z ⟨m,A⟩ q=>⟨m,A,fun N g=>⟨.ref D,w,y.off z g,rfl,q⟩⟩
theorem Tz(e:X.calm=true)(ok:Bf X scope x fv fs)(f:PI X (.Name x px) iter wi)(a:∀C b c d,Zk (Jn X (x::fv) scope C b c d) ifs tc)(g:∀C b c d,PE (Jn X (x::fv) scope C b c d) elt te)(h:∀x,foldedSetIterable iter X.env x=pure x:=by intro _;rfl):PE X (.ListComp elt [⟨.Name x px,iter,ifs,0⟩] scope pos) (Jo wi tc te fs):=QY false e ok f a g h
theorem Jq(b:Bool){d c:Pos}(L:X.calm=true)(ok:Bf X scope x fv fs b)(M:X.N.Nodup)(l:X.N[i]?=some y)(O:Loc X.env.scope y)(P:PI X (.Name x px) iter wi)(n:∀C o p j,Zk (BV X (EI b x C) (x::fv) scope C o p j) ifs tc)(R:∀C o p j,PE (BV X (EI b x C) (x::fv) scope C o p j) elt te)(r:swapsWith (.ListComp elt [⟨.Name x px,iter,ifs,0⟩] scope pos) (some (.Name y d)) c.line X.env=pure true:=by rfl)(t:X.fn y=true∨X.env.scope.names.lookup y=some .local:=by first|exact .inl rfl|exact .inr rfl|assumption)(S:∀x,foldedSetIterable iter X.env x=pure x:=by intro _;rfl):PS X (.Assign [.Name y d] (.ListComp elt [⟨.Name x px,iter,ifs,0⟩] scope pos) c) (fun D f H=>Jo wi tc te fs f H fun v g=>D.nx (f.set i (some v)) g):=by
 intro pins s f H D I h;rw[exec_Assign_Name_used _ _ _ _ r];refine wpAny_bind (wpAny_standAt (wpAny_bind ?_));show wpAny _ X.A (comprehension (.ListComp elt [⟨.Name x px,iter,ifs,0⟩] scope pos) scope X.env _ (newList []) false (eval iter X.env) (some (assign (.Name y d) X.env))>>=fun _=>pure ()) _ _ s;refine wpAny_bind (Ap (wpAny_comprehension_free (use:=some (assign (.Name y d) X.env)) (Q:=fun _ k=>SP X pins D .next k) rfl S (CI (ok.cells I)) ok.kind ok.names (Ap (P pins s f H _ I h) fun xv s1 U=>Ap U fun V s2 Y=>?_)) fun _ k Z=>wpAny_pure (wpAny_pure Z));obtain⟨it,j,tn,J,H2,rfl,W,T,u,f2,rd⟩:=Y;refine Jp (Q:=fun v g=>D.nx (f.set i (some v)) g) L ok n R W T u f2 rd fun K C k g I' w ⟨m,hm⟩ q=>?_;show wpAny _ X.A (assign (.Name y d) X.env (.ref K)) _ _ k;refine wpAny_assign_Name (Gv I' M l O (v:=.ref K) rfl (fun cU B ⟨a,E,ha⟩=>?_) t);have F:C≠a:=by
  rcases ha with z|z
  ·rw[z];exact w.2.1
  ·exact fun e=>w.2.2.2.2.1 y a z e.symm
 exact⟨m,hm.sameBut E F,fun h' G=>⟨_,g,B.off w G,q⟩⟩
theorem LS{j a:Pos}(l:X.calm=true)(ok:Bf X scope x fv fs)(m:X.N.Nodup)(b:X.N[i]?=some y)(n:Loc X.env.scope y)(o:PI X (.Name x px) iter wi)(c:∀C d e f,Zk (Jn X (x::fv) scope C d e f) ifs tc)(p:∀C d e f,PE (Jn X (x::fv) scope C d e f) elt te)(g:swapsWith (.ListComp elt [⟨.Name x px,iter,ifs,0⟩] scope pos) (some (.Name y j)) a.line X.env=pure true:=by rfl)(h:X.fn y=true∨X.env.scope.names.lookup y=some .local:=by first|exact .inl rfl|exact .inr rfl|assumption)(q:∀x,foldedSetIterable iter X.env x=pure x:=by intro _;rfl):PS X (.Assign [.Name y j] (.ListComp elt [⟨.Name x px,iter,ifs,0⟩] scope pos) a) (fun D k H=>Jo wi tc te fs k H fun v r=>D.nx (k.set i (some v)) r):=Jq false l ok m b n o c p g h q
end
theorem HD{l:TT}{f:TE}{fs:List Nat}{h:St}(item g:Nat->V)(p:Nat->Bool)(A:n<=sizeLine)(j:∀i D ys,i<n->H D=none->J.go i (upd H D (.lst ys)))(s:∀i D ys v o,i<n->H D=none->J.Zi i (upd H D (.lst ys)) v o->v=item i/\o=upd H D (.lst ys))(k:∀D ys,H D=none->J.stop n (upd H D (.lst ys)))(t:∀i D ys (R:Bool->Hp->Prop),i<n->H D=none->R (p i) (upd H D (.lst ys))->l (some (item i)::Bv h fs) (upd H D (.lst ys)) R)(u:∀i D ys (R:VK),i<n->H D=none->p i=true->R (g i) (upd H D (.lst ys))->f (some (item i)::Bv h fs) (upd H D (.lst ys)) R)(w:∀D,H D=none->Q (.ref D) (upd H D (.lst (((List.range n).filter p).map g)))):
  Fh J l f fs h H Q:=by
 intro D c;refine⟨fun i m q=>m=n-i/\i<=n/\q=upd H D (.lst (((List.range i).filter p).map g)),⟨n,by simp⟩,?_⟩;rintro i m q ⟨rfl,B,rfl⟩;by_cases a:i<n
 ·refine .inr ⟨j i D _ a c,fun v x y=>?_⟩;obtain⟨rfl,rfl⟩:=s i D _ v x a c y;refine t i D _ _ a c ?_;have r:∀b,p i=b->((List.range (i+1)).filter p).map g=((List.range i).filter p).map g++(if b=true then[g i]else[]):=fun b d=>by
   rw[List.range_succ,List.filter_append,List.map_append];cases b with
   |true=>simp[d]
   |false=>simp[d]
  cases d:p i with
  |false=>
   show∃z,z<n-i/\_;refine⟨n-(i+1),by lia,rfl,a,?_⟩;rw[r false d];simp
  |true=>
   show f _ _ _;refine u i D _ _ a c d ⟨_,AG,?_,n-(i+1),by lia,rfl,a,?_⟩
   ·rw[List.length_map];have:=List.length_filter_le p (List.range i);rw[List.length_range]at this;lia
   ·rw[TY,r true d];simp
 ·have e:i=n:=by lia
  subst e;exact .inl ⟨k D _ c,w D c⟩
theorem AJ.put(s:AJ H a)(h:H D=none):AJ H (upd a D o):=fun b u e=>by
 rw[AK (Ak e h)];exact s b u e
theorem AJ.new(h:H D=none):AJ H (upd H D o):=(AJ.refl H).put h
variable{a:Type _}
theorem dn(l:List a)(i:Nat)(h:i<l.length):∃x,l[i]?=some x:=⟨_,mn h⟩
theorem fX{l:List a}{i:Nat}{x:a}(h:l[i]?=some x):i<l.length:=(mq h).1
theorem TU.mk{o:HO}(k:∀p a,H p=none->AJ H a->a p=some o->Q (.ref p) a):TU H o Q:=fun p b=>k p _ b (AJ.new b) AG
theorem EJ{t:TT}{k:TE}{fs:List Nat}{l:St}(item g:Nat->V)(p:Nat->Bool)(F:n<=sizeLine)(o:∀i a,i<n->AJ H a->J.go i a)(y:∀i a v u,i<n->AJ H a->J.Zi i a v u->v=item i/\u=a)(q:∀a,AJ H a->J.stop n a)(z:∀i a (R:Bool->Hp->Prop),i<n->AJ H a->(∀f,AJ a f->R (p i) f)->t (some (item i)::Bv l fs) a R)(A:∀i a (R:VK),i<n->AJ H a->p i=true->(∀f,AJ a f->R (g i) f)->k (some (item i)::Bv l fs) a R)(B:∀D a,H D=none->AJ H a->a D=some (.lst (((List.range n).filter p).map g))->Q (.ref D) a):
  Fh J t k fs l H Q:=by
 intro D r;refine⟨fun i m a=>m=n-i/\i<=n/\AJ H a/\a D=some (.lst (((List.range i).filter p).map g)),⟨n,by simp,Nat.zero_le _,AJ.new r,AG⟩,?_⟩;rintro i m a ⟨rfl,G,d,s⟩;by_cases c:i<n
 ·refine .inr ⟨o i a c d,fun v f C=>?_⟩;obtain⟨rfl,rfl⟩:=y i a v f c d C;have w:∀b,p i=b->((List.range (i+1)).filter p).map g=((List.range i).filter p).map g++(if b=true then[g i]else[]):=fun b h=>by
   rw[List.range_succ,List.filter_append,List.map_append];cases b with
   |true=>simp[h]
   |false=>simp[h]
  refine z i _ _ c d fun I j=>?_;cases h:p i with
  |false=>
   show∃E,E<n-i/\_;refine⟨n-(i+1),by lia,rfl,c,d.trans j,?_⟩;rw[w false h,j _ _ s];simp
  |true=>
   show k _ _ _;refine A i _ _ c (d.trans j) h fun K x=>⟨_,x _ _ (j _ _ s),?_,n-(i+1),by lia,rfl,c,((d.trans j).trans x).put r,?_⟩
   ·rw[List.length_map];have:=List.length_filter_le p (List.range i);rw[List.length_range]at this;lia
   ·rw[AG,w true h];simp
 ·have e:i=n:=by lia
  subst e;exact .inl ⟨q a d,B D a r d s⟩
theorem Cz{g:TE}{fs:List Nat}{p:St}(item:Nat->V)(Ok:Nat->V->Prop)(F:n<=sizeLine)(h:∀i a,i<n->AJ H a->J.go i a)(x:∀i a v r,i<n->AJ H a->J.Zi i a v r->v=item i/\r=a)(k:∀a,AJ H a->J.stop n a)(A:∀i a (R:VK),i<n->AJ H a->(∀y f,AJ a f->Ok i y->R y f)->g (some (item i)::Bv p fs) a R)(B:∀D a ys,H D=none->AJ H a->a D=some (.lst ys)->ys.length=n->(∀(i:Nat) y,ys[i]?=some y->Ok i y)->Q (.ref D) a):
  Fh J XX g fs p H Q:=by
 intro D l;refine⟨fun i m a=>m=n-i/\i<=n/\AJ H a/\∃ys,a D=some (.lst ys)/\ys.length=i/\∀(j:Nat) y,ys[j]?=some y->Ok j y,⟨n,by simp,Nat.zero_le _,AJ.new l,[],AG,rfl,fun j y z=>by simp at z⟩,?_⟩;rintro i m a ⟨rfl,G,d,ys,s,t,u⟩;by_cases b:i<n
 ·refine .inr ⟨h i a b d,fun v f C=>?_⟩;obtain⟨rfl,rfl⟩:=x i a v f b d C;show g _ _ _;refine A i _ _ b d fun y I w o=>⟨ys,w _ _ s,by lia,n-(i+1),by lia,rfl,b,(d.trans w).put l,ys++[y],AG,by simp[t],fun j z c=>?_⟩;by_cases E:j<ys.length
  ·rw[List.getElem?_append_left E]at c;exact u j z c
  ·rw[List.getElem?_append_right (by lia)]at c;have e:j-ys.length=0:=by
    cases q:j-ys.length with
    |zero=>rfl
    |succ K=>rw[q]at c;simp at c
   rw[e]at c;have:y=z:=by simpa using c
   subst this;have:j=i:=by lia
   subst this;exact o
 ·have e:i=n:=by lia
  subst e;exact .inl ⟨k a d,B D a ys l d s t u⟩
open Builtin Builtin.Str
theorem T_(n m:Nat):max 0 (min (m:Int) (n:Int))=((min m n:Nat):Int):=by
 rw[Int.max_eq_right (Int.le_min.mpr ⟨Int.natCast_nonneg _,Int.natCast_nonneg _⟩)];by_cases h:m<=n
 ·rw[Nat.min_eq_left h,Int.min_eq_left (Int.ofNat_le.mpr h)]
 ·rw[Nat.min_eq_right (Nat.le_of_not_le h),Int.min_eq_right (Int.ofNat_le.mpr (Nat.le_of_not_le h))]
theorem QZ(n:Nat)(h:i<0):max 0 (min (i+(n:Int)) (n:Int))=(((i+(n:Int)).toNat:Nat):Int):=by
 rw[Int.min_eq_left (by lia),Int.toNat_eq_max,Int.max_comm]
theorem T'{a:Int}{i j:Nat}(b:i<j)(c:j<6)(h:((a+5*(i:Int)) % 26).toNat=((a+5*(j:Int)) % 26).toNat):False:=by
 have h:=congrArg (Nat.cast:Nat->Int) h;rw[Int.toNat_of_nonneg (Int.emod_nonneg _ (by decide)),Int.toNat_of_nonneg (Int.emod_nonneg _ (by decide))]at h;have:=Int.emod_eq_emod_iff_emod_sub_eq_zero.mp h.symm;rw[show a+5*(j:Int)-(a+5*(i:Int))=5*((j-i:Nat):Int)by lia]at this;have key:∀d:Nat,d<6->0<d->(5*(d:Int)) % 26≠0:=by decide
 exact key (j-i) (by lia) (by lia) this
theorem Qa(l u:Option Int)(n:Nat):strSliceIndices l u 1 n=(List.range (HT.BU n n u-HT.BU n 0 l)).map (HT.BU n 0 l+·):=by
 have clip:∀(v:Option Int)(d:Nat),(match v with|none=>(d:Int)|some i=>max 0 (min (if i<0 then i+(n:Int)else i) (n:Int)))=((HT.BU n d v:Nat):Int):=by
  intro v d;cases v with
  |none=>rfl
  |some i=>
   show max 0 (min (if i<0 then i+(n:Int)else i) (n:Int))=(((if i<0 then(i+(n:Int)).toNat else min i.toNat n):Nat):Int);by_cases h:i<0
   ·simp only[if_pos h];exact QZ n h
   ·simp only[if_neg h];obtain⟨m,rfl⟩:=Int.eq_ofNat_of_zero_le (Int.not_lt.mp h);exact T_ n m
 have c:=clip l 0;have e:=clip u n;unfold strSliceIndices sliceRange;simp only[show(1:Int)>0 by decide,if_true,Int.one_mul,Int.ediv_one];have f:((0:Nat):Int)=0:=rfl;rw[f]at c;have gen:∀(A B:Int)(a b:Nat),A=(a:Int)->B=(b:Int)->List.map (fun k:Nat=>(A+(k:Int)).toNat) (List.range (if A<B then B-A+1-1 else 0).toNat)=List.map (fun x=>a+x) (List.range (b-a)):=by
  intro A B a b g j;subst g j;have o:(if(a:Int)<(b:Int)then(b:Int)-(a:Int)+1-1 else 0).toNat=b-a:=by
   split<;>lia
  rw[o];refine List.map_congr_left fun k _=>?_;lia
 exact gen _ _ _ _ c e
def LU(xs:List Nat)(l u:Option Int):List Nat:=(xs.drop (HT.BU xs.length 0 l)).take (HT.BU xs.length xs.length u-HT.BU xs.length 0 l)
theorem LV{c:Type}(xs:List c)(a k:Nat)(h:a+k<=xs.length):((List.range k).map (a+·)).filterMap (xs[·]?)=(xs.drop a).take k:=by
 rw[List.filterMap_map]
 induction k with
 |zero=>simp
 |succ k d=>
  rw[List.range_succ,List.filterMap_append,d (Nat.le_trans (Nat.add_le_add_left (Nat.le_add_right _ _) _) h)];have b:a+k<xs.length:=by lia
  have e:(xs.drop a)[k]?=some (xs[a+k]):=by
   rw[List.getElem?_drop];exact mn b
  rw[List.take_add_one,e];simp[b]
theorem Jr(x:Str)(l u:Option Int):(Txt.slice x l u).cps.toList=LU x.cps.toList l u:=by
 have hlen:x.cps.toList.length=x.length:=by rw[Array.length_toList];rfl
 have c:HT.BU x.length x.length u<=x.length:=by
  cases u with
  |none=>exact Nat.le_refl _
  |some v=>
   show(if v<0 then(v+(x.length:Int)).toNat else min v.toNat x.length)<=x.length;split<;>lia
 unfold Txt.slice LU;rw[hlen,Qa];generalize k:HT.BU x.length 0 l=a;generalize d:HT.BU x.length x.length u=b at c;by_cases f:a<=b
 ·split
  ·rename_i h
   simp at h;have:b-a=x.length:=h;have g:a=0:=by lia
   have j:b=x.length:=by lia
   subst g;rw[j,<-hlen,List.drop_zero,Nat.sub_zero,List.take_length]
  ·show(List.filterMap (fun i=>x.cps[i]?) _).toArray.toList=_;rw[List.toList_toArray];have e:(fun i:Nat=>x.cps[i]?)=fun i:Nat=>x.cps.toList[i]?:=by
    funext i;exact(Array.getElem?_toList).symm
   rw[e];exact LV _ a (b-a) (by lia)
 ·have z:b-a=0:=by lia
  rw[z];simp only[List.range_zero,List.map_nil,List.take_zero];split
  ·rename_i h
   simp at h;have:x.cps.toList=[]:=List.eq_nil_of_length_eq_zero (by rw[hlen];exact h.symm);exact this
  ·rfl
section
inductive aY(x:V)(lo a:Option Int)(H:Hp)(Q:VK):Prop
 |mk(z:_)(b:x=.str z)(c:z.length<=sizeLine)(d:Q (.str (Txt.slice z lo a)) H)
def dq:V->Option Int->Option Int->Hp->VK->Prop:=fun x lo a H Q=>aY x lo a H Q
theorem LX:cW X dq:=by
 intro pins s g H x v p r lo m w Q I n a o e h;obtain⟨z,rfl,b,q⟩:=h;obtain⟨t,rfl⟩:=n;refine⟨"str",_,F.slot_str_getitem.lookup,typeIs_str _ _ _,?_⟩;have fin:∀c k,EP X pins g Q (.str (Txt.slice z lo m) c) {s with toks:=k}:=fun c k=>⟨.str _,H,I.tok k,⟨c,rfl⟩,q⟩;cases o with
 |none=>
  cases e with
  |none=>exact wpAny_getItem_str_slice (l:=none) (u:=none) (st:=none) a rfl (post_val_or_str ⟨Nat.le_trans (Txt.slice_le z _ _) b,fin⟩)
  |int j d=>exact wpAny_getItem_str_slice (l:=none) (u:=some (j,d)) (st:=none) a rfl (post_val_or_str ⟨Nat.le_trans (Txt.slice_le z _ _) b,fin⟩)
 |int i f=>
  cases e with
  |none=>exact wpAny_getItem_str_slice (l:=some (i,f)) (u:=none) (st:=none) a rfl (post_val_or_str ⟨Nat.le_trans (Txt.slice_le z _ _) b,fin⟩)
  |int j d=>exact wpAny_getItem_str_slice (l:=some (i,f)) (u:=some (j,d)) (st:=none) a rfl (post_val_or_str ⟨Nat.le_trans (Txt.slice_le z _ _) b,fin⟩)
end
theorem Fi{tg:Expr}{Pv:Nat->Value->Prop}{St:Nat->Heap->Prop}{item:Nat->V->Prop}(hW:∀A:Around,A.handled=none->Walks P w A it [it] [it] n Pv St)(aZ:∀i h,St i h->∃(o:Obj) (T:String) (vs:Array Value),h.get? it=some o/\o.cls=.type T/\o.data=.fields vs/\
   ["enumerate","zip","dict_itemiterator","dict_reverseitemiterator","odict_iterator","itertools.zip_longest","itertools.pairwise"].contains T=false)(aa:∀(A:Around) (i:Nat) (s:Shared) (Q:Value->Shared->Prop) (E:Value->Shared->Prop),St i s.heap->Q (.ref it) s->wpAny (model P w) A (pyIter (.ref it)) Q E s)(rel:∀i u,Pv i u->∃x,RelV x u/\item i x):Turn P w K tg ⟨fun i _=>i<n,fun i H x H'=>H'=H/\item i x,fun i _=>i=n⟩ [it] it St where
 mem:=by simp
 obj:=fun i h st b hb=>by
  have e:b=it:=by simpa using hb
  subst e;obtain⟨o,T,vs,h1,_,h3,_⟩:=aZ i h st;exact⟨o,h1,fun v z=>by rw[h3]at z;cases z⟩
 keep:=fun i h h' st k=>(hW callerA rfl).frame i h h' st fun b hb o e=>k b hb o e
 item:=fun X hp hw _ hc i pins s σ H E I hf st go=>by
  subst hp hw;have f:=hf it (by simp);refine(hW X.A (I.ok.hd hc)).item i s _ E go st fun v h' tk hP Kt kept=>?_;obtain⟨x,rx,hx⟩:=rel i v hP;obtain⟨o,T,vs,h1,h2,h3,h4⟩:=aZ _ _ Kt;refine⟨v,rfl,Gw (o:=o) h1 h2 h3 h4 ⟨x,H,I.turned (fun b ob hb e=>kept b ob (by simp[hb]) e) f.1 f.2.1 f.2.2.2.1 f.2.2.2.2.1 f.2.2.2.2.2,rx,⟨rfl,hx⟩,Kt,fun b hb=>?_⟩⟩;have e:b=it:=by simpa using hb
  subst e;exact f.1
 done:=fun X hp hw _ hc i pins s σ H E I hf st stop=>by
  subst hp hw;have f:=hf it (by simp);have stop:i=n:=stop;subst stop;refine(hW X.A (I.ok.hd hc)).done s _ E st fun h' tk kept=>?_;exact⟨rfl,I.turned (fun b ob hb e=>kept b ob (by simp[hb]) e) f.1 f.2.1 f.2.2.2.1 f.2.2.2.2.1 f.2.2.2.2.2⟩
 self:=aa
def du(z:Str):It:=⟨fun i _=>i<z.cps.size,fun i H x a=>a=H/\∃c,z.cps[i]?=some c/\x=.str ⟨#[c]⟩,fun i _=>i=z.cps.size⟩
def dw(tl:TE):TI:=fun a H R=>tl a H fun x b=>∃z,x=.str z/\R (du z) b
section
variable {tg:Expr}
theorem XY(y:PE X l tl):PI X tg l (dw tl):=by
 intro pins s B H R I h;refine Ap (y pins s B H _ I h) fun v a C=>C.elim fun x g f D F=>?_;obtain⟨z,rfl,q⟩:=F;obtain⟨t,rfl⟩:=D;have d:∀i u,SignAt z i u->∃x,RelV x u/\∃c,z.cps[i]?=some c/\x=.str ⟨#[c]⟩:=fun i u ⟨c,G,J,e⟩=>⟨.str ⟨#[c]⟩,⟨G,e⟩,c,J,rfl⟩;have r:∀o:Obj,∀b∈[a.heap.objs.size],Dj X pins g b:=fun o b K=>by
  have e:b=a.heap.objs.size:=by simpa using K
  subst e;exact f.Kv (Nat.le_refl _) f.fresh
 cases w:z.cps.all (·<128)with
 |false=>
  refine wpAny_pyIter_wide w ⟨a.heap.objs.size,[a.heap.objs.size],fun i h=>h.IsStrIter a.heap.objs.size "str_iterator" z t i,du z,g,rfl,f.kept (t':=a.toks) fun b o e=>Heap.get?_push_of_some _ e,
   Fi (Pv:=SignAt z) (fun A j=>Walks.strWide j _ z t) (fun i h st=>?_) (fun A i s Q E st k=>wpAny_pyIter_striter_wide st k) d,⟨_,Heap.get?_push_size _ rfl,rfl,rfl⟩,r default,q⟩
  obtain⟨o,m,n,p⟩:=st;exact⟨o,_,_,m,n,p,by decide⟩
 |true=>
  refine wpAny_pyIter_ascii w ⟨a.heap.objs.size,[a.heap.objs.size],fun i h=>h.IsStrIter a.heap.objs.size "str_ascii_iterator" z t i,du z,g,rfl,f.kept (t':=a.toks) fun b o e=>Heap.get?_push_of_some _ e,
   Fi (Pv:=SignAt z) (fun A j=>Walks.strAscii j _ z t) (fun i h st=>?_) (fun A i s Q E st k=>wpAny_pyIter_striter_ascii st k) d,⟨_,Heap.get?_push_size _ rfl,rfl,rfl⟩,r default,q⟩
  obtain⟨o,m,n,p⟩:=st;exact⟨o,_,_,m,n,p,by decide⟩
inductive Js(K:mw)(xs:List V)(H:Hp)(Q:VK):Prop
 |mk(p:Addr)(bs:List Bool)(a:xs=[.ref p])(b:BC K H p (bs.map V.bl))(c:Q (.bl (bs.all id)) H)
def LY(K:mw):List V->Hp->VK->Prop:=fun a H Q=>Js K a H Q
theorem Dt(y:X.calm=true):BF X (.builtin "all") (LY X.K):=by
 intro pins s L H M N Q I r h;obtain⟨p,bs,rfl,B,q⟩:=h;obtain⟨u,rfl,l⟩:=vals1 r;cases l;obtain⟨d,m,w,O⟩:=I.list B;obtain⟨C,f,g⟩:=id w.isList;have n:p<s.heap.objs.size:=Heap.lt_size f;have t:X.A.in1.handled=none:=I.ok.hd y;have hlen:d.toArray.size=bs.length:=by rw[List.size_toArray,<-m.length,List.length_map]
 refine call_all_walk (wpAny_pyIter_list w.isList ⟨s.heap.objs.size,_,_,_,_,_,fun i=>bs.getD i true,rfl,Walks.list t s.heap.objs.size p (Nat.ne_of_lt n) d.toArray,⟨⟨_,Heap.get?_push_size _ rfl,rfl,rfl⟩,⟨C,Heap.get?_push_of_some _ f,g⟩⟩,?_,fun P D kept=>?_⟩)
 ·intro i v E F R j k;have j:d[i]?=some v:=by simpa using j
  have c:i<bs.length:=by
   have:=fX j;rw[<-m.length,List.length_map]at this;exact this
  have e:(bs.map V.bl)[i]?=some (V.bl bs[i]):=by rw[List.getElem?_map,mn c];rfl
  obtain⟨u,x,l⟩:=m.get e;rw[j]at x;cases x;cases l;have e2:bs.getD i true=bs[i]:=by rw[List.getD_eq_getElem?_getD,mn c];rfl
  have k:F (bs.getD i true) E:=k;rw[e2]at k;exact wpAny_truthy_bool k
 ·refine⟨.bl (bs.all id),H,I.kept (t':=D) fun b o e=>kept b o (fun z=>?_) (Heap.get?_push_of_some _ e),?_,q⟩
  ·have G:b=s.heap.objs.size:=by simpa using z
   exact Nat.ne_of_lt (Heap.lt_size e) G
  ·show Value.bool _=Value.bool _;congr 1;rw[hlen,Bool.eq_iff_iff,List.all_eq_true,List.all_eq_true];constructor
   ·intro a b J;obtain⟨i,c,rfl⟩:=List.mem_iff_getElem.mp J;have:=a i (List.mem_range.mpr c);rw[List.getD_eq_getElem?_getD,mn c]at this;exact this
   ·intro a i c;have c:=List.mem_range.mp c;rw[List.getD_eq_getElem?_getD,mn c];exact a _ (List.getElem_mem c)
theorem LZ:∀{us:List Value},Vals (ys.map V.str) us->StrsAre us ys:=by
 induction ys with
 |nil=>intro us r;rw[List.map_nil]at r;cases r;exact .nil
 |cons n d a=>
  intro us r;rw[List.map_cons]at r;cases r with
  |cons b c=>
   obtain⟨t,e⟩:=b;subst e;exact .cons n t (a c)
inductive XZ(K:mw)(x:V)(vs:List V)(H:Hp)(Q:VK):Prop
 |mk(z:Str)(p:Addr)(ys:List Str)(a:x=.str z)(b:vs=[.ref p])(c:BC K H p (ys.map V.str))(d:(ys.map (·.length)).sum+ys.length*z.length<=16777216)(e:Q (.str (Txt.join z ys)) H)
def rJoin(K:mw):V->List V->Hp->VK->Prop:=fun x a H Q=>XZ K x a H Q
theorem UA:dY X "str.join" (rJoin X.K):=by
 intro pins s j H x l v m Q I a b h;obtain⟨z,p,n,rfl,rfl,c,d,q⟩:=h;obtain⟨t,rfl⟩:=a;obtain⟨u,rfl,e⟩:=b.one;cases e;obtain⟨f,r,g,_⟩:=I.list c;exact join_list g.isList (by rw[List.toList_toArray];exact LZ r) d fun i k=>⟨.str _,H,I.tok k,⟨i,rfl⟩,q⟩
end
section
inductive Xa(x y:V)(H:Hp)(Q:VK):Prop
 |mk(a b xs ys:_)(d:x=.ref a)(e:y=.ref b)(f:H a=some (.tup xs))(g:H b=some (.tup ys))(h:xs.length+ys.length<=sizeLine)(i:∀p c,AJ H c->c p=some (.tup (xs++ys))->Q (.ref p) c)
def ae:R2:=fun x y H Q=>Xa x y H Q
theorem DN:Cq X (binaryOp .Add) ae:=by
 intro pins s D H x y v u Q I r t h;obtain⟨a,b,w,E,rfl,rfl,j,k,G,q⟩:=h;by_cases l:w=[]
 ·cases r;cases t;obtain⟨c,J,K,_⟩:=I.tuple (BA.of j);obtain⟨d,T,L,_⟩:=I.tuple (BA.of k);obtain⟨⟨M,N,data,O⟩,z,A,n,B⟩:=id K;obtain⟨⟨C,m,data2,o⟩,f,g,P,i⟩:=id L;simp only at A B g i;subst A B g i;have R:c=[]:=J.Dm.mpr l;refine concat_meets ⟨_,z,rfl⟩ ⟨_,f,rfl⟩ noFill_tuple_add seq_tuple_add PySem.F.slot_tuple_add PySem.F.entry_tuple_add (PySem.F.args_tuple_add_2 _ _) (tuple_addW0 a b c.toArray d.toArray n P N m O o (by simp[R])) ⟨z,f,?_⟩;refine⟨.ref b,H,I.tok s.toks,rfl,q b H (AJ.refl H) ?_⟩;rw[l];exact k
 ·refine Tq pins s D H (.ref a) (.ref b) v u Q I r t ⟨a,b,w,E,rfl,rfl,BA.of j,BA.of k,l,G,fun e=>?_,fun e p S=>q p _ (AJ.new S) AG⟩;refine q a H (AJ.refl H) ?_;rw[e,List.append_nil];exact j
end
end L2
namespace HT
open PySem PyProof.Rows
section
variable{prog:Program} {w:World} {A:Around} {E:Value->Shared->Prop} {s:Shared}
theorem Du{t d:Addr}{items:Array Value}{i j:Value}{lo c:Option Int}{Q:Value->Shared->Prop}(a:IsTup s.heap t items)(k:s.heap.IsSliceOf d i j .none)(pl:IsPart i lo)(l:IsPart j c)(hw:BU items.size 0 lo=0/\BU items.size items.size c=items.size)(h:Q (.ref t) s):wpAny (model prog w) A (getItem (.ref t) (.ref d)) Q E s:=by
 obtain⟨os,e,f,n⟩:=id k;have g:s.TypeIs (.ref d) "slice":=⟨os,e,f⟩;unfold getItem
 try with_reducible refine wpAny_holding ?_
 first|refine wpAny_bind (wpAny_pure ?_)|skip
 refine wpAny_bind (wpAny_sequenceKey a.typeIs (by decide) ?_);refine wpAny_bind (wpAny_callSpecial?_slot (name:=Str.ofString "__getitem__") a.typeIs PyProof.Rows.slot_tuple_getitem (wpAny_call_entry PyProof.Rows.slot_tuple_getitem a.typeIs entry_tuple_getitem ?_ (args_tuple_getitem _ _)));show wpAny _ _ (Builtin.Tuple.tupleItemsOf (.ref t)>>=_) _ _ s;refine wpAny_bind (tupleItemsOf_ a ?_);refine wpAny_bind (wpAny_typeOf g ?_);rw[if_pos (by decide)];refine wpAny_bind (CH k pl l ?_);have b:(((BU items.size 0 lo:Nat):Int)==0&&(1:Int)==1&&(BU items.size items.size c-BU items.size 0 lo)==items.size)=true:=by
  rw[hw.1,hw.2];simp
 show wpAny _ _ (if(((BU items.size 0 lo:Nat):Int)==0&&(1:Int)==1&&(BU items.size items.size c-BU items.size 0 lo)==items.size)=true then _ else _) _ _ s;rw[if_pos b];refine wpAny_bind (m:=Builtin.Tuple.tupleIsExact _) ?_;unfold Builtin.Tuple.tupleIsExact
 first
  |refine wpAny_bind (wpAny_typeOf a.typeIs (wpAny_pure ?_))
  |refine wpAny_typeOf a.typeIs ?_
 rw[if_pos (by decide)];exact wpAny_bind (wpAny_rule (wpAny_pure ⟨_,rfl,wpAny_pure h⟩))
end
end HT
namespace L2
open PySem PySem.Spec PyProof.Rows
variable{X:Cx}
section
inductive af(x:V)(lo c:Option Int)(H:Hp)(Q:VK):Prop
 |mk(a xs:_)(d:x=.ref a)(e:H a=some (.tup xs))(f:∀p b,AJ H b->b p=some (.tup (EG xs lo c))->Q (.ref p) b)
def dy:V->Option Int->Option Int->Hp->VK->Prop:=fun x lo a H Q=>af x lo a H Q
theorem E_:cW X dy:=by
 intro pins s l H x v m n lo e o Q I f g i j h;obtain⟨a,b,rfl,c,q⟩:=h;by_cases hw:HT.BU b.length 0 lo=0/\HT.BU b.length b.length e=b.length
 ·cases f;obtain⟨d,r,k,u⟩:=I.tuple (BA.of c);have hlen:d.toArray.size=b.length:=by rw[List.size_toArray];exact r.length.symm
  refine⟨"tuple",_,PyProof.Rows.slot_tuple_getitem.lookup,k.typeIs,?_⟩;refine HT.Du k g i j (by rw[hlen];exact hw) ⟨.ref a,H,I,rfl,q a H (AJ.refl H) ?_⟩;unfold EG;rw[hw.1,hw.2,List.drop_zero,Nat.sub_zero,List.take_length];exact c
 ·exact XM pins s l H (.ref a) v m n lo e o Q I f g i j ⟨a,b,rfl,BA.of c,hw,fun p t=>q p _ (AJ.new t) AG⟩
theorem Hz(l:List V)(k:Nat):EG l none (some (k:Int))=l.take k:=by
 unfold EG;rw[HT.To];show(l.drop 0).take (min k l.length-0)=_;rw[List.drop_zero,Nat.sub_zero,List.take_eq_take_min];simp
end
inductive DY(H:Hp):V->String->Prop where
 |Aj:DY H .Aj "NoneType"
 |bl (b:Bool):DY H (.bl b) "bool"
 |int (i:Int):DY H (.int i) "int"
 |str (x:Str):DY H (.str x) "str"
 |lst {a:Addr} {xs:List V} (e:Rd H a (.lst xs)):DY H (.ref a) "list"
 |tup {a:Addr} {xs:List V} (e:H a=some (.tup xs)):DY H (.ref a) "tuple"
 |dK {a:Addr} {kvs:List (Key×V)} (e:Rd H a (.dK kvs)):DY H (.ref a) "dict"
theorem Rd.up(h:Rd H a u)(s:∀o,H a=some o->b a=some o):Rd b a u:=by
 rcases h with h|⟨o,h⟩
 ·exact .inl (s _ h)
 ·exact .inr ⟨o,s _ h⟩
theorem DY.same(h:DY H v T)(s:AJ H a):DY a v T:=by
 cases h with
 |Aj=>exact .Aj
 |bl b=>exact .bl b
 |int i=>exact .int i
 |str x=>exact .str x
 |lst e=>exact .lst (e.up fun o=>s _ o)
 |tup e=>exact .tup (s _ _ e)
 |dK e=>exact .dK (e.up fun o=>s _ o)
def H_(T c:String):Bool:=T==c||(T=="bool"&&c=="int")
def UB(c:String):Bool:=["int","bool","str","list","tuple","dict"].contains c
variable{K:mw}
theorem NC{H:Hp}{v:V}{T c:String}(h:DY H v T)(a:UB c=true):PySem.W.kitOne K (.type T) (.type c)=some (H_ T c):=by
 have a:c="int"∨c="bool"∨c="str"∨c="list"∨c="tuple"∨c="dict":=by
  unfold UB at a;simpa using a
 cases h<;>rcases a with rfl|rfl|rfl|rfl|rfl|rfl<;>kernel_rfl
section
inductive ag(xs:List V)(H:Hp)(Q:VK):Prop
 |mk(x c T:_)(a:xs=[x,.ty c])(b:UB c=true)(d:DY H x T)(e:Q (.bl (H_ T c)) H)
def ah:List V->Hp->VK->Prop:=fun a H Q=>ag a H Q
theorem Qb{A:Around}{E:Value->Shared->Prop}{Q:Value->Shared->Prop}(I:Inv X pins m H s)(d:RelV x u)(ty:DY H x T)(e:PySem.W.kitOne X.K (.type T) (.type c)=some b)(h:∀tk,Q (.bool b) {s with toks:=tk}):
  wpAny (model X.prog X.w) A (call (.builtin "isinstance") [u,.type c]) Q E s:=by
 cases ty with
 |Aj=>exact CG I d .Aj e h
 |bl y=>exact CG I d (.bl y) e h
 |int i=>exact CG I d (.int i) e h
 |str y=>exact CG I d (.str y) e h
 |tup f=>exact CG I d (.tup f) e h
 |@lst a k f=>
  cases(show u=Value.ref a from d);obtain⟨_,_,n,_,g⟩:=(show Al X.prog X.w H s.heap a (.lst k)from f.ok I.As);exact PySem.W.kia_one PySem.W.kitx_list I.Ck ⟨_,g,rfl⟩ e (fun z=>nomatch z) h
 |@dK a j f=>
  cases(show u=Value.ref a from d);obtain⟨_,_,q,_,p⟩:=(show Al X.prog X.w H s.heap a (.dK j)from f.ok I.As);obtain⟨o,r,t,g,l,_⟩:=p;exact PySem.W.kia_one PySem.W.kitx_dict I.Ck ⟨o,g,l.1⟩ e (fun z=>nomatch z) h
theorem Ai:BF X (.builtin "isinstance") ah:=by
 intro pins s f H g i Q I r h;obtain⟨x,c,T,rfl,b,ty,q⟩:=h;obtain⟨u,j,rfl,d,a⟩:=vals2 r;cases a;exact Qb I d ty (NC ty b) fun e=>⟨.bl _,H,I.tok e,rfl,q⟩
end
open Builtin Builtin.Str
abbrev sgn(x:Str):List Nat:=x.cps.toList
def Qc:List Nat:=sgn "abcdefghijklmnopqrstuvwxyz"
def Fj(c:Nat):Bool:=decide (c∈Qc)
theorem Ce(x:Str):(sgn x).length=x.length:=by
 show x.cps.toList.length=x.cps.size;exact Array.length_toList
theorem BE(x y:Str):sgn (x++y)=sgn x++sgn y:=by
 show(x.cps++y.cps).toList=_;exact Array.toList_append
theorem CJ(x:Str)(l u:Option Int):sgn (Txt.slice x l u)=LU (sgn x) l u:=Jr x l u
def DS(l:List Nat):Bool:=decide (1<=l.length)&&decide (l.length<=8)&&l.all Fj
def BD(x:Str):Bool:=DS (sgn x)
theorem Jt(ys:List Str):sgn (Txt.join "" ys)=(ys.map sgn).flatten:=by
 have h:∀ys:List Str,sgn (Str.join "" ys)=(ys.map sgn).flatten:=by
  intro ys
  induction ys with
  |nil=>rfl
  |cons x r a=>
   cases r with
   |nil=>
    show sgn x=_;simp
   |cons y r=>
    show sgn (x++""++Str.join "" (y::r))=_;rw[BE,BE,a];have:sgn ("":Str)=[]:=by decide
    rw[this];simp
 show sgn (Builtin.Str.glued "" ys)=_;rw[StrLaws.glued_eq_join];exact h ys
theorem Qd(n d k:Nat):HT.BU n d (some (k:Int))=min k n:=by
 show(if(k:Int)<0 then((k:Int)+(n:Int)).toNat else min (k:Int).toNat n)=min k n;rw[if_neg (by lia),Int.toNat_natCast]
theorem IA(l:List Nat)(k:Nat):LU l none (some (k:Int))=l.take k:=by
 unfold LU;have e:=Qd l.length l.length k;rw[e];show(l.drop 0).take (min k l.length-0)=_;rw[List.drop_zero,Nat.sub_zero,List.take_eq_take_min];simp
theorem UC(l:List Nat)(a b:Nat)(c:a<=b)(d:b<=l.length):LU l (some (a:Int)) (some (b:Int))=(l.take b).drop a:=by
 unfold LU;have e1:HT.BU l.length 0 (some (a:Int))=a:=(Qd _ _ a).trans (Nat.min_eq_left (Nat.le_trans c d));have e2:HT.BU l.length l.length (some (b:Int))=b:=(Qd _ _ b).trans (Nat.min_eq_left d);rw[e1,e2,List.drop_take]
variable{p:Nat->Bool}{l:List Nat}
theorem Fl(h:l.all p=true)(k:Nat):(l.take k).all p=true:=by
 rw[List.all_eq_true]at h⊢;exact fun x a=>h x (List.mem_of_mem_take a)
theorem Qe(h:l.all p=true)(k:Nat):(l.drop k).all p=true:=by
 rw[List.all_eq_true]at h⊢;exact fun x a=>h x (List.mem_of_mem_drop a)
theorem La(h:c∈Qc):Fj c=true:=decide_eq_true h
theorem Od(h:DS l=true):1<=l.length/\l.length<=8/\l.all Fj=true:=by
 unfold DS at h;simp only[Bool.and_eq_true,decide_eq_true_eq]at h;exact⟨h.1.1,h.1.2,h.2⟩
theorem Ju(a:1<=l.length)(b:l.length<=8)(c:l.all Fj=true):DS l=true:=by
 unfold DS;simp only[Bool.and_eq_true,decide_eq_true_eq];exact⟨⟨a,b⟩,c⟩
namespace Dc
end Dc
variable{P:Program}{w:World}
section
def Gj(xs ys:List V):Bool:=((List.range (min xs.length ys.length)).all fun j=>OU (xs.getD j .Aj) (ys.getD j .Aj))&&xs.length==ys.length
inductive Oe(K:mw)(x y:V)(H:Hp)(Q:VK):Prop
 |mk(a b:Addr)(xs ys:List V)(c:x=.ref a)(d:y=.ref b)(e:BA K H a xs)(f:BA K H b ys)(g:(∀z∈xs,BI z=true))(h:(∀z∈ys,BI z=true))(i:Q (.bl (Gj xs ys)) H)
def Qf(K:mw):V->V->Hp->VK->Prop:=fun x y H Q=>Oe K x y H Q
theorem Lb(p:X.A.units<cLine):Cq X (compareOp .Eq) (Qf X.K):=by
 intro pins s T H x y v u Q I r t h;obtain⟨a,b,d,f,rfl,rfl,w,z,B,C,q⟩:=h;cases r;cases t;obtain⟨k,l,D,_⟩:=I.tuple w;obtain⟨c,m,E,_⟩:=I.tuple z;have e1:k.toArray.size=d.length:=by rw[List.size_toArray];exact l.length.symm
 have e2:c.toArray.size=f.length:=by rw[List.size_toArray];exact m.length.symm
 refine SeqAt.eq_tupleAt (e:=fun j=>OU (d.getD j .Aj) (f.getD j .Aj)) D E p (fun j F G=>?_) ?_
 ·have g:j<d.length:=by rw[<-e1];exact F
  have i:j<f.length:=by rw[<-e2];exact G
  obtain⟨n,J,L⟩:=l.get (mn g);obtain⟨o,M,N⟩:=m.get (mn i);have O:k.toArray[j]=n:=by
   have:=(mq J).2;simpa using this
  have P:c.toArray[j]=o:=by
   have:=(mq M).2;simpa using this
  rw[O,P];have R:d.getD j .Aj=d[j]:=by rw[List.getD_eq_getElem?_getD,mn g];rfl
  have S:f.getD j .Aj=f[j]:=by rw[List.getD_eq_getElem?_getD,mn i];rfl
  show SeqAt.EqAt _ _ n o (OU (d.getD j .Aj) (f.getD j .Aj));rw[R,S];exact LL L N (B _ (List.getElem_mem g)) (C _ (List.getElem_mem i))
 ·rw[e1,e2];exact⟨.bl (Gj d f),H,I,rfl,q⟩
theorem Of{vs:List (Key×Value)}{d:List Str}(c:vs.map (·.1)=d.map Sum.inr){b:List Value}(f:b.length=vs.length)(l:∀(j:Nat) (v:Value),b[j]?=some v->∃k x,vs[j]?=some (k,x)/\(Ad P w).is k v=true):StrsAre b d:=by
 induction d generalizing vs b with
 |nil=>
  have:vs=[]:=by cases vs with|nil=>rfl|cons a r=>simp at c
  subst this;have:b=[]:=List.eq_nil_of_length_eq_zero f;subst this;exact .nil
 |cons x r m=>
  cases vs with
  |nil=>simp at c
  |cons a vs=>
   simp only[List.map_cons,List.cons.injEq]at c;cases b with
   |nil=>simp at f
   |cons u b=>
    obtain⟨k,y,e,g⟩:=l 0 u rfl;have e:a=(k,y):=by simpa using e
    subst e;have h:k=Sum.inr x:=c.1;subst h;have g:FN (Sum.inr x) u=true:=g;rcases Ao g with⟨i,t,e1,_⟩|⟨z,t,e1,e2⟩
    ·cases e1
    ·cases e1;subst e2;exact .cons _ t (m c.2 (by simpa using f) fun j v n=>l (j+1) v (by simpa using n))
theorem Og(h:StrsAre us ys):Vals (ys.map V.str) us:=by
 induction h with
 |nil=>exact .nil
 |cons n t _ a=>exact .cons ⟨t,rfl⟩ a
inductive Eu(xs:List V)(H:Hp)(Q:VK):Prop
 |mk(d:Addr)(b:List (Key×V))(e:List Str)(f:xs=[.ref d])(g:Rd H d (.dK b))(h:b.map (·.1)=e.map Sum.inr)(i:b.length<64)(j:∀(p:Addr) (a:List Str) (c:Hp),H p=none->AJ H c->c p=some (.lst (a.map V.str))->a.Perm e->sortedS a=true->Q (.ref p) c)
def Fm:List V->Hp->VK->Prop:=fun a H Q=>Eu a H Q
theorem IB(T:X.calm=true):BF X (.builtin "sorted") Fm:=by
 intro pins s σ H xs us Q I r h;obtain⟨d,U,F,rfl,hd,G,p,q⟩:=h;obtain⟨u,rfl,Y⟩:=vals1 r;cases Y;obtain⟨z,Z,k,l,dd⟩:=Ef I.As hd;have t:X.A.in1.handled=none:=I.ok.hd T;have n:k.length=U.length:=l.length.symm;have x:k.map (·.1)=F.map Sum.inr:=by rw[<-G];exact(KV.keys l).symm
 obtain⟨ep,y⟩:=dd.dictAt;have J:k.length<=sizeLine:=by rw[n];exact z
 refine Calls.call_function_entry kind_sorted plain_sorted entry_sorted (args_sorted1 _) ?_;unfold Builtin.«sorted»;refine wpAny_bind (m:=checkCount "sorted" 1 1 _) (wpAny_pure (wpAny_bind (PySem.W.kdu_collect (PySem.W.kdl_dict (knd:=Ad X.prog X.w) (kvs:=k) (ep:=ep) Z) t y J fun c K a keep items=>?_)));have B:a.toList.length=k.length:=by rw[Array.length_toList];exact items.1
 have C:StrsAre a.toList F:=Of (P:=X.prog) (w:=X.w) x B fun j v e=>items.2 j v (by rw[<-Array.getElem?_toList];exact e);refine wpAny_bind (wpAny_newList ?_ (by rw[B];exact J));have f:(c.push {cls:=.type "list",data:=.seq a.toList.toArray}).get? c.objs.size=some (seqObj "list" a.toList.toArray 0):=Heap.get?_push_size _ rfl;refine wpAny_bind (wpAny_holding (wpAny_call_entry slot_list_sort ⟨_,f,rfl⟩ entry_list_sort (list_sort_treeK strKind_oneLt f C.keysOf (fun L M rest e=>keyKind_strs (by rw[<-e];exact C)) (by rw[B,n];exact p) fun g a1 a2=>⟨_,rfl,?_⟩) (args_list_sort _)));obtain⟨i,b1,N,b3⟩:=sorted_out_str C a1 a2;obtain⟨ee,he⟩:=sortedHeap_at (out:=(arrOf g).map (·.2)) f;refine wpAny_pure ⟨_,rfl,?_⟩;have D:(c.push {cls:=.type "list",data:=.seq a.toList.toArray}).objs.size=c.objs.size+1:=size_push' ..;have O:=I.kept (t':=K) keep;have k2:∀b o,c.get? b=some o->(sortedHeap (c.push {cls:=.type "list",data:=.seq a.toList.toArray}) c.objs.size a.toList ((arrOf g).map (·.2))).get? b=some o:=fun b o e=>by
  have R:b<c.objs.size:=Heap.lt_size e;rw[sortedHeap_old (Nat.ne_of_lt R) (by rw[D];exact Nat.lt_succ_of_lt R)];exact Heap.get?_push_of_some _ e
 have E:i.length<=sizeLine:=by
  rw[N.length_eq];have:=congrArg List.length G;rw[List.length_map,List.length_map]at this;rw[<-this];exact z
 have new:Al X.prog X.w (upd H c.objs.size (.lst (i.map V.str))) (sortedHeap (c.push {cls:=.type "list",data:=.seq a.toList.toArray}) c.objs.size a.toList ((arrOf g).map (·.2))) c.objs.size (.lst (i.map V.str)):=
  ⟨by rw[List.length_map];exact E,((arrOf g).map (·.2)).toList,ee,Og b1,by rw[Array.toArray_toList];exact he⟩
 have S:H c.objs.size=none:=O.fresh;exact⟨.ref c.objs.size,_,O.laid (t':=K) k2 (Nat.le_refl _) new,rfl,q _ i _ S (AJ.new S) AG N b3⟩
end
structure Txt(mg:Str->Option Value):Prop where
 isinstance:mg "isinstance"=none
 int:mg "int"=none
 bool:mg "bool"=none
 str:mg "str"=none
 list:mg "list"=none
 dict:mg "dict"=none
 tuple:mg "tuple"=none
 len:mg "len"=none
 range:mg "range"=none
 max:mg "max"=none
 min:mg "min"=none
 sorted:mg "sorted"=none
 all:mg "all"=none
 any:mg "any"=none
 reversed:mg "reversed"=none
 ValueError:mg "ValueError"=none
 sum:mg "sum"=none
theorem A_:bootBuiltins "isinstance"=some (.builtin "isinstance"):=by decide+kernel
theorem Qg:bootBuiltins "int"=some (.type "int"):=by decide+kernel
theorem Qh:bootBuiltins "bool"=some (.type "bool"):=by decide+kernel
theorem Fn:bootBuiltins "str"=some (.type "str"):=by decide+kernel
theorem Fo:bootBuiltins "list"=some (.type "list"):=by decide+kernel
theorem IC:bootBuiltins "dict"=some (.type "dict"):=by decide+kernel
theorem ND:bootBuiltins "tuple"=some (.type "tuple"):=by decide+kernel
theorem Qi:bootBuiltins "sorted"=some (.builtin "sorted"):=by decide+kernel
theorem NF:bootBuiltins "all"=some (.builtin "all"):=by decide+kernel
theorem Af{c:Bool}{A B:Prop}(a:c=false)(h:B):if c=true then A else B:=by
 rw[a];exact Ac h
theorem Ag{c:Bool}{A B:Prop}(a:c=true)(h:A):if c=true then A else B:=by
 rw[a];exact Cc h
theorem BO{xs:List c}(b:0<=i)(d:i<(xs.length:Int)):∃v,Hs xs i=some v/\v∈xs:=by
 obtain⟨n,rfl⟩:=Int.eq_ofNat_of_zero_le b;have a:n<xs.length:=by lia
 exact⟨xs[n],BJ (mn a),List.getElem_mem a⟩
inductive ij(P:Program)(w:World)(K:mw)(mg:Str->Option Value)(base:Heap)(x:Str)(ps:List Str)(n:Nat)(sp:Sp):Prop
 |mk(f:Addr)(a:FuncData)(k:PySem.W.keepIn K (.ref f)=true)(b:Binds K a ps [])(m:mg x=some (.ref f))(G:AX P w K mg base BN n f a ps sp)
structure Df(P:Program)(w:World)(K:mw)(mg:Str->Option Value)(base:Heap)(x:Str)(ps:List Str)(n:Nat)(sp:Sp):Prop where
 ex:ij P w K mg base x ps n sp
theorem Df.mk'{mg:Str->Option Value}{base:Heap}{x q:Str}{st:Stmt}{ps:List Str}{n:Nat}{sp:Sp}{f:Addr}{a:FuncData}(F:Cy K x q st f a)(b:Binds K a ps [])(m:mg x=some (.ref f))(G:AX P w K mg base BN n f a ps sp):Df P w K mg base x ps n sp:=⟨⟨f,a,F.kp,b,m,G⟩⟩
theorem CB(r:Int)(h:0<n):0<=r % n/\r % n<n:=⟨Int.emod_nonneg _ (by lia),Int.emod_lt_of_pos _ h⟩
def Fp(x:Str):Bool:=decide (x.length<=12)&&(sgn x).all Fj
def ai(v:V):Prop:=(∃i:Int,v=.int i/\i.natAbs<2 ^ 400)∨∃x:Str,v=.str x/\Fp x=true
theorem Qj(h:Fp x=true):x.length<=12:=by
 unfold Fp at h;simp only[Bool.and_eq_true,decide_eq_true_eq]at h;exact h.1
theorem CK(h:BD x=true):1<=x.length/\x.length<=8:=by
 have:=Od h;rw[Ce]at this;exact⟨this.1,this.2.1⟩
namespace Dc
end Dc
abbrev Qk:Str:="abcdefghijklmnopqrstuvwxyz"
theorem NG:Qk.length=26:=by decide+kernel
theorem ID:Qc.length=26:=by decide+kernel
theorem Lc(i:Int)(b:0<=i)(d:i<26):∃c,Hs (sgn Qk) i=some c/\Fj c=true:=by
 obtain⟨n,rfl⟩:=Int.eq_ofNat_of_zero_le b;have a:n<Qc.length:=by rw[ID];lia
 exact⟨Qc[n],BJ (mn a),La (List.getElem_mem a)⟩
theorem Fs(r:Int):0<=r % 26/\r % 26<26:=⟨Int.emod_nonneg _ (by decide),Int.emod_lt_of_pos _ (by decide)⟩
inductive UD(K:mw)(vs:List V)(H:Hp)(Q:VK)(b:XK):Prop
 |mk(a:Addr)(c:List Int)(k:Nat)(d:vs=[.ref a,.int (k:Int)])(e:BC K H a (c.map V.int))(f:∀r:Int,0<=r->Q (.int r) H)
def Ql(K:mw):Sp:=fun b H Q a=>UD K b H Q a
inductive Xb(vs:List V)(H:Hp)(Q:VK)(a:XK):Prop
 |mk(c:Int)(k:Nat)(b:vs=[.int c,.int (k:Int)])(d:k<=1000)(e:∀r:Int,0<=r->r<2305843009213693951->Q (.int r) H)
def DT:Sp:=fun b H Q a=>Xb b H Q a
noncomputable def Qm:Nat->Int->Int
 |0,n=>n
 |k+1,n=>Qm k n/1000000
def Jv(c:Int)(k:Nat):Int:=(((c+3)*1181783497276652981 % 2305843009213693951+((k:Int)+1)*614889782588491411) % 2305843009213693951)*(((c+3)*1181783497276652981 % 2305843009213693951+((k:Int)+1)*614889782588491411) % 2305843009213693951) % 999999999999999989
def Oh(c:Int)(k:Nat):Int:=if c % 4=0/\4*10 ^ 60<=c then Qm k (c/4) % 1000000 else(Jv c k+1)*(Jv c k/1000003+7) % 2305843009213693951/7919
theorem Qn(c:Int)(k:Nat):0<=Oh c k/\Oh c k<2305843009213693951:=by
 unfold Oh;split
 ·have a:=Int.emod_nonneg (Qm k (c/4)) (show(1000000:Int)≠0 by decide);have b:=Int.emod_lt_of_pos (Qm k (c/4)) (show(0:Int)<1000000 by decide);lia
 ·have a:=Int.emod_nonneg ((Jv c k+1)*(Jv c k/1000003+7)) (show(2305843009213693951:Int)≠0 by decide);have b:=Int.emod_lt_of_pos ((Jv c k+1)*(Jv c k/1000003+7)) (show(0:Int)<2305843009213693951 by decide);lia
inductive UE(vs:List V)(H:Hp)(Q:VK)(a:XK):Prop
 |mk(c:Int)(k:Nat)(b:vs=[.int c,.int (k:Int)])(d:k<=1000)(e:Q (.int (Oh c k)) H)
def Qo:Sp:=fun b H Q a=>UE b H Q a
theorem Qp(h:DT vs H Q E):Qo vs H Q E:=by
 obtain⟨c,k,e,a,q⟩:=h;exact⟨c,k,e,a,q _ (Qn c k).1 (Qn c k).2⟩
theorem Jw{ys:List Str}(P:Nat->Str->Prop)(h:∀(j:Nat) y,ys[j]?=some y->P j y)(inj:∀(i j:Nat) y,i<j->j<ys.length->P i y->P j y->False):ys.Nodup:=by
 refine List.pairwise_iff_getElem.mpr fun i j d b a e=>?_;have f:=h i _ (mn d);have c:=h j _ (mn b);rw[<-e]at c;exact inj i j _ a b f c
inductive Xc(K:mw)(vs:List V)(H:Hp)(Q:VK)(c:XK):Prop
 |mk(a:Addr)(b:List Int)(e:vs=[.ref a])(f:BC K H a (b.map V.int))(g:b.length<=63)(h:∀d,Q (.bl true) d)
def Jx(K:mw):Sp:=fun b H Q a=>Xc K b H Q a
theorem AR(h:n<=1000):n<=sizeLine:=Nat.le_of_lt (BK h)
theorem AS:[x,y].length<=sizeLine:=AR (show 2<=1000 by decide)
theorem AN:[x].length<=sizeLine:=AR (show 1<=1000 by decide)
theorem Ld(R:Hp->Prop)(k:∀a,R a->u D b a)(h:(∀a,R a->u D b a)->t {D with nx:=u D} b H):OK t u D b H:=h k
namespace Dc
end Dc
section
variable {pins:List (Addr×Obj)} {σ:St} {H:Hp} {s:Shared} {a:Addr} {kvs:List (Key×V)}
theorem Inv.freeze(I:Inv X pins σ H s)(e:H a=some (.dK kvs)):∃o,s.heap.get? a=some o/\Inv X pins σ (upd H a (.CU o (.dK kvs))) s:=by
 have ok:=(show Al X.prog X.w H s.heap a (.dK kvs)from I.As a _ e);obtain⟨z,g,h,i,o,j,k,f,r⟩:=id ok;refine⟨o,f,?_⟩;have c:∀b u,H b=some u->u≠.dK kvs->b≠a:=fun b u q n w=>by
  subst w;rw[e]at q;exact n (mr q).symm
 have un:Un X.fs [] H (upd H a (.CU o (.dK kvs))) s.heap s.heap:=
  ⟨fun b d q _ _ _=>q,fun b d q _ _ _=>⟨d.slots,q⟩,fun b d q n _=>(AK (fun w=>by subst w;rw[e]at n;cases n)).trans n,fun b d q _=>⟨d,q⟩,
   fun b l q=>(AK (c b _ q (by intro z;cases z))).trans q,fun b d u q=>(AK (c b _ q (by intro z;cases z))).trans q,fun b m q=>⟨#[],by rw[AK (c b _ q (by intro z;cases z)),q];simp⟩⟩
 have As:CS X.prog X.w (upd H a (.CU o (.dK kvs))) s.heap:=I.As.write (by rw[e];trivial) (.inl rfl) (fun b u _ q=>q) ⟨o,f⟩ ⟨f,ok⟩;exact I.un (h':=s.heap) (t':=s.toks) un As
theorem Inv.dz(I:Inv X pins σ H s)(e:H a=some (.CU o (.dK kvs)))(nf:∀o u,X.H₀ a≠some (.CU o u)):Inv X pins σ (upd H a (.dK kvs)) s:=by
 have ok:=(show Al X.prog X.w H s.heap a (.CU o (.dK kvs))from I.As a _ e);have d:∀b u,H b=some u->u≠.CU o (.dK kvs)->b≠a:=fun b u q n w=>by
  subst w;rw[e]at q;exact n (mr q).symm
 have f:∀b,H b=none->b≠a:=fun b n w=>by subst w;rw[e]at n;cases n
 have B:=I.base;refine⟨I.ok,I.os,I.bare,⟨B.keep,B.slot,fun b g q n i=>(AK (f b (B.free b g q n i))).trans (B.free b g q n i),B.there,fun b h q=>(AK (d b _ (B.Dg b h q) (by intro z;cases z))).trans (B.Dg b h q),
  fun b g u q=>(AK (fun w=>nf g u (by rw[<-w];exact q))).trans (B.DV b g u q),fun b m q=>?_⟩,I.loc,I.cell,(AK (f _ I.free)).trans I.free,fun x c q=>(AK (f _ (I.Bj x c q))).trans (I.Bj x c q),
  fun p t=>let⟨y,j,A⟩:=I.pin p t;⟨y,(AK (f _ j)).trans j,A⟩,fun b u q=>?_,I.len⟩
 ·obtain⟨more,k⟩:=B.EB b m q;exact⟨more,(AK (d b _ k (by intro z;cases z))).trans k⟩
 ·by_cases l:b=a
  ·subst l;rw[AG]at q;cases q;exact ok.2
  ·rw[AK l]at q;exact(I.As b u q).Gh (fun c v _ r=>r) (fun c r=>(AK (d c _ r (by intro z;cases z))).trans r) fun c h r=>(AK (d c _ r (by intro z;cases z))).trans r
theorem Inv.nf(I:Inv X pins σ H s)(e:H a=some (.dK kvs)):∀o u,X.H₀ a≠some (.CU o u):=fun o u q=>by
 have:=I.base.DV a o u q;rw[e]at this;cases this
end
def Xd(a:Addr)(o:Obj)(kvs:List (Key×V))(k:Hp->Prop):Hp->Prop:=fun H=>H a=some (.CU o (.dK kvs))/\k (upd H a (.dK kvs))
inductive Xe(t:TE)(b:St)(H:Hp)(Q:VK):Prop
 |mk(a kvs:_)(c:H a=some (.dK kvs))(d:∀o,t b (upd H a (.CU o (.dK kvs))) fun v=>Xd a o kvs (Q v))
def aj(t:TE):TE:=fun a H Q=>Xe t a H Q
section
theorem Xf(h:PE X e t):PE X e (aj t):=by
 rintro pins s c H Q I ⟨a,d,b,f⟩;obtain⟨o,l,g⟩:=I.freeze b;exact Ap (h pins s c _ _ g (f o)) fun u m ⟨v,n,i,j,e1,k⟩=>⟨v,_,i.dz e1 (I.nf b),j,k⟩
theorem Ft(h:PE X e t)(h':PE X e u):PE X e (fun a H Q=>t a H Q∨u a H Q):=by
 rintro pins s a H Q I (q|q)
 ·exact h pins s a H Q I q
 ·exact h' pins s a H Q I q
theorem Xg(h:PS X e t)(h':PS X e u):PS X e (fun D a H=>t D a H∨u D a H):=by
 rintro pins s a H D I (q|q)
 ·exact h pins s a H D I q
 ·exact h' pins s a H D I q
end
def d_(a:Addr)(o:Obj)(kvs:List (Key×V)):It:=
 ⟨fun i H=>H a=some (.CU o (.dK kvs))/\i<kvs.length,fun i H x b=>b=H/\∃k v,kvs[i]?=some (k,v)/\x=kV k,fun i H=>H a=some (.CU o (.dK kvs))/\i=kvs.length⟩
def ak(tl:TE):TI:=fun d H R=>tl d H fun x c=>∃a o b,x=.ref a/\c a=some (.CU o (.dK b))/\R (d_ a o b) c
theorem UG(h:(Ad P w).is k u=true):RelV (kV k) u:=by
 rcases Ao (k:=k) (v:=u) h with⟨i,t,rfl,rfl⟩|⟨x,t,rfl,rfl⟩
 ·exact⟨t,rfl⟩
 ·exact⟨t,rfl⟩
theorem Oi{tg:Expr}(fY:a≠it)(rel:KV kvs vs)(hD:∀h:Heap,h.get? a=some o->h.DictAt (Ad P w) a vs ep):
  Turn P w K tg (d_ a o kvs) [it] it (fun i h=>h.IsKeyIter it a i vs.length ep)where
 mem:=by simp
 obj:=fun i h st b hb=>by
  have e:b=it:=by simpa using hb
  subst e;obtain⟨ob,h1,_,h3⟩:=st;exact⟨ob,h1,fun v z=>by rw[h3]at z;cases z⟩
 keep:=fun i h h' st k=>st.at fun ob e=>k it (by simp) ob e
 item:=fun X hp hw _ hc i pins s σ H E I hf st go=>by
  subst hp hw;have f:=hf it (by simp);obtain⟨ga,gi⟩:=go;have eA:=hD s.heap (show Al X.prog X.w H s.heap a (.CU o (.dK kvs))from I.As a _ ga).1;refine(Walks.dictKeys (knd:=Ad X.prog X.w) (I.ok.hd hc) it a fY vs ep).item i s _ E (by rw[<-rel.length];exact gi) ⟨st,eA⟩ fun v h' tk hP Kt kept=>?_;obtain⟨k,x,ik,hk⟩:=hP;obtain⟨ob,h1,h2,h3⟩:=Kt.1;have il:∃y,kvs[i]?=some (k,y):=by
   have e:=congrArg (fun l=>l[i]?) (KV.keys rel);simp only[List.getElem?_map,ik,mn gi]at e;have e:kvs[i].1=k:=by simpa using e
   exact⟨kvs[i].2,by rw[mn gi,<-e]⟩
  obtain⟨y,hy⟩:=il;refine⟨v,rfl,Gw (o:=ob) h1 h2 h3 (by decide) ⟨kV k,H,I.turned (fun b eB hb e=>kept b eB (by simp[hb]) e) f.1 f.2.1 f.2.2.2.1 f.2.2.2.2.1 f.2.2.2.2.2,UG hk,⟨rfl,k,y,hy,rfl⟩,Kt.1,fun b hb=>?_⟩⟩;have e:b=it:=by simpa using hb
  subst e;exact f.1
 done:=fun X hp hw _ hc i pins s σ H E I hf st stop=>by
  subst hp hw;have f:=hf it (by simp);obtain⟨ga,gi⟩:=stop;have gi:i=vs.length:=by rw[gi];exact rel.length
  subst gi;have eA:=hD s.heap (show Al X.prog X.w H s.heap a (.CU o (.dK kvs))from I.As a _ ga).1;refine(Walks.dictKeys (knd:=Ad X.prog X.w) (I.ok.hd hc) it a fY vs ep).done s _ E ⟨st,eA⟩ fun h' tk kept=>?_;exact⟨rfl,I.turned (fun b ob hb e=>kept b ob (by simp[hb]) e) f.1 f.2.1 f.2.2.2.1 f.2.2.2.2.1 f.2.2.2.2.2⟩
 self:=fun A i s Q E st hQ=>wpAny_pyIter_keyiter st hQ
section
variable {tg:Expr}
theorem UH(p:PE X M tl):PI X tg M (ak tl):=by
 intro pins s r H R I h;refine Ap (p pins s r H _ I h) fun v c t=>t.elim fun x m i u y=>?_;obtain⟨a,o,d,rfl,A,q⟩:=y;cases u;have ok:=(show Al X.prog X.w m c.heap a (.CU o (.dK d))from i.As a _ A);obtain⟨n,z,B,G,j,C⟩:=ok;obtain⟨J,f⟩:=C.dictAt;obtain⟨K,D,g,E⟩:=id f;rw[n]at g;cases g;have k:a<c.heap.objs.size:=Heap.lt_size n;refine wpAny_pyIter_dict B f ⟨c.heap.objs.size,[c.heap.objs.size],_,d_ a o d,m,rfl,i.kept (t':=c.toks) fun b L e=>Heap.get?_push_of_some _ e,
  Oi (Nat.ne_of_lt k) j (fun h e=>⟨o,D,e,E⟩),⟨_,Heap.get?_push_size _ rfl,rfl,rfl⟩,fun b F=>?_,q⟩
 have e:b=c.heap.objs.size:=by simpa using F
 subst e;exact i.Kv (Nat.le_refl _) i.fresh
end
def NH(H a:Hp):Prop:=∀b u,Rd H b u->Rd a b u
theorem NH.CU{H:Hp}{a:Addr}{o:Obj}{kvs:List (Key×V)}(e:H a=some (.dK kvs)):NH H (upd H a (.CU o (.dK kvs))):=fun b u r=>by
 by_cases c:b=a
 ·subst c;rcases r with r|⟨d,r⟩
  ·rw[e]at r;cases r;exact .inr ⟨o,AG⟩
  ·rw[e]at r;cases r
 ·exact r.up fun d q=>(AK c).trans q
end L2
namespace PySem
open PyProof.Rows PySem.F PySem.Spec
section
variable{prog:Program} {w:World} {K:Type} [DecidableEq K] {knd:KeyKind prog w K} {A:Around} {R:Result->Shared->Prop}
end
end PySem
namespace L2
open PySem PySem.Spec PyProof.Rows
variable{X:Cx}
section
end
theorem Jy(h:BI x=true):OU x x=true:=by
 cases x with
 |Aj=>rfl
 |bl b=>exact beq_self_eq_true b
 |int i=>exact beq_self_eq_true i
 |str s=>exact beq_self_eq_true s
 |_=>cases h
theorem Oj(h:∀z∈xs,BI z=true):Gj xs xs=true:=by
 unfold Gj;rw[Nat.min_self,Bool.and_eq_true];refine⟨List.all_eq_true.mpr fun j a=>?_,beq_self_eq_true _⟩;have a:=List.mem_range.mp a;rw[List.getD_eq_getElem?_getD,mn a];exact Jy (h _ (List.getElem_mem a))
variable{p:Pos}
section
theorem Qq{pos:Pos}(k:Gl X "range")(l:X.mg "range"=none)(m:PA X [a] n)(u:starEach [a] X.env=[(false,eval a X.env)]:=by rfl):
  PE X (.Call (.Name "range" p) [a] [] pos) (fun d H Q=>n d H fun f c=>∃j:Int,f=[.int j]/\∀r,c r=none->Q (.ref r) (upd c r (.WC 0 j))):=by
 intro pins s d H Q I h;refine Call_ (FQ I k l boot_range (PyProof.Rows.callWith_type1 (Ap (m pos pins s d H _ I h) fun z g v=>v.elim fun f c i w x=>?_) u rfl));obtain⟨j,e,q⟩:=x;subst e;cases w with
 |cons r y=>
  cases y;obtain⟨t,rfl⟩:=r;exact call_range_1 ⟨.ref g.heap.objs.size,upd c g.heap.objs.size (.WC 0 j),i.laid (fun b o e=>Heap.get?_push_of_some _ e) (Nat.le_refl _) ⟨_,_,_,Heap.get?_push_size _ rfl⟩,rfl,q _ i.fresh⟩
inductive EK(xs:List V)(H:Hp)(Q:VK):Prop
 |mk(r:Addr)(n:Nat)(a:xs=[.ref r])(b:H r=some (.WC 0 (n:Int)))(c:n<=1000)(d:TU H (.lst ((List.range n).map fun(i:Nat)=>V.int (i:Int))) Q)
def Ew:List V->Hp->VK->Prop:=fun a H Q=>EK a H Q
theorem Gk(o:X.calm=true):BF X (.type "list") Ew:=by
 intro pins s J H K L Q I r h;obtain⟨g,n,rfl,p,j,q⟩:=h;obtain⟨u,rfl,x⟩:=vals1 r;cases x;obtain⟨t,u,v,e⟩:=(show Al X.prog X.w H s.heap g (.WC 0 (n:Int))from I.As g _ p);have f:X.A.handled=none:=I.ok.hd o;refine call_list_range (n:=n) f e (small_one (by lia) (by lia) (Int.le_trans (by decide) (Int.natCast_nonneg _)) (Int.lt_of_le_of_lt (Int.ofNat_le.mpr j) (by decide))) (by rw[rangeSize_one];split<;>lia) (by lia) fun y B c C D E k=>?_;have F:((List.range n).map fun(i:Nat)=>V.int (i:Int)).length<=sizeLine:=by rw[List.length_map,List.length_range];exact AR j
 refine⟨.ref s.heap.objs.size,_,I.laid (t':=B) D (Nat.le_refl _) (show Al X.prog X.w _ y _ (.lst _)from⟨F,c.toList,C,?_,by rw[Array.toArray_toList];exact E⟩),rfl,q _ I.fresh⟩;have gen:∀(n:Nat)(l:List Value),l.length=n->(∀(i:Nat) v,l[i]?=some v->∃t,v=Value.int (0+(i:Int)*1) t)->Vals ((List.range n).map fun(i:Nat)=>V.int (i:Int)) l:=by
  intro n
  induction n with
  |zero=>intro l b _;rw[List.eq_nil_of_length_eq_zero b];exact .nil
  |succ n G=>
   intro l b m;have a:l≠[]:=fun z=>by rw[z]at b;cases b
   have e1:l=l.dropLast++[l.getLast a]:=(List.dropLast_concat_getLast a).symm;rw[List.range_succ,List.map_append,e1];refine(G l.dropLast (by rw[List.length_dropLast,b];rfl) fun i v d=>?_).append (.cons ?_ .nil)
   ·refine m i v ?_;rw[e1,List.getElem?_append_left ((fX d))];exact d
   ·have:l[n]?=some (l.getLast a):=by
     rw[List.getLast_eq_getElem];have:l.length-1=n:=by lia
     rw[mn (Nat.lt_of_lt_of_le (Nat.lt_succ_of_le (Nat.le_refl _)) (Nat.le_of_eq b.symm))];congr 1;simp[this]
    obtain⟨t,e⟩:=m n _ this;exact⟨t,by rw[e];congr 1;lia⟩
 exact gen n c.toList (by rw[Array.length_toList];exact k.1) fun i v d=>k.2 i v (by rw[<-Array.getElem?_toList];exact d)
inductive Dv(xs:List V)(H:Hp)(Q:VK):Prop
 |mk(a kvs:_)(b:xs=[.ref a])(c:Rd H a (.dK kvs))(d:TU H (.dK kvs) Q)
def EL:List V->Hp->VK->Prop:=fun a H Q=>Dv a H Q
theorem Fu:BF X (.type "dict") EL:=by
 intro pins s g H i j Q I r h;obtain⟨a,b,rfl,c,q⟩:=h;obtain⟨u,rfl,d⟩:=vals1 r;cases d;exact QW I c fun p k e f=>⟨.ref p,_,f,rfl,q p e⟩
end
namespace Dc
end Dc
theorem NI{c:TT}{i:TS}{D:Ends}(W:Nat->St->Hp->Prop)(j:Nat)(l:W j d H)(n:∀m d H e,Go D (fun a g=>∃f,f<m/\W f a g) e->W m d H->c d H fun b h=>if b=true then i e d h else D.nx d h)(mono:∀d H Q k,(∀b h,Q b h->k b h)->c d H Q->c d H k):QD c i D d H:=by
 refine⟨W,⟨j,l⟩,fun m d H p=>?_⟩;refine mono d H _ _ (fun b h q=>?_) (n m d H {D with nx:=fun a g=>∃f,f<m/\W f a g,ct:=fun a g=>∃f,f<m/\W f a g,bk:=D.nx} ⟨id,id⟩ p);cases b with
 |true=>exact⟨_,fun a g z=>z,q⟩
 |false=>exact q
def back(a:Addr)(H c:Hp):Hp:=fun b=>if b=a then H a else c b
theorem IE(h:b≠a):back a H c b=c b:=if_neg h
theorem UI:back a H b a=H a:=if_pos rfl
theorem Qr(e:H a=some u):back a H c=upd c a u:=by
 funext b;unfold back upd;split
 ·exact e
 ·rfl
theorem Ol(e:H a=c a):back a H c=c:=by
 funext b;unfold back;split
 ·rename_i h;rw[h,e]
 ·rfl
structure Qs(a:Addr)(o:Obj)(kvs:List (Key×V))(H Hf:Hp):Prop where
 at_:Hf a=some (.CU o (.dK kvs))
 rd:NH H Hf
 ne:∀b,b≠a->Hf b=H b
 kb:Rd H a (.dK kvs)
theorem Qs.free(F:Qs a o kvs H d)(h:d b=none):H b=none/\b≠a:=by
 have c:b≠a:=fun z=>by rw[z,F.at_]at h;cases h
 rw[F.ne b c]at h;exact⟨h,c⟩
theorem Qs.back(F:Qs a o kvs H d)(s:AJ d f):AJ H (back a H f):=fun b u e=>by
 by_cases c:b=a
 ·subst c;rw[UI];exact e
 ·rw[IE c];exact s b u (by rw[F.ne b c];exact e)
inductive UJ(t:TE)(d:St)(H:Hp)(Q:VK):Prop
 |mk(a kvs:_)(e:Rd H a (.dK kvs))(f:∀o b,Qs a o kvs H b->t d b fun v c=>c a=some (.CU o (.dK kvs))/\Q v (back a H c))
def Xh(t:TE):TE:=fun a H Q=>UJ t a H Q
theorem Qs.of(e:H a=some (.dK kvs)):Qs a o kvs H (upd H a (.CU o (.dK kvs))):=⟨AG,NH.CU e,fun b c=>AK c,.inl e⟩
theorem Qs.same(e:H a=some (.CU o (.dK kvs))):Qs a o kvs H H:=⟨e,fun _ _ r=>r,fun _ _=>rfl,.inr ⟨o,e⟩⟩
section
theorem UK(h:PE X e t):PE X e (Xh t):=by
 rintro pins s d H Q I ⟨a,b,r,f⟩;rcases r with r|⟨o,r⟩
 ·refine Xf h pins s d H Q I ⟨a,b,r,fun o=>?_⟩;have:=f o _ (Qs.of r);have e:(fun v c=>c a=some (.CU o (.dK b))/\Q v (back a H c))=fun v=>Xd a o b (Q v):=by
   funext v c;unfold Xd;rw[Qr r]
  rw[e]at this;exact this
 ·refine Ap (h pins s d H _ I (f o H (Qs.same r))) fun u l ⟨v,i,j,k,e1,g⟩=>⟨v,i,j,k,?_⟩;rw[Ol (r.trans e1.symm)]at g;exact g
end
namespace Dc
end Dc
noncomputable def Le:V->Bool
 | .int _=>true
 |_=>false
noncomputable def Jz:V->Bool
 | .str x=>BD x
 |_=>false
def Short(v:V):Prop:=∀x,v=.str x->x.length<=1000
inductive Qt(vs:List V)(H:Hp)(Q:VK)(a:XK):Prop
 |mk(v T:_)(b:vs=[v])(c:DY H v T)(d:Q (.bl (Le v)) H)
def IF:Sp:=fun b H Q a=>Qt b H Q a
inductive Lf(vs:List V)(H:Hp)(Q:VK)(b:XK):Prop
 |mk(x:Str)(c:vs=[.str x])(d:x.length<=1000)(e:∀a,AJ H a->Q (.bl ((sgn x).all Fj)) a)
def EM:Sp:=fun b H Q a=>Lf b H Q a
inductive UL(vs:List V)(H:Hp)(Q:VK)(b:XK):Prop
 |mk(v T:_)(c:vs=[v])(d:DY H v T)(e:Short v)(f:∀a,AJ H a->Q (.bl (Jz v)) a)
def Lg:Sp:=fun b H Q a=>UL b H Q a
namespace Dc
end Dc
namespace Dc
end Dc
namespace Dc
end Dc
inductive Om(vs:List V)(H:Hp)(Q:VK)(b:XK):Prop
 |mk(c:Int)(d:vs=[.int c])(e:∀(p:Addr) (ys:List Str) (a:Hp),AJ H a->H p=none->a p=some (.lst (ys.map V.str))->ys.length=6->ys.Nodup->(∀y∈ys,BD y=true)->Q (.ref p) a)
def J_:Sp:=fun b H Q a=>Om b H Q a
def ao(n:Nat)(v:V):Prop:=∃x:Str,v=.str x/\x.length=n/\(sgn x).all Fj=true
theorem HE:∀ys:List V,(∀y∈ys,ao n y)->∃a:List Str,ys=a.map V.str/\(a.map (·.length)).sum=n*ys.length/\((a.map sgn).flatten).length=n*ys.length/\((a.map sgn).flatten).all Fj=true
 |[],_=>⟨[],rfl,rfl,rfl,rfl⟩
 |y::r,h=>by
  obtain⟨x,e,b,c⟩:=h y List.mem_cons_self;obtain⟨a,e2,d,f,g⟩:=HE r fun z i=>h z (List.mem_cons_of_mem _ i);have j:(sgn x).length=n:=by rw[Ce];exact b
  refine⟨x::a,by rw[e,e2];rfl,?_,?_,?_⟩
  ·rw[List.map_cons,List.sum_cons,d,b,List.length_cons,Nat.mul_succ];lia
  ·rw[List.map_cons,List.flatten_cons,List.length_append,f,j,List.length_cons,Nat.mul_succ];lia
  ·rw[List.map_cons,List.flatten_cons,List.all_append,c,g];rfl
variable{es:List Expr}{k:Nat}{fd:FuncData}{ps:List Str}{x:Str}{f:Addr}{sp:Sp}
section
variable {CX:Je} {ds:List Value} {OS:List V} {E:XK} {pos:Pos} {e:Expr} {t:TA} {tf:TE}
end
theorem J'(K:mw){e:Expr}{a:TE}{pos:Pos}(T:Txt X.mg)(h:PE X e a)(c:Gl X "len":=by rfl)(b:starEach [e] X.env=(false,eval e X.env)::starEach [] X.env:=by rfl)(d:X.K=K:=by rfl):PE X (.Call (.Name "len" p) [e] [] pos) (cV (Cs K) (FV a OR)):=by
 subst d;exact Aq Hv c T.len PySem.boot_len (AA h AB b) (by decide) (by decide) b
section
variable {o e:Expr} {to te:TE} {apos Bc:Pos}
theorem ip(K:mw)(f:PE X o to)(g:PE X e te)(c:((backTo Bc (starEach [e] X.env)).all (fun x=> !x.1)&&(backToKw Bc (keywordEach [] X.env)).all (fun x=>x.1.isSome)
   &&decide ([e].length+([]:List Keyword).length+(if([]:List Keyword).isEmpty then 0 else 1)<30))=true:=by rfl)(a:attributeBase o "extend" X.env (eval o X.env)=eval o X.env:=by rfl)(b:(apos.endLine==Bc.line)=true:=by rfl)(d:starEach [e] X.env=(false,eval e X.env)::starEach [] X.env:=by rfl)(h:X.K=K:=by rfl):
  PE X (.Call (.Attribute o "extend" apos) [e] [] Bc) (df K "list" Mx to (FV te OR)):=by
 subst h;exact Mv PySem.F.plainAttrs_list PySem.F.slot_list_extend PySem.F.type_list_extend OW f (AA g AB d) a c b d rfl
theorem fZ(K:mw)(f:PE X o to)(g:PE X e te)(c:((backTo Bc (starEach [e] X.env)).all (fun x=> !x.1)&&(backToKw Bc (keywordEach [] X.env)).all (fun x=>x.1.isSome)
   &&decide ([e].length+([]:List Keyword).length+(if([]:List Keyword).isEmpty then 0 else 1)<30))=true:=by rfl)(a:attributeBase o "append" X.env (eval o X.env)=eval o X.env:=by rfl)(b:(apos.endLine==Bc.line)=true:=by rfl)(d:starEach [e] X.env=(false,eval e X.env)::starEach [] X.env:=by rfl)(h:X.K=K:=by rfl):
  PE X (.Call (.Attribute o "append" apos) [e] [] Bc) (df K "list" Mw to (FV te OR)):=by
 subst h;exact Mv PySem.F.plainAttrs_list PySem.F.slot_list_append PySem.F.type_list_append EH f (AA g AB d) a c b d rfl
end
inductive Qu(K:mw)(H:Hp):Nat->V->V->Prop
 |flat {n:Nat} {x y:V} (f:BI x=true) (g:BI y=true) (e:OU x y=true):Qu K H n x y
 |same {n:Nat} {a:Addr}:Qu K H n (.ref a) (.ref a)
 |lst {n:Nat} {a b:Addr} {xs ys:List V} (c:BC K H a xs) (d:BC K H b ys) (l:xs.length=ys.length) (h:∀(i:Nat) u v,xs[i]?=some u->ys[i]?=some v->Qu K H n u v):Qu K H (n+1) (.ref a) (.ref b)
 |tup {n:Nat} {a b:Addr} {xs ys:List V} (c:BA K H a xs) (d:BA K H b ys) (l:xs.length=ys.length) (h:∀(i:Nat) u v,xs[i]?=some u->ys[i]?=some v->Qu K H n u v):Qu K H (n+1) (.ref a) (.ref b)
variable{H:Hp}{K:mw}{n:Nat}
theorem Qu.self{x:V}(f:BI x=true):Qu K H n x x:=.flat f f (Jy f)
variable{pins:List (Addr×Obj)}{s:Shared}{its:List Value}{σ:St}{j:Nat}
section
theorem Xi{u:Value}(g:its[j]?=some u)(h:j<its.toArray.size):its.toArray[j]=u:=by
 have:=(mq g).2;simpa using this
theorem DO{xs:List V}(r:Vals xs its)(h:j<its.toArray.size):∃x,xs[j]?=some x/\RelV x its.toArray[j]:=by
 have e:its.toArray.size=xs.length:=by rw[List.size_toArray];exact r.length.symm
 have a:j<xs.length:=by rw[<-e];exact h
 obtain⟨u,g,b⟩:=r.get (mn a);exact⟨_,mn a,by rw[Xi g h];exact b⟩
theorem Qu.at(I:Inv X pins σ H s)(h:Qu X.K H n N y):∀{A:Around}{u v:Value},A.units+n<cLine->RelV N u->RelV y v->SeqAt.EqAt A s u v true:=by
 induction h with
 |flat L M e=>
  intro A u v i f g;have:=LL (A:=A) (s:=s) f g L M;rw[e]at this;exact this
 |same=>
  intro A u v i f g;cases(show u=_ from f);cases(show v=_ from g);exact SeqAt.EqAt.same _
 |@lst n a b o p q r l h t=>
  intro A u v i f g;cases(show u=Value.ref a from f);cases(show v=Value.ref b from g);by_cases e:a=b
  ·rw[e];exact SeqAt.EqAt.same _
  ·refine SeqAt.EqAt.of_refs e ?_;obtain⟨d,k,w,_⟩:=I.list q;obtain⟨c,m,z,_⟩:=I.list r;have e1:d.toArray.size=o.length:=by rw[List.size_toArray];exact k.length.symm
   have e2:c.toArray.size=p.length:=by rw[List.size_toArray];exact m.length.symm
   have key:=SeqAt.RcAt.lists (A:=A) (e:=fun _=>true) w.isList z.isList (by rw[e1,e2,l]) (Nat.lt_of_le_of_lt (Nat.le_add_right _ _) i) (fun j B C=>by
    obtain⟨N,D,E⟩:=DO k B;obtain⟨y,F,G⟩:=DO m C;exact t j N y D F (A:=A.in1) (by show A.units+1+n<cLine;lia) E G)
   have J:(List.range d.toArray.size).all (fun _=>true)=true:=by simp
   rw[J]at key;exact key
 |@tup n a b o p q r l h t=>
  intro A u v i f g;cases(show u=Value.ref a from f);cases(show v=Value.ref b from g);by_cases e:a=b
  ·rw[e];exact SeqAt.EqAt.same _
  ·refine SeqAt.EqAt.of_refs e ?_;obtain⟨d,k,w,_⟩:=I.tuple q;obtain⟨c,m,z,_⟩:=I.tuple r;have e1:d.toArray.size=o.length:=by rw[List.size_toArray];exact k.length.symm
   have e2:c.toArray.size=p.length:=by rw[List.size_toArray];exact m.length.symm
   have key:=SeqAt.RcAt.tuples (A:=A) (e:=fun _=>true) w z (Nat.lt_of_le_of_lt (Nat.le_add_right _ _) i) (fun j B C=>by
    obtain⟨N,D,E⟩:=DO k B;obtain⟨y,F,G⟩:=DO m C;exact t j N y D F (A:=A.in1) (by show A.units+1+n<cLine;lia) E G)
   have J:((List.range (min d.toArray.size c.toArray.size)).all (fun _=>true)&&d.toArray.size==c.toArray.size)=true:=by
    rw[e1,e2,l];simp
   rw[J]at key;exact key
end
noncomputable def UM:Key->PyData
 | .inl i=>.int i
 | .inr x=>.str x
mutual
inductive Dw(H:Hp):V->PyData->Prop
 |Aj:Dw H .Aj .none
 |bl (b:Bool):Dw H (.bl b) (.bool b)
 |int (i:Int):Dw H (.int i) (.int i)
 |str (x:Str):Dw H (.str x) (.str x)
 |lst {a:Addr} {xs:List V} {c:List PyData} (h:Rd H a (.lst xs)) (r:Bi H xs c):Dw H (.ref a) (.list c)
 |tup {a:Addr} {xs:List V} {c:List PyData} (h:H a=some (.tup xs)) (r:Bi H xs c):Dw H (.ref a) (.tuple c)
 |eC {a:Addr} {kvs:List (Key×V)} {c:List PyData} (h:Rd H a (.dK kvs)) (r:Bi H (kvs.map (·.2)) c):Dw H (.ref a) (.dict ((kvs.map fun p=>UM p.1).zip c))
 |fc {v:V} {d:PyData} (r:∀e,AJ H e->∀(P:Program)(w:World)(h:Heap),CS P w e h->∀u,RelV v u->∃as,Reads h u d as/\∀b∈as,∃o,e b=some o):Dw H v d
inductive Bi(H:Hp):List V->List PyData->Prop
 |nil:Bi H [] []
 |cons {x:V} {d:PyData} {xs:List V} {a:List PyData} (h:Dw H x d) (t:Bi H xs a):Bi H (x::xs) (d::a)
end
mutual
theorem Dw.up(e:AJ g c):∀{v:V}{d:PyData},Dw g v d->Dw c v d
 |_,_,.Aj=>.Aj
 |_,_,.bl b=>.bl b
 |_,_,.int i=>.int i
 |_,_,.str x=>.str x
 |_,_,.lst h r=>.lst (h.up (e _)) (r.up e)
 |_,_,.tup h r=>.tup (e _ _ h) (r.up e)
 |_,_,.eC h r=>.eC (h.up (e _)) (r.up e)
 |_,_,.fc r=>.fc fun a s=>r a (e.trans s)
theorem Bi.up(e:AJ c b):∀{xs:List V}{a:List PyData},Bi c xs a->Bi b xs a
 |_,_,.nil=>.nil
 |_,_,.cons h t=>.cons (h.up e) (t.up e)
end
theorem WR:Hs (a::r) 0=some a:=BJ (j:=0) rfl
theorem IG:Hs (a::y::r) 1=some y:=BJ (j:=1) rfl
theorem at2:Hs (a::y::z::r) 2=some z:=BJ (j:=2) rfl
theorem KA{c:Bool}{A B:Prop}(a:c=true->A)(b:c=false->B):if c=true then A else B:=by
 cases c with
 |true=>exact Cc (a rfl)
 |false=>exact Ac (b rfl)
theorem AM{X:Cx}{a rest:List Stmt}{st:Stmt}{t u:TS}(e:a=st::rest)(b:PS X st t)(c:Hk X rest u):Hk X a (OK t u):=by
 subst e;exact AI b c
theorem Lh(R:St->Hp->Prop)(k:∀a b,R a b->u D a b)(h:(∀a b,R a b->u D a b)->t {D with nx:=u D} c H):OK t u D c H:=h k
def Xj(a xs:List V):List V:=
 match a[xs.length-1]?,xs.getLast? with
 |some (.int i),some (.int j)=>if Gj (a.take (xs.length-1)) xs.dropLast=true/\(j<i∨(i=j/\xs.length<a.length))then a.set (xs.length-1) (.int (i+1))else a
 |_,_=>a
def iq(w:Str)(xs a:List V):List V:=if w="copy"then a else if w="move"then Xj a xs else xs
def UN:List Str:=["put","copy","move"]
def UO:List Str:=["take","change","move","copy","ask","has","is"]
abbrev Xk:List V:=UN.map V.str
abbrev Xl:List V:=UO.map V.str
noncomputable def NJ:List Value->List Str->Bool
 |[],[]=>true
 | .str x _::us,y::ys=>x==y&&NJ us ys
 |_,_=>false
def KC(K:mw)(a:Addr)(c:List Str):Bool:=match K.lookup a with
 |some o=>o.cls==.type "tuple"&&(match o.data with
  | .seq b _=>decide (b.size<=1000)&&NJ b.toList c
  |_=>false)
 |none=>false
theorem HI:∀{us:List Value}{a:List Str},NJ us a=true->Vals (a.map V.str) us
 |[],[],_=>.nil
 |[],_::_,h=>by cases h
 |u::us,[],h=>by cases u<;>cases h
 |u::us,y::ys,h=>by
  cases u with
  |str x t=>
   have g:(x==y&&NJ us ys)=true:=h;simp only[Bool.and_eq_true,beq_iff_eq]at g;obtain⟨e,g⟩:=g;subst e;exact .cons ⟨t,rfl⟩ (HI g)
  |_=>cases h
variable{a:Addr}
theorem BA.aq{c:List Str}(h:KC K a c=true)(H:Hp):BA K H a (c.map V.str):=by
 unfold KC at h;split at h
 ·rename_i o lk
  simp only[Bool.and_eq_true,beq_iff_eq]at h;obtain⟨d,h⟩:=h;split at h
  ·rename_i b n e
   simp only[Bool.and_eq_true,decide_eq_true_eq]at h;exact .inr ⟨o,b,n,lk,d,e,AR h.1,HI h.2⟩
  ·cases h
 ·cases h
def nA(w:Str)(xs:List V):List (List V):=if Pz (.str w) Xl then[xs]else[]
def nC(w:Str)(xs a:List V):List (List V):=if Pz (.str w) Xk then[(iq w xs a).dropLast]else[]
def BL(H:Hp)(v:V)(b n:Nat):Prop:=∃D:PyData,Dw H v D/\D.showable=true/\D.leavesShort 2000=true/\D.bulk<=b/\D.depth<=n
def Gm(H:Hp)(xs:List V)(b n:Nat):Prop:=∃a:List PyData,Bi H xs a/\PyData.showableAll a=true/\PyData.leavesShortAll 2000 a=true/\PyData.bulkAll a<=b/\PyData.depthAll a<=n
theorem Gm.nil:Gm H [] 0 n:=⟨[],.nil,rfl,rfl,Nat.le_refl _,Nat.zero_le _⟩
theorem Gm.cons{H:Hp}{v:V}{xs:List V}{b b' n:Nat}(h:BL H v b n)(t:Gm H xs b' n):Gm H (v::xs) (b+1+b') n:=by
 obtain⟨D,a,c,d,e,f⟩:=h;obtain⟨g,i,j,k,l,m⟩:=t;exact⟨D::g,.cons a i,by simp[PyData.showableAll,c,j],by simp[PyData.leavesShortAll,d,k],by simp only[PyData.bulkAll];exact Nat.add_le_add (Nat.add_le_add_right e _) l,by simp only[PyData.depthAll];exact Nat.max_le.mpr ⟨f,m⟩⟩
theorem BL.mono(h:BL H v b n)(a:b<=b')(c:n<=n'):BL H v b' n':=by
 obtain⟨D,d,e,f,g,i⟩:=h;exact⟨D,d,e,f,Nat.le_trans g a,Nat.le_trans i c⟩
theorem BL.tup{H:Hp}{a:Addr}{xs:List V}{b n:Nat}(h:H a=some (.tup xs))(t:Gm H xs b n):BL H (.ref a) b (n+1):=by
 obtain⟨c,d,e,f,g,i⟩:=t;exact⟨.tuple c,.tup h d,by simpa[PyData.showable]using e,by simpa[PyData.leavesShort]using f,by simpa[PyData.bulk]using g,by simp only[PyData.depth];exact Nat.add_le_add_right i _⟩
theorem BL.int(h:i.natAbs<2 ^ 400):BL H (.int i) 0 n:=by
 have a:i.natAbs.log2<400:=by
  by_cases z:i.natAbs=0
  ·rw[z];decide
  ·exact(Nat.log2_lt z).mpr h
 refine⟨.int i,.int i,by simp only[PyData.showable,decide_eq_true_eq];exact Nat.lt_of_lt_of_le a (by decide),?_,Nat.le_refl _,Nat.zero_le _⟩;simp only[PyData.leavesShort,decide_eq_true_eq,PyData.shown];exact decide_eq_true (Nat.le_trans (int_text_len_1921 (i:=i) (Nat.lt_of_lt_of_le a (by decide))) (show 1921<=2000 by decide))
theorem HJ(h:Fj c=true):c<16 ^ 8:=by
 have:=of_decide_eq_true h;have all:∀c∈Qc,c<16 ^ 8:=by decide+kernel
 exact all c this
theorem BL.str(h:(sgn d).all Fj=true)(l:d.length<=b):BL e (.str d) b g:=by
 refine⟨.str d,.str d,rfl,?_,l,Nat.zero_le _⟩;simp only[PyData.leavesShort,List.all_eq_true,decide_eq_true_eq];exact fun c a=>HJ (List.all_eq_true.mp h c a)
theorem EN(h:BD x=true):(sgn x).all Fj=true:=by
 unfold BD DS at h;simp only[Bool.and_eq_true]at h;exact h.2
structure eD(a:Addr)(o:Obj)(k v:V)(h:Heap):Prop where
 ns:(a==sysModules)=false
 ho:h.get? a=some o
 ex:o.ExactDict
 dt:∃(ku vu:Value)(hs:Int)(ep:Nat),RelV k ku/\RelV v vu/\o.data=.dict #[⟨hs,ku,vu⟩] ep
def Zl(a:Addr)(o:Obj)(k v:V):HO:=.ext (eD a o k v)
variable{P:Program}{w:World}{h:Heap}{v:V}{o:Obj}
theorem NK{k:V}(ok:CS P w H h)(e:H a=some (Zl a o k v)):eD a o k v h:= (show eD a o k v h/\_ from ok a _ e).1
noncomputable def fg:Bool->Value->Bool
 |true,.bool true=>true
 |false,.none=>true
 |_,_=>false
variable{E:Value->Shared->Prop}{Q:Option Value->Shared->Prop}{A:Around}
section
variable{prog:Program} {it d:Addr} {en:DictEntry} {ep:Nat}
theorem Qv{Q:Value->Shared->Prop}(e:(d==sysModules)=false)(b:s.heap.get? d=some o)(f:o.ExactDict)(a:o.data=.dict #[en] ep)(g:Q (.ref s.heap.objs.size) {s with heap:=s.heap.push {cls:=.type "dict_keyiterator",data:=.fields #[.ref d,.int 0 0,.int 1 0,.int ep 0]}}):wpAny (model prog w) A (pyIter (.ref d)) Q E s:=by
 have c:s.TypeIs (.ref d) "dict":=⟨o,b,f.1⟩;refine wpAny_pyIter_slot c F.slot_dict_iter (wpAny_call_entry F.slot_dict_iter c F.entry_dict_iter ?_ (F.args_dict_iter_1 _));unfold Builtin.«dict.__iter__»;refine wpAny_bind ?_;unfold Builtin.Dict.dictSlotNone;refine wpAny_bind (wpAny_notOrdered_dict c ?_);show wpAny _ _ (pure (Value.ref d)) _ _ s;refine wpAny_pure ?_;show wpAny _ _ (Builtin.Dict.showsAll d>>=_) _ _ s;unfold Builtin.Dict.showsAll;rw[if_neg (by rw[e];exact Bool.false_ne_true)];refine wpAny_bind (wpAny_pure ?_);refine wpAny_bind (wpAny_dictEntries b a ?_);refine wpAny_bind (wpAny_dictEpoch b a ?_);refine wpAny_bind (wpAny_newObj_type (wpAny_pure ⟨_,rfl,"dict_keyiterator",_,⟨_,Heap.get?_push_size _ rfl,rfl⟩,F.slot_dict_keyiterator_next.lookup,?_⟩));simpa[rawInt]using g
theorem Qw(hit:s.heap.IsKeyIter it d 0 1 ep)(b:s.heap.get? d=some o)(c:o.data=.dict #[en] ep)(h:∀h',h'.IsKeyIter it d 1 1 ep->Heap.SameBut it s.heap h'->Q (some en.key) {s with heap:=h'}):wpAny (model prog w) A (pyNext (.ref it)) Q E s:=by
 obtain⟨j,g,i,f⟩:=id hit;unfold pyNext;refine wpAny_bind (wpAny_attempt (wpAny_callSpecial?_slot (name:=Str.ofString "__next__") hit.typeIs F.slot_dict_keyiterator_next (wpAny_call_entry F.slot_dict_keyiterator_next hit.typeIs F.entry_dict_keyiterator_next ?_ (F.args_dict_keyiterator_next_1 _))));refine wpAny_bind (wpAny_pure ?_);refine wpAny_bind ?_;refine wpAny_bind ?_
 first|refine wpAny_bind (wpAny_typeNameOfWhole_keyiter hit.typeIs (wpAny_pure ?_))|refine wpAny_bind (wpAny_typeNameOf_keyiter hit.typeIs (wpAny_pure ?_))
 refine wpAny_bind (wpAny_fieldsOf g f ?_);have e:Builtin.Dict_items.ownsTuple "dict_keyiterator"=false:=by decide
 simp only[e,Bool.false_eq_true,if_false];show wpAny _ _ (if(Value.ref d==Value.none)=true then _ else _) _ _ s;rw[if_neg (show¬((Value.ref d==Value.none)=true)from Bool.false_ne_true)];refine wpAny_bind (wpAny_pure ?_);refine wpAny_bind (wpAny_dictEntries b c ?_);rw[if_neg (by simp)];refine wpAny_bind (wpAny_pure ?_);refine wpAny_bind (wpAny_dictEpoch b c ?_);rw[if_neg (by simp)];refine wpAny_pure ?_;simp only[show¬(((0:Nat):Int)<0)from by lia,if_false,Int.toNat_natCast,show(#[en]:Array DictEntry)[0]?=some en from rfl];refine wpAny_bind ?_
 first|refine wpAny_bind (wpAny_typeNameOfWhole_keyiter hit.typeIs (wpAny_pure ?_))|refine wpAny_bind (wpAny_typeNameOf_keyiter hit.typeIs (wpAny_pure ?_))
 refine wpAny_bind (wpAny_isOneOf_keyiter hit.typeIs ?_);show wpAny _ _ (setField (.ref it) 1 (rawInt (((0:Nat):Int)+1))>>=_) _ _ s;refine wpAny_bind (wpAny_setField g f (by simp) ?_);have a:(s.heap.update it (Obj.mapFields (·.setIfInBounds 1 (rawInt (((0:Nat):Int)+1))))).IsKeyIter it d 1 1 ep:=
  ⟨_,Heap.get?_update_self _ g (Obj.isFreed_of_fields (Obj.data_mapFields f _)),(Obj.cls_mapFields ..).trans i,by rw[Obj.data_mapFields f];simp[rawInt]⟩
 refine wpAny_bind (wpAny_holding ?_);refine wpAny_bind (wpAny_isOneOf_keyiter (s:={s with heap:=s.heap.update it (Obj.mapFields (·.setIfInBounds 1 (rawInt (((0:Nat):Int)+1))))}) a.typeIs ?_);show wpAny _ _ (pure en.key) _ _ _;exact wpAny_pure (wpAny_pure ⟨_,rfl,wpAny_pure (h _ a (Heap.SameBut.update ..))⟩)
theorem UP(i:A.handled=none)(hit:s.heap.IsKeyIter it d 1 1 ep)(c:s.heap.get? d=some o)(e:o.data=.dict #[en] ep)(j:∀h',Heap.ExtBut it s.heap h'->Q none {s with heap:=h'}):wpAny (model prog w) A (pyNext (.ref it)) Q E s:=by
 obtain⟨k,g,l,h⟩:=id hit;unfold pyNext;refine wpAny_bind (wpAny_attempt (wpAny_callSpecial?_slot (name:=Str.ofString "__next__") hit.typeIs F.slot_dict_keyiterator_next (wpAny_call_entry F.slot_dict_keyiterator_next hit.typeIs F.entry_dict_keyiterator_next ?_ (F.args_dict_keyiterator_next_1 _))));refine wpAny_bind (wpAny_pure ?_);refine wpAny_bind ?_;refine wpAny_bind ?_
 first|refine wpAny_bind (wpAny_typeNameOfWhole_keyiter hit.typeIs (wpAny_pure ?_))|refine wpAny_bind (wpAny_typeNameOf_keyiter hit.typeIs (wpAny_pure ?_))
 refine wpAny_bind (wpAny_fieldsOf g h ?_);have f:Builtin.Dict_items.ownsTuple "dict_keyiterator"=false:=by decide
 simp only[f,Bool.false_eq_true,if_false];show wpAny _ _ (if(Value.ref d==Value.none)=true then _ else _) _ _ s;rw[if_neg (show¬((Value.ref d==Value.none)=true)from Bool.false_ne_true)];refine wpAny_bind (wpAny_pure ?_);refine wpAny_bind (wpAny_dictEntries c e ?_);rw[if_neg (by simp)];refine wpAny_bind (wpAny_pure ?_);refine wpAny_bind (wpAny_dictEpoch c e ?_);rw[if_neg (by simp)];refine wpAny_pure ?_;simp only[show¬(((1:Nat):Int)<0)from by lia,if_false,Int.toNat_natCast,show(#[en]:Array DictEntry)[1]?=none from rfl];refine wpAny_bind ?_
 first|refine wpAny_bind (wpAny_typeNameOfWhole_keyiter hit.typeIs (wpAny_pure ?_))|refine wpAny_bind (wpAny_typeNameOf_keyiter hit.typeIs (wpAny_pure ?_))
 show wpAny _ _ (setField (.ref it) 0 .none>>=_) _ _ s;refine wpAny_bind (wpAny_setField g h (by simp) ?_);show wpAny _ _ (newExc (.type "StopIteration") []>>=_) _ _ _;refine wpAny_bind ?_;simp only[newExc,newTuple];refine wpAny_bind (wpAny_newObj_type ?_ (by size_fits));refine wpAny_bind (m:=firstArgMember _ _) (wpAny_of_eq (a:=Value.none) (by first|rfl|(simp only[firstArgMember];rfl)) ?_);refine wpAny_newObj_type ?_ (by size_fits);simp only[raiseNew];refine wpAny_bind (wpAny_handled ?_);rw[show A.in1.handled=none from i];refine wpAny_bind (wpAny_pure (wpAny_throw ?_));refine wpAny_bind (wpAny_isInstance (T:="StopIteration") (b:=true) ⟨_,Heap.get?_push_size _ rfl,rfl⟩ isSubtype_stop ?_);exact wpAny_pure (j _ (((Heap.SameBut.update ..).extBut.push _).push _))
end
def eE(a:Addr)(o:Obj)(k v:V):It:=⟨fun i H=>H a=some (Zl a o k v)/\i=0,fun i H x b=>b=H/\x=k,fun i H=>H a=some (Zl a o k v)/\i=1⟩
def eF(tl:TE):TI:=fun c H R=>tl c H fun x b=>∃a o k v,x=.ref a/\b a=some (Zl a o k v)/\R (eE a o k v) b
theorem Qx{tg:Expr}{it:Addr}{k:V}{ku vu:Value}{hs:Int}{ep:Nat}(rk:RelV k ku)(fh:o.data=.dict #[⟨hs,ku,vu⟩] ep):
  Turn P w K tg (eE a o k v) [it] it (fun i h=>h.IsKeyIter it a i 1 ep)where
 mem:=by simp
 obj:=fun i h st b hb=>by
  have e:b=it:=by simpa using hb
  subst e;obtain⟨ob,h1,_,h3⟩:=st;exact⟨ob,h1,fun v z=>by rw[h3]at z;cases z⟩
 keep:=fun i h h' st k=>st.at fun ob e=>k it (by simp) ob e
 item:=fun X hp hw _ hc i pins s σ H E I hf st go=>by
  subst hp hw;have f:=hf it (by simp);obtain⟨ga,rfl⟩:=go;refine Qw st (NK I.As ga).ho fh fun h' Kt ir=>?_;obtain⟨ob,h1,h2,h3⟩:=Kt;refine⟨ku,rfl,Gw (o:=ob) h1 h2 h3 (by decide) ⟨k,H,I.turned (fun b eB hb e=>ir.extBut b eB hb e) f.1 f.2.1 f.2.2.2.1 f.2.2.2.2.1 f.2.2.2.2.2,rk,⟨rfl,rfl⟩,⟨ob,h1,h2,h3⟩,fun b hb=>?_⟩⟩;have e:b=it:=by simpa using hb
  subst e;exact f.1
 done:=fun X hp hw _ hc i pins s σ H E I hf st stop=>by
  subst hp hw;have f:=hf it (by simp);obtain⟨ga,rfl⟩:=stop;refine UP (I.ok.hd hc) st (NK I.As ga).ho fh fun h' kept=>?_;exact⟨rfl,I.turned (fun b ob hb e=>kept b ob hb e) f.1 f.2.1 f.2.2.2.1 f.2.2.2.2.1 f.2.2.2.2.2⟩
 self:=fun A i s Q E st hQ=>wpAny_pyIter_keyiter st hQ
section
variable {tg:Expr}
theorem Xm{l:Expr}{tl:TE}(g:PE X l tl):PI X tg l (eF tl):=by
 intro pins s i H R I h;refine Ap (g pins s i H _ I h) fun v d j=>j.elim fun x m f n p=>?_;obtain⟨a,o,k,v,rfl,r,q⟩:=p;cases n;obtain⟨t,u,w,A,B,C,D,y,E,c⟩:=NK f.As r;refine Qv t u w c ⟨d.heap.objs.size,[d.heap.objs.size],_,eE a o k v,m,rfl,f.kept (t':=d.toks) fun b F e=>Heap.get?_push_of_some _ e,
  Qx y c,⟨_,Heap.get?_push_size _ rfl,rfl,rfl⟩,fun b z=>?_,q⟩
 have e:b=d.heap.objs.size:=by simpa using z
 subst e;exact f.Kv (Nat.le_refl _) f.fresh
inductive ar(xs:List V)(H:Hp)(Q:VK):Prop
 |mk(a:Addr)(o:Obj)(k v:V)(c:String)(e:xs=[.ref a,.ty c])(b:UB c=true)(h:H a=some (Zl a o k v))(q:Q (.bl (H_ "dict" c)) H)
def IH:List V->Hp->VK->Prop:=fun a H Q=>ah a H Q∨ar a H Q
theorem DZ:BF X (.builtin "isinstance") IH:=by
 intro pins s d H e f Q I r h;rcases h with h|h
 ·exact Ai pins s d H e f Q I r h
 ·obtain⟨a,o,k,v,c,rfl,g,h,q⟩:=h;obtain⟨u,m,rfl,i,b⟩:=vals2 r;cases b;cases(show u=Value.ref a from i);have p:=NK I.As h;have j:PySem.W.kitOne X.K (.type "dict") (.type c)=some (H_ "dict" c):=NC (H:=upd H 0 (.dK [])) (v:=.ref 0) (.dK (.inl AG)) g;exact PySem.W.kia_one PySem.W.kitx_dict I.Ck ⟨o,p.ho,p.ex.1⟩ j (fun z=>nomatch z) fun l=>⟨.bl _,H,I.tok l,rfl,q⟩
end
inductive Qy(H:Hp):V->Prop
 |bl (b:Bool):Qy H (.bl b)
 |Aj:Qy H .Aj
 |tup {a:Addr} {xs:List V} (h:H a=some (.tup xs)):Qy H (.ref a)
 |txt {x:Str} (l:x.length<=20) (h:Fp x=false):Qy H (.str x)
 |key {a:Addr} {k:Key} {v:V} (h:Rd H a (.dK [(k,v)])) (n:Jz (kV k)=false) (s:Short (kV k)):Qy H (.ref a)
 |odd {a:Addr} {o:Obj} {k v:V} {T:String} (h:H a=some (Zl a o k v)) (t:DY H k T) (n:Jz k=false) (s:Short k):Qy H (.ref a)
theorem Qy.up{H a:Hp}{v:V}(h:Qy H v)(s:AJ H a):Qy a v:=by
 cases h with
 |bl b=>exact .bl b
 |Aj=>exact .Aj
 |tup h=>exact .tup (s _ _ h)
 |txt l h=>exact .txt l h
 |key h n z=>exact .key (h.up (s _)) n z
 |odd h t n z=>exact .odd (s _ _ h) (t.same s) n z
inductive Node(H:Hp):V->List V->Prop
 |leaf {v:V} (h:ai v):Node H v []
 |row {a:Addr} {xs:List V} (h:Rd H a (.lst xs)):Node H (.ref a) xs
 |tab {a:Addr} {kvs:List (Key×V)} {ks:List Str} (h:Rd H a (.dK kvs)) (b:kvs.map (·.1)=ks.map Sum.inr) (c:ks.Nodup) (nm:∀k∈ks,BD k=true) (l:kvs.length<64):Node H (.ref a) (kvs.map (·.2))
theorem Node.up{H a:Hp}{v:V}{its:List V}(h:Node H v its)(s:AJ H a):Node a v its:=by
 cases h with
 |leaf h=>exact .leaf h
 |row h=>exact .row (h.up (s _))
 |tab h b c d l=>exact .tab (h.up (s _)) b c d l
mutual
inductive Tr(H:Hp):Bool->Nat->Nat->V->Prop
 |odd {k:Nat} {v:V} (h:Qy H v) (f:BL H v 78 3):Tr H false 4 k v
 |node {b:Bool} {n k:Nat} {v:V} {its:List V} (h:Node H v its) (t:B_ H b n k its):Tr H b (n+1) (k+1) v
inductive B_(H:Hp):Bool->Nat->Nat->List V->Prop
 |nil {k:Nat}:B_ H true 0 k []
 |cons {b c:Bool} {n m k:Nat} {v:V} {vs:List V} (h:Tr H b n k v) (t:B_ H c m k vs):B_ H (b&&c) (n+m) k (v::vs)
end
variable{b:Bool}
theorem Tr.cast{b':Bool}{n':Nat}(h:Tr H b n k v)(e:b=b')(f:n=n'):Tr H b' n' k v:=by subst e f;exact h
theorem B_.cast{b':Bool}{n':Nat}{vs:List V}(h:B_ H b n k vs)(e:b=b')(f:n=n'):B_ H b' n' k vs:=by subst e f;exact h
theorem BL.up{H a:Hp}{v:V}{b n:Nat}(h:BL H v b n)(s:AJ H a):BL a v b n:=by
 obtain⟨D,c,d⟩:=h;exact⟨D,c.up s,d⟩
mutual
theorem Tr.up{H a:Hp}(s:AJ H a):∀{c:Bool}{d e:Nat}{g:V},Tr H c d e g->Tr a c d e g
 |_,_,_,_,.odd h f=>.odd (h.up s) (f.up s)
 |_,_,_,_,.node h t=>.node (h.up s) (B_.up s t)
theorem B_.up{H a:Hp}(s:AJ H a):∀{c:Bool}{d e:Nat}{vs:List V},B_ H c d e vs->B_ a c d e vs
 |_,_,_,_,.nil=>.nil
 |_,_,_,_,.cons h t=>.cons (Tr.up s h) (B_.up s t)
end
mutual
theorem Tr.deeper{H:Hp}{j:Nat}:∀{c:Bool}{d e:Nat}{g:V},Tr H c d e g->e<=j->Tr H c d j g
 |_,_,_,_,.odd h f=>fun _=>.odd h f
 |_,_,e+1,_,.node h t=>fun l=>by
  obtain⟨i,rfl⟩:∃i,j=i+1:=⟨j-1,by lia⟩;exact .node h (B_.deeper (j:=i) t (by lia))
theorem B_.deeper{H:Hp}{j:Nat}:∀{c:Bool}{d e:Nat}{vs:List V},B_ H c d e vs->e<=j->B_ H c d j vs
 |_,_,_,_,.nil=>fun _=>.nil
 |_,_,_,_,.cons h t=>fun l=>.cons (Tr.deeper h l) (B_.deeper t l)
end
theorem Tr.pos(h:Tr H b n k v):1<=n:=by
 cases h with
 |odd=>decide
 |node=>lia
theorem B_.len{H:Hp}:∀{b:Bool}{n k:Nat}{vs:List V},B_ H b n k vs->vs.length<=n
 |_,_,_,_,.nil=>Nat.le_refl _
 |_,_,_,_,.cons h t=>by
  have:=B_.len t;have:=h.pos;rw[List.length_cons];lia
theorem B_.append{H:Hp}{c:Bool}{m k:Nat}{a:List V}:∀{b:Bool}{n:Nat}{vs:List V},B_ H b n k vs->B_ H c m k a->B_ H (b&&c) (n+m) k (vs++a)
 |_,_,[]=>fun t u=>by cases t;exact u.cast rfl (Nat.zero_add m).symm
 |_,_,v::vs=>fun t u=>by
  cases t with
  |cons h t=>exact(B_.cons h (B_.append t u)).cast (Bool.and_assoc ..).symm (by lia)
theorem B_.split{H:Hp}{k:Nat}{d:List V}:∀{b:Bool}{n:Nat}{vs:List V},B_ H b n k (vs++d)->∃c1 a c2 c,B_ H c1 a k vs/\B_ H c2 c k d/\b=(c1&&c2)/\n=a+c
 |b,n,[],t=>⟨true,0,b,n,.nil,t,rfl,(Nat.zero_add n).symm⟩
 |_,_,v::vs,t=>by
  cases t with
  |@cons e _ f _ _ _ _ h t=>
   obtain⟨c1,a,c2,c,g,i,e1,e2⟩:=B_.split (vs:=vs) t;exact⟨e&&c1,f+a,c2,c,.cons h g,i,by rw[e1,Bool.and_assoc],by lia⟩
theorem B_.one{H:Hp}{b:Bool}{n k:Nat}{v:V}(h:Tr H b n k v):B_ H b n k [v]:=(B_.cons h .nil).cast (Bool.and_true b) rfl
theorem B_.eG(h:B_ H b n k [v]):Tr H b n k v:=by
 cases h with
 |cons h t=>cases t;exact h.cast (Bool.and_true _).symm rfl
theorem B_.perm{vs a:List V}(p:vs.Perm a):∀{b:Bool}{n:Nat},B_ H b n k vs->B_ H b n k a:=by
 induction p with
 |nil=>exact fun t=>t
 |cons x _ c=>intro b n t;cases t with|cons h t=>exact .cons h (c t)
 |swap x y l=>
  intro b n t;cases t with
  |cons h t=>cases t with
   |cons d t=>exact(B_.cons d (.cons h t)).cast (Bool.and_left_comm ..) (by lia)
 |trans _ _ e f=>exact fun t=>f (e t)
theorem NL:∀{kvs:List (Key×V)}{ks:List Str},kvs.map (·.1)=ks.map Sum.inr->ks.Nodup->(ks.map fun k=>(Be kvs (Sum.inr k)).getD .Aj)=kvs.map (·.2)/\∀k∈ks,(Be kvs (Sum.inr k)).isSome=true
 |[],[]=>fun _ _=>⟨rfl,fun k b=>nomatch b⟩
 |[],_::_=>fun h _=>by simp at h
 |_::_,[]=>fun h _=>by simp at h
 |(k,v)::kvs,x::ks=>fun h c=>by
  simp only[List.map_cons,List.cons.injEq]at h;obtain⟨e,h⟩:=h;subst e;obtain⟨d,f⟩:=List.nodup_cons.mp c;obtain⟨g,i⟩:=NL h f;have ne:∀y∈ks,Be ((Sum.inr x,v)::kvs) (Sum.inr y)=Be kvs (Sum.inr y):=fun y a=>Dq (by intro z;exact d ((Sum.inr.inj z)▸a));refine⟨?_,fun y a=>?_⟩
  ·rw[List.map_cons,List.map_cons,Ct rfl,<-g];congr 1;exact List.map_congr_left fun y a=>by rw[ne y a]
  ·rcases List.mem_cons.mp a with rfl|a
   ·rw[Ct rfl];rfl
   ·rw[ne y a];exact i y a
theorem Qz{kvs:List (Key×V)}{ks a:List Str}(g:kvs.map (·.1)=ks.map Sum.inr)(j:ks.Nodup)(d:a.Perm ks):
  ∃b:List V,b.Perm (kvs.map (·.2))/\b.length=a.length/\∀(i:Nat) e,b[i]?=some e->∃k,a[i]?=some k/\Be kvs (Sum.inr k)=some e:=by
 obtain⟨l,n⟩:=NL g j;refine⟨a.map fun k=>(Be kvs (Sum.inr k)).getD .Aj,by rw[<-l];exact d.map _,List.length_map ..,fun i e h=>?_⟩;rw[List.getElem?_map]at h;cases c:a[i]? with
 |none=>rw[c]at h;cases h
 |some k=>
  rw[c]at h;have h:(Be kvs (Sum.inr k)).getD .Aj=e:=by simpa using h
  have m:=n k (d.mem_iff.mp (mu c));refine⟨k,rfl,?_⟩;cases f:Be kvs (Sum.inr k)with
  |none=>rw[f]at m;cases m
  |some z=>rw[f]at h;rw[<-h];rfl
def KD:Sp:=fun c H Q _=>∃v,c=[v]/\((Qy H v/\∀a,AJ H a->Q (.bl false) a)∨∃b,Node H v b/\b.length<=900/\∀a,AJ H a->Q (.bl true) a)
def eH(H:Hp)(v:V)(s:V)(e:V):Prop:=(∃a c j,v=.ref a/\Rd H a (.lst c)/\s=.int ((j:Nat):Int)/\c[j]?=some e)∨∃a b k,v=.ref a/\Rd H a (.dK b)/\s=.str k/\Be b (Sum.inr k)=some e
def Fv:Sp:=fun d H Q _=>∃v a,d=[v]/\Node H v a/\a.length<=900/\∀(p:Addr)(l b:List V)(c:Hp),AJ H c->H p=none->c p=some (.lst l)->b.Perm a->b.length=l.length->(∀(i:Nat) e,b[i]?=some e->∃s,l[i]?=some s/\eH H v s e)->Q (.ref p) c
def KG:Sp:=fun d H Q _=>∃v a,d=[v]/\Node H v a/\a.length<=900/\∀(p:Addr)(c:List V)(b:Hp),AJ H b->H p=none->b p=some (.lst c)->c.Perm a->Q (.ref p) b
def KH:Sp:=fun c H Q _=>∃v b n k,c=[v]/\Tr H b n k v/\n<=900/\∀a,AJ H a->Q (.bl b) a
theorem Q_{c:Nat}(h:c∈sgn x)(n:Fj c=false):Fp x=false:=by
 unfold Fp;have:(sgn x).all Fj=false:=by
  rw[Bool.eq_false_iff];intro z;have:=List.all_eq_true.mp z c h;rw[n]at this;cases this
 rw[this,Bool.and_false]
theorem BL.txt{H:Hp}{x:Str}{b n:Nat}(h:∀c∈sgn x,c<16 ^ 8)(l:x.length<=b):BL H (.str x) b n:=by
 refine⟨.str x,.str x,rfl,?_,l,Nat.zero_le _⟩;simp only[PyData.leavesShort,List.all_eq_true,decide_eq_true_eq];exact h
theorem BL.bl{H:Hp}{c:Bool}{b n:Nat}:BL H (.bl c) b n:=⟨.bool c,.bl c,rfl,by cases c<;>rfl,Nat.zero_le _,Nat.zero_le _⟩
theorem BL.Aj{H:Hp}{b n:Nat}:BL H .Aj b n:=⟨.none,.Aj,rfl,rfl,Nat.zero_le _,Nat.zero_le _⟩
theorem BL.key{H:Hp}{a:Addr}{k:Key}{v:V}{b c n:Nat}(h:Rd H a (.dK [(k,v)]))(e:∃D,UM k=D/\D.showable=true/\D.leavesShort 2000=true/\D.bulk<=b/\D.depth<=n)(f:BL H v c n):BL H (.ref a) (b+c+2) (n+1):=by
 obtain⟨D,g,i,j,l,m⟩:=e;obtain⟨d,e1,e2,e3,e4,e5⟩:=f;have S:=Dw.eC h (.cons e1 .nil);have z:((([(k,v)]:List (Key×V)).map fun p=>UM p.1).zip [d])=[(D,d)]:=by rw[<-g];rfl
 rw[z]at S;exact⟨.dict [(D,d)],S,by simp[PyData.showable,PyData.showableKv,i,e2],by simp[PyData.leavesShort,PyData.leavesShortKv,j,e3],by simp only[PyData.bulk,PyData.bulkKv];lia,by simp only[PyData.depth,PyData.depthKv];lia⟩
theorem au(H:Hp)(k:Key):∃T,DY H (kV k) T:=by
 cases k with
 |inl i=>exact⟨_,.int i⟩
 |inr x=>exact⟨_,.str x⟩
namespace Dc
end Dc
section
end
structure Zm(S fr:List Addr)(h h':Heap):Prop where
 keep:∀b o,h.get? b=some o->b∉S->b∉fr->h'.get? b=some o
 slot:∀b o,h.get? b=some o->b∈fr->∃sl,h'.get? b=some {o with slots:=sl}
variable{S:List Addr}{base:Heap}{oe:Obj}
section
variable{M:Model} {env:Env} {outer:List Env} {L e:Addr} {vs:Array Value} {Q:Unit->Shared->Prop}
structure Entry(h:Heap)(T:Addr)(v:Value):Prop where
 ex:∃oT ts,h.get? T=some oT/\oT.data=.fields ts/\ts[3]?=some v
theorem RA{head:Value}{f:Bool}(p:A.frames=some (env::outer))(v:s.heap.FunFrames base (env::outer))(y:env.frame=some L)(w:s.heap.get? e=some oe)(r:oe.data=.fields vs)(hsz:1<vs.size)(h:∀h' T,Zm [e] (JT (env::outer)) s.heap h'->s.heap.get? T=none->h'.get? e=some (oe.mapFields (·.setIfInBounds 1 (.ref T)))->Entry h' T (rawInt L)->Q () {s with heap:=h'}):
  wpAny M A (do let a<-frameOf env;let m<-entryPlaceOf L f;let b<-EntryCells.newEntry head a .none (rawInt L) .none m;setField (.ref e) 1 b) Q E s:=by
 have j:e∉(env::outer).filterMap (·.frame):=fun B=>by
  obtain⟨_,o,x,t⟩:=v.mem B;rw[w]at x;cases x;exact t vs r
 refine wpAny_bind (wpAny_frameOf_fun p v y fun d c=>?_);refine wpAny_bind (wpAny_entryPlaceOf fun m u=>?_);unfold EntryCells.newEntry newFields;refine wpAny_bind (wpAny_newObj_type ?_ (u.sizeOk5 _ _ _ _ _));have g:d.get? e=some oe:=(c.2.1 e j).trans w;obtain⟨n,k⟩:∃n:Obj,n={cls:=.type "traceback",dict:=none,data:=.fields ([head,.ref L,.none,rawInt L,.none]++(if m.isEmpty then List.replicate 6 Value.none else m)).toArray}:=⟨_,rfl⟩;rw[<-k];have i:=Heap.get?_push_of_some (h:=d) n g;refine wpAny_setField i r hsz (h _ d.objs.size ⟨fun b o q C l=>?_,fun b o q D=>?_⟩ ?_ ?_ ⟨n,_,?_,by rw[k],?_⟩)
 ·rw[Heap.get?_update_other _ _ (fun z=>C (by rw[<-z];simp))];exact Heap.get?_push_of_some _ ((c.2.1 b l).trans q)
 ·obtain⟨F,z⟩:=c.2.2 b o q;refine⟨F,?_⟩;rw[Heap.get?_update_other _ _ (fun z=>j (by rw[z];exact D))];exact Heap.get?_push_of_some _ z
 ·exact Heap.get?_none_of_le (by rw[c.1];exact Nat.le_refl _)
 ·exact Heap.get?_update_self _ i (Obj.isFreed_of_fields (Obj.data_mapFields r _))
 ·rw[Heap.get?_update_other _ _ (Nat.ne_of_lt (Heap.lt_size g))];exact Heap.get?_push_size d (by rw[k];rfl)
 ·simp
theorem RB{T:Addr}{v:Value}(f:s.heap.get? e=some oe)(g:oe.data=.fields vs)(i:vs[1]?=some (.ref T))(j:Entry s.heap T v)(h:∀h',(∀b,b≠T->h'.get? b=s.heap.get? b)->Entry h' T .none->Q () {s with heap:=h'}):wpAny M A (setFlight (.ref e) none) Q E s:=by
 obtain⟨n,k,d,c,l⟩:=j.ex;have a:3<k.size:=(Array.getElem?_eq_some_iff.mp l).1;unfold setFlight;refine wpAny_bind (wpAny_field f g i ?_);rw[if_pos (show(Value.ref T !=Value.none)=true from by simp)];refine wpAny_setField d c a (h _ (fun b m=>Heap.get?_update_other _ _ (Ne.symm m)) ⟨_,_,Heap.get?_update_self _ d (Obj.isFreed_of_fields (Obj.data_mapFields c _)),Obj.data_mapFields c _,?_⟩);simp[a]
theorem WS(d:A.frames=some (env::outer))(n:s.heap.FunFrames base (env::outer))(p:env.frame=some L)(i:s.heap.get? e=some oe)(j:oe.data=.fields vs)(hsz:1<vs.size)(w:(vs[1]?=some .none/\S=[])∨∃T0,vs[1]?=some (.ref T0)/\T0≠e/\Entry s.heap T0 .none/\S=[T0])(h:∀h' T,Zm (e::S) (JT (env::outer)) s.heap h'->s.heap.get? T=none->h'.get? e=some (oe.mapFields (·.setIfInBounds 1 (.ref T)))->Entry h' T (rawInt L)->Q () {s with heap:=h'}):
  wpAny M A (noteFrame (.ref e) env) Q E s:=by
 unfold noteFrame;simp only[p];rcases w with⟨r,rfl⟩|⟨T0,r,ne,x,rfl⟩
 ·refine wpAny_bind (wpAny_field i j r ?_);rw[if_neg (by decide)];exact RA d n p i j hsz h
 ·obtain⟨D,y,k,l,t⟩:=x.ex;refine wpAny_bind (wpAny_field i j r ?_);rw[if_pos (show(Value.ref T0 !=Value.none)=true from by simp)];refine wpAny_bind (wpAny_field k l t ?_);rw[if_neg (show¬((Value.none==rawInt L)=true)from by simp[rawInt])];refine wpAny_bind (wpAny_setField k l (Array.getElem?_eq_some_iff.mp t).1 ?_);have other:∀b,b≠T0->(s.heap.update T0 (Obj.mapFields (·.setIfInBounds 3 Value.none))).get? b=s.heap.get? b:=fun b a=>Heap.get?_update_other _ _ (Ne.symm a);have f:∀b o,s.heap.get? b=some o->(∀vs,o.data≠.fields vs)->b≠T0:=fun b o a c q=>by
   rw[q,k]at a;cases a;exact c y l
  refine RA (s:={s with heap:=s.heap.update T0 (Obj.mapFields (·.setIfInBounds 3 Value.none))}) d (n.of_keeps fun b o a c=>⟨o,(other b (f b o a c)).trans a,rfl⟩) p ((other e (Ne.symm ne)).trans i) j hsz fun h' T st m B C=>?_;refine h h' T ⟨fun b o q u g=>?_,fun b o q a=>?_⟩ ?_ B C
  ·have a:b≠T0:=fun z=>u (by rw[z];simp);exact st.keep b o ((other b a).trans q) (fun z=>u (by rw[List.mem_singleton.mp z];simp)) g
  ·obtain⟨_,F,z,nf⟩:=n.mem a;rw[q]at z;cases z;exact st.slot b o ((other b (f b o q nf)).trans q) a
  ·cases z:s.heap.get? T with
   |none=>rfl
   |some o=>
    by_cases v:T=T0
    ·rw[v,Heap.get?_update_self _ k (Obj.isFreed_of_fields (Obj.data_mapFields l _))]at m;cases m
    ·rw[other T v,z]at m;cases m
theorem leaveX(d:A.frames=some (env::outer))(k:s.heap.FunFrames base (env::outer))(l:env.frame=some L)(g:s.heap.get? e=some oe)(i:oe.data=.fields vs)(hsz:1<vs.size)(m:(vs[1]?=some .none/\S=[])∨∃T0,vs[1]?=some (.ref T0)/\T0≠e/\Entry s.heap T0 .none/\S=[T0])(h:∀h' T,Zm (e::S) (JT (env::outer)) s.heap h'->s.heap.get? T=none->h'.get? e=some (oe.mapFields (·.setIfInBounds 1 (.ref T)))->Entry h' T .none->Q () {s with heap:=h'}):
  wpAny M A (leaving env (.ref e)) Q E s:=by
 unfold leaving;refine wpAny_bind (WS d k l g i hsz m fun n T st a j p=>?_);have f:e≠T:=fun z=>by rw[<-z,g]at a;cases a
 refine RB (s:={s with heap:=n}) j (Obj.data_mapFields i _) (T:=T) (by simp[hsz]) p fun r k1 k2=>?_;refine h r T ⟨fun b o q t c=>?_,fun b o q u=>?_⟩ a ((k1 e f).trans j) k2
 ·exact(k1 b (fun z=>by rw[z,a]at q;cases q)).trans (st.keep b o q t c)
 ·obtain⟨v,z⟩:=st.slot b o q u;exact⟨v,(k1 b (fun z=>by rw[z,a]at q;cases q)).trans z⟩
end
variable{C:Addr}
section
variable {H':Hp} {h' h0:Heap} {e T:Addr} {o:HO}
theorem Al.some(x:Al P w H h a o):∃u,h.get? a=some u:=by
 cases o with
 |lst c=>obtain⟨_,_,_,_,e⟩:=x;exact⟨_,e⟩
 |tup c=>obtain⟨_,_,_,d,e,_⟩:=x;exact⟨_,e⟩
 |dK b=>obtain⟨_,_,_,_,o,_,_,e,_⟩:=x;exact⟨_,e⟩
 |dT b=>obtain⟨_,_,_,_,o,_,_,e,_⟩:=x;exact⟨_,e⟩
 |set S n=>obtain⟨o,_,_,_,e,_⟩:=x;exact⟨_,e⟩
 |ins C g fs=>obtain⟨_,_,_,e,_⟩:=x;exact⟨_,e⟩
 |own y=>obtain⟨_,e⟩:=x;exact⟨_,e⟩
 |xd fs=>obtain⟨_,⟨_,_,_,e,_⟩,_⟩:=x;exact⟨_,e⟩
 |WC lo i=>obtain⟨_,_,_,e⟩:=x;exact⟨_,e⟩
 |CU d u=>obtain⟨e,_⟩:=x;exact⟨_,e⟩
 |WD j=>exact⟨_,(show h.get? a=some _ from x)⟩
 |met f y=>exact⟨_,(show h.get? a=some _ from x)⟩
 |ext k=>obtain⟨_,⟨_,e⟩,_⟩:=x;exact⟨_,e⟩
theorem CS.none_of(x:CS P w H h)(n:h.get? a=none):H a=none:=by
 cases q:H a with
 |none=>rfl
 |some u=>
  obtain⟨b,e⟩:=(x a u q).some;rw[n]at e;cases e
theorem Un.Xn{fs g:List Addr}(u:Un fs [] H H' h0 h)(t:Zm S g h h')(l:∀b∈S,h0.get? b=none)(m:∀b∈g,b∈fs∨h0.get? b=none):Un fs [] H H' h0 h':=by
 have j:∀{b o},h0.get? b=some o->b∉S:=fun q z=>by rw[l _ z]at q;cases q
 refine⟨fun b o q n i c=>?_,fun b o q n i c=>?_,u.free,fun b o q c=>?_,u.Dg,u.DV,u.EB⟩
 ·refine t.keep b o (u.keep b o q n i c) (j q) fun z=>?_;rcases m b z with z|z
  ·exact i z
  ·rw[z]at q;cases q
 ·obtain⟨p,e⟩:=u.slot b o q n i c;by_cases d:b∈g
  ·obtain⟨f,k⟩:=t.slot b _ e d;exact⟨f,k⟩
  ·exact⟨p,t.keep b _ e (j q) d⟩
 ·obtain⟨r,e⟩:=u.there b o q c;by_cases d:b∈g
  ·obtain⟨f,k⟩:=t.slot b _ e d;exact⟨_,k⟩
  ·exact⟨r,t.keep b _ e (j q) d⟩
theorem CS.Xn{d:List Addr}(x:CS P w H h)(t:Zm S d h h')(f:∀b∈S,H b=none)(g:∀b∈d,H b=none):CS P w H h':=fun a o q=>
 (x a o q).Gh (fun b u c e=>t.keep b u e (fun z=>c.elim (fun e=>by subst e;rw[f _ z]at q;cases q) fun c=>by rw[f _ z]at c;cases c) (fun z=>c.elim (fun e=>by subst e;rw[g _ z]at q;cases q) fun c=>by rw[g _ z]at c;cases c)) (fun _ q=>q) fun _ _ q=>q
end
variable{s':Shared}{e:Value}
section
variable {E:XK} 
end
variable{mg:Str->Option Value}
section
end
def UQ(K:mw)(C:Addr)(b:List Value)(newId:String)(o:Obj):Bool:=match o.data with
 | .cls a=>o.cls==.type "type"&&(a.mro.head?==some (.ref C)&&(PySem.W.tailIn K b a.mro.tail&&(o.slots.size==6&&(o.slots[4]?==some (some (.builtin newId))&&(!a.hasDel&&(PySem.W.nsOkIn K a.ns&&PySem.W.nsIn K a.ns "__init__"==some none))))))
 |_=>false
def RC(K:mw)(C:Addr)(a:List Value)(newId:String):Bool:=(K.lookup C).any (UQ K C a newId)
theorem WT{g:Type}{l:List g}(h:l.length=6):∃a b c d e f,l=[a,b,c,d,e,f]:=by
 cases l with
 |nil=>cases h
 |cons a l=>
 cases l with
 |nil=>cases h
 |cons b l=>
 cases l with
 |nil=>cases h
 |cons c l=>
 cases l with
 |nil=>cases h
 |cons d l=>
 cases l with
 |nil=>cases h
 |cons e l=>
 cases l with
 |nil=>cases h
 |cons f l=>
 cases l with
 |nil=>exact⟨a,b,c,d,e,f,rfl⟩
 |cons _ _=>cases h
section
end
def subIn(K:mw)(C D:Addr):Bool:=match K.lookup C with
 |some ⟨_,_,.cls a,_⟩=>a.mro.contains (.ref D)
 |_=>false
section
variable{M:Model} 
theorem C_{nm q:Str}{N:Addr}{bs G:List Value}{k:Bool}{sn:List Str}{sub:List Value}{ab:Bool}{p:Option Bool}{dd:Option Addr}{k0 k1 k2 k3 k5:Option Value}{newId:String}{r J:Str}{l K:Addr}{s c:List Value}{i:Bool}{u:List Str}{m:List Value}{v:Bool}{n:Option Bool}{w:Option Addr}{x y z B D:Option Value}{a:String}{g:Array GenState}{d:Drawn}{t:Nat}{os:OsState}{e:Addr}{H:Obj}{Q:Bool->Shared->Prop}(L:h.get? C=some (excClassObj nm q C N bs G k sn sub ab p dd k0 k1 k2 k3 k5 newId))(I:h.get? l=some (excClassObj r J l K s c i u m v n w x y z B D a))(O:h.get? e=some H)(o:H.cls=.ref C)(j:c.contains (.type "BaseException")=true)(P:(Value.ref C::G).contains (.ref l)=b)(R:Q b ⟨h,g,d,t,os⟩):wpAny M A (excMatches (.ref e) (.ref l)) Q E ⟨h,g,d,t,os⟩:=by
 have F:(Value.ref l::c).contains (.type "BaseException")=true:=by rw[List.contains_cons,j,Bool.or_true]
 have f:=tc_notTuple;unfold excMatches;cases b<;>(repeat (first|(with_reducible refine wpAny_loadPart_at O ?_;rw[o])|with_reducible refine wpAny_loadPart_at I ?_|(with_reducible refine wpAny_isSubtype_exc I ?_;rw[F])|(with_reducible refine wpAny_isSubtype_exc L ?_;rw[P])|wp_step))<;>exact R
end
abbrev Cx.held(X:Cx)(e:Value):Cx:={X with A:=X.A.mark (some e),calm:=false,xe:=fun _ _=>False}
section
variable {E:XK} 
theorem Inv.held(I:Inv X pins σ H s)(e:Value):Inv (X.held e) pins σ H s:=
 ⟨⟨I.ok.mod,I.ok.kind,I.ok.glob,I.ok.blt,I.ok.above,I.ok.inj,I.ok.has,I.ok.Zg,(fun z=>nomatch z),I.ok.frames,I.ok.Zs,I.ok.Zt,I.ok.bs,I.ok.TV,I.ok.OH,I.ok.OI,I.ok.EC,I.ok.WE⟩,
  I.os,I.bare,I.base,I.loc,I.cell,I.free,I.Bj,I.pin,I.As,I.len⟩
theorem Inv.Xo(ok:X.Ok)(I:Inv (X.held e) pins σ H s):Inv X pins σ H s:=⟨ok,I.os,I.bare,I.base,I.loc,I.cell,I.free,I.Bj,I.pin,I.As,I.len⟩
end
variable{eI eJ:List Value}{Fw:List Stmt}{nD:String}{Dd:Addr}{e0:Expr}{b0:Stmt}{hp yp tp cp:Pos}{y:Str}{ta:TA}
section
variable {CX:Je} {n:Str} {pos:Pos} {nC:String} {ts:TS}
end
section
variable {E:XK} {ea:Addr} 
end
section
variable {i:Nat} {n:Str} {pos:Pos} {nC:String} {ts:Addr->TS}
def Ends.only(D:Ends):Ends:={nx:=fun _ _=>False,rt:=D.rt}
end
section
variable {i:Nat} {n z:Str} {pos zp:Pos} {nC:String} {ts:TS} {tx:Addr->TS}
end
section
variable {x D:Addr} {ox:Obj}
abbrev HK:List Value:=[.type "ValueError",.type "Exception",.type "BaseException",.type "object"]
theorem fj:builtinKind "BaseException.__getattribute__"=some Manifest.AttrKind.slot:=by kernel_rfl
theorem fm:splitId "BaseException.__getattribute__"=some ("BaseException","__getattribute__"):=by kernel_rfl
theorem iu:HK.contains (.type "BaseException")=true:=by decide
variable {ea:Addr} 
end
section
end
end L2
namespace L2
open PySem
end L2
namespace L2
open PySem PySem.Spec PyProof.Rows
theorem II:bootBuiltins "ValueError"=some (.type "ValueError"):=by decide+kernel
section
variable{P:Program} {w:World} {K:mw} {mg:Str->Option Value} {base:Heap}
end
variable{es:List Expr}{fd:FuncData}{ps:List Str}{X:Cx}
section
variable {CX:Je} {k:Nat} {f:Addr} {ds:List Value} {OS:List V} {sp:Sp} {E:XK} {x:Str} {p pos:Pos} {e:Expr} {t:TA}
end
variable{C:Addr}
section
variable {pins:List (Addr×Obj)} {σ:St} {H:Hp} {s:Shared} {ea:Addr} {oe:Obj}
end
section
variable {k i j:Nat} {f Dd:Addr} {sp:Sp} {x y n z:Str} {p pos hp yp tp cp zp:Pos} {e0:Expr} {ta:TA} {eI eJ:List Value} {nC nD:String} {b0:Stmt} {Fw:List Stmt} {tx:TS}
end
variable{mN:Str->Option Value}
section
variable{Eg:Program} {wd:World} {Ar:Around} {Ex:Value->Shared->Prop} {hp:Heap} {gn:Array GenState} {dr:Drawn} {tk:Nat} {sy:OsState}
variable{nm qn:Str} {N:Addr} {bs tl Xp:List Value} {hdc:Bool} {sn:List Str} {sb:List Value} {ab:Bool} {cl:Option Bool} {dd:Option Addr} {k0 k1 k2 k3 k5:Option Value} {B newId IJ:String}
abbrev RD(C t:Addr):Obj:={cls:=.ref C,data:=.fields #[.ref t,.none,.none,.none,.bool false,.none]}
theorem Gn(F:ExcBaseFacts B newId IJ Xp)(T:OwnTail hp Xp tl){rest:List Value}{h:Addr}{k:Obj}{Q:Fin->Shared->Prop}(d:hp.get? C=some (excClassObj nm qn C N bs tl hdc sn sb ab cl dd k0 k1 k2 k3 k5 newId))(m:hp.Ns N mN)(n:mN "__init__"=some (.ref h))(p:hp.get? h=some k)(q:k.cls=.type "function")(s:rest.length<=sizeLine)(t:∀h' e,Heap.MadeExcOf hp h' e (.ref C) rest->wpAny (model Eg wd) Ar (call (.ref h) (.ref e::rest)) (fun r s'=>r=.none/\Q (.done (.ret (.ref e))) s') Ex ⟨h',gn,dr,tk,sy⟩):
  wpAny (model Eg wd) Ar (Builtin.«type.__call__» ⟨.ref C::rest,[]⟩) Q Ex ⟨hp,gn,dr,tk,sy⟩:=by
 repeat (first|with_reducible refine wpAny_loadPart_at d ?_|with_reducible refine wpAny_madeBy_exc d ?_|wp_step)
 refine codeAny_call_builtin_code (Code.quiet_builtin _ F.quiet) (wpAny_check_new_subT F T d ?_);refine codeAny_exc_new_subT F T d ?_ s;show wpAny _ _ _ _ _ _;obtain⟨c,a⟩:∃c,c=(hp.push {cls:=.type "tuple",data:=.seq rest.toArray}).push (RD C hp.objs.size):=⟨_,rfl⟩;have f:∀b o,hp.get? b=some o->c.get? b=some o:=fun b o e=>by rw[a];exact Heap.get?_push_of_some _ (Heap.get?_push_of_some _ e)
 have l:c.get? (hp.objs.size+1)=some (RD C hp.objs.size):=by rw[a];heap_get
 have u:c.get? hp.objs.size=some {cls:=.type "tuple",data:=.seq rest.toArray}:=by rw[a];exact Heap.get?_push_of_some _ (Heap.get?_push_at rfl rfl)
 rw[<-a];have g:=f _ _ d;have i:c.Ns N mN:=let⟨o,v,w,e,r⟩:=m;⟨o,v,w,f _ _ e,r⟩;have y:=T.keeps f;have j:(Value.ref C::tl).contains (.ref C)=true:=by simp
 unfold isInstance
 repeat (first|with_reducible refine wpAny_loadPart_at l ?_|(with_reducible refine wpAny_isSubtype_exc g ?_;rw[j])|wp_step)
 show wpAny _ _ (typeLookup (.ref C) _) _ _ _;refine wpAny_typeLookup_tail g i y F.mroIs F.init.lookup ?_;rw[n];refine wpAny_holding (wpAny_bind ?_);unfold bindSpecial;refine wpAny_bind (wpAny_typeOf (T:="function") ⟨_,f _ _ p,q⟩ ?_);rw[if_pos (by decide)];refine wpAny_pure (wpAny_bind (wpAny_mono (t c (hp.objs.size+1) ⟨f,Heap.get?_none_of_le (Nat.le_succ _),hp.objs.size,l,Heap.get?_none_of_le (Nat.le_refl _),u⟩) (fun r s' z=>?_) fun _ _ x=>x));obtain⟨rfl,A⟩:=z;wp_walk;exact A
theorem RE(F:ExcBaseFacts B newId IJ Xp)(T:OwnTail hp Xp tl){rest:List Value}{b:Addr}{c:Obj}{Q:Value->Shared->Prop}(a:hp.get? C=some (excClassObj nm qn C N bs tl hdc sn sb ab cl dd k0 k1 k2 k3 k5 newId))(d:hp.Ns N mN)(f:mN "__init__"=some (.ref b))(g:hp.get? b=some c)(h:c.cls=.type "function")(i:rest.length<=sizeLine)(j:∀h' e,Heap.MadeExcOf hp h' e (.ref C) rest->wpAny (model Eg wd) (Ar.under (.builtin "type.__call__" ⟨.ref C::rest,[]⟩)) (call (.ref b) (.ref e::rest)) (fun r s'=>r=.none/\Q (.ref e) s') Ex ⟨h',gn,dr,tk,sy⟩):
  wpAny (model Eg wd) Ar (call (.ref C) rest) Q Ex ⟨hp,gn,dr,tk,sy⟩:=by
 have l:=tc_lookup;have m:=tc_bind (.ref C);have n:(⟨hp,gn,dr,tk,sy⟩:Shared).TypeIs (.ref C) "type":=⟨_,a,rfl⟩;refine wpAny_call (codeAny_of_tree ?_);show wpAny _ _ (callAny (.ref C) _) _ _ _
 repeat (any_goals (first|assumption|with_reducible refine wpAny_loadPart_at a ?_|wp_step))
 refine⟨rfl,?_⟩;exact codeAny_call_builtin_at (Code.quiet_builtin _ (by decide+kernel)) entry_typeCall (wpAny_check_type_call_sub a (Gn F T a d f g h i fun h' e k=>j h' e k))
end
end L2
namespace L2
open PySem PySem.Spec PyProof.Rows PySem.W PySem.Builtin PySem.Builtin.ObjectAttr
noncomputable def Fx:List Value->Bool
 | .ref _::r=>Fx r
 |l=>l==HK
theorem Dx(self:Value):∀{l:List Value},Fx l=true->refuseLoop self "__setattr__" l=pure ()
 | .ref c::r,e=>by rw[refuseLoop_ref];exact Dx self e
 |[],e=>by cases e
 | .none::r,e=>by cases e
 | .type n::r,e=>by
  have:=beq_iff_eq.mp (show(Value.type n::r==HK)=true from e);rw[this];exact PySem.F.store_ValueError.passes self
 | .bool _::r,e=>by have:=beq_iff_eq.mp (show(_==HK)=true from e);cases this
 | .int _ _::r,e=>by have:=beq_iff_eq.mp (show(_==HK)=true from e);cases this
 | .str _ _::r,e=>by have:=beq_iff_eq.mp (show(_==HK)=true from e);cases this
 | .bytes _ _::r,e=>by have:=beq_iff_eq.mp (show(_==HK)=true from e);cases this
 | .float _ _::r,e=>by have:=beq_iff_eq.mp (show(_==HK)=true from e);cases this
 | .builtin _::r,e=>by have:=beq_iff_eq.mp (show(_==HK)=true from e);cases this
theorem HL:∀{l:List Value},Fx l=true->l.contains (.type "object")=true
 | .ref c::r,e=>by rw[List.contains_cons,HL (l:=r) e,Bool.or_true]
 |[],e=>by cases e
 | .type n::r,e=>by rw[beq_iff_eq.mp (show(Value.type n::r==HK)=true from e)];decide
 | .none::r,e=>by cases e
 | .bool _::r,e=>by have:=beq_iff_eq.mp (show(_==HK)=true from e);cases this
 | .int _ _::r,e=>by have:=beq_iff_eq.mp (show(_==HK)=true from e);cases this
 | .str _ _::r,e=>by have:=beq_iff_eq.mp (show(_==HK)=true from e);cases this
 | .bytes _ _::r,e=>by have:=beq_iff_eq.mp (show(_==HK)=true from e);cases this
 | .float _ _::r,e=>by have:=beq_iff_eq.mp (show(_==HK)=true from e);cases this
 | .builtin _::r,e=>by have:=beq_iff_eq.mp (show(_==HK)=true from e);cases this
variable{o:Obj}
section
variable{Eg:Program} {wd:World} {Ar:Around} {R:Result->Shared->Prop} {K:mw} {s:Shared} {x C:Addr} {name:Str} {v:Value} {mA:Str->Option Value} {ns:List Str}
theorem RF{tk:Tok}{od:Option Obj}(X:K.In s.heap)(J:PySem.W.InstAt s.heap x o C od)(p:(clsIn K C).any (fun c=>Fx c.mro)=true)(r:(clsIn K C).any (·.hasDict)=true)(t:takerIn K C name=some none)(u:∀b c c1 h d,c.hasDict=true->s.heap.get? C=some ⟨c1,h,.cls c,d⟩->wpAny (model Eg wd) Ar.in1 (storeInOwnDict (.ref x) (.ref C) (.str name tk) name v b) (fun fin s'=>match fin with| .done f=>R (.ok f) s'| .again k=>k.quiet=true/\codeAny (model Eg wd) Ar k R s') (fun e s'=>R (.error e) s') s):
  codeAny (model Eg wd) Ar (.call (.builtin "object.__setattr__") ⟨[.ref x,.str name tk,v],[]⟩) R s:=by
 obtain⟨c,g,j⟩:=any_some p;have i:=PySem.F.store_object;have ne:c.mro.isEmpty=false:=by
  cases q:c.mro with
  |nil=>rw[q]at j;cases j
  |cons _ _=>rfl
 have fg:Looks (model Eg wd) s.heap (isInstance (.ref x) (.type "object")) true:=J.type.andThen (looks_mroIn X (by unfold mroIn;rw[g,Option.bind_some,if_neg (by rw[ne];decide),HL j]));refine codeAny_call_builtin i.slot.plain i.entry (@check_slot (model Eg wd) _ _ s "object.__setattr__" "object" "__setattr__" (.ref x) [.str name tk,v] [] _ i.kind i.split fg (i.args (.ref x) (.str name tk) v) ?_);obtain⟨attr,w,y⟩:=Option.bind_eq_some_iff.mp t;have mro:Looks (model Eg wd) s.heap (mroOf (.ref C)) c.mro:=(looks_clsIn X g).andThen .now;have l:Looks (model Eg wd) s.heap (storeTaker? attr) none:=by
  cases attr with
  |none=>exact .now
  |some a=>
   obtain⟨b,z,e⟩:=Option.map_eq_some_iff.mp y;cases b with
   |true=>cases e
   |false=>exact(looks_takesIn X z).andThen .now
 rw[osa_eq,refuse_eq];refine wpAny_bind (wpAny_bind (J.type.here (wpAny_bind (mro.here ?_))));rw[Dx _ j];refine wpAny_pure (wpAny_bind (J.type.here (wpAny_bind ((looks_findIn X w).here (wpAny_bind (l.here ?_))))));dsimp only;have m:c.hasDict=true:=by
  obtain⟨A,n,B⟩:=any_some r;rw[g]at n;cases n;exact B
 obtain⟨c1,h,d,D⟩:∃c1 h d,s.heap.get? C=some ⟨c1,h,.cls c,d⟩:=by
  unfold clsIn at g;split at g
  ·rename_i k H E G q
   cases g;exact⟨_,_,_,X _ _ q⟩
  ·cases g
 exact u _ c c1 h d m D
theorem Oo(h:PySem.W.notCls o=true)(c:ClassData):o.data≠.cls c:=fun q=>by unfold PySem.W.notCls at h;rw[q]at h;cases h
theorem Oq{tk:Tok}(X:K.In s.heap)(J:PySem.W.InstAt s.heap x o C none)(w:(clsIn K C).any (fun p=>Fx p.mro)=true)(z:(clsIn K C).any (·.hasDict)=true)(A:takerIn K C name=some none)(B:∀h' i,h'.get? x=some {o with dict:=some s.heap.objs.size}->h'.Ns1 s.heap.objs.size (fun y=>if y=name then some v else none)->(∀b u,b≠x->s.heap.get? b=some u->h'.get? b=some u)->R (.ok (.ret .none)) {s with heap:=h',toks:=i}):
  codeAny (model Eg wd) Ar (.call (.builtin "object.__setattr__") ⟨[.ref x,.str name tk,v],[]⟩) R s:=by
 refine RF X J w z A fun P p c1 Q D E F=>?_;have h:=J.at_;have j:=J.cls;have G:o.dict=none:=by
  have:=J.dict;cases q:o.dict with
  |none=>rfl
  |some _=>rw[q]at this;exact this.elim
 have H:=Heap.lt_size h;unfold storeInOwnDict
 repeat (first|(with_reducible refine wpAny_loadPart_at h ?_;rw[j])|with_reducible refine wpAny_load F ?_|wp_step)
 rw[G];dsimp only;rw[if_neg (by simp[typeHasDict])];split
 ·rename_i c q
  exact absurd q (Oo J.no c)
 ·have f:(s.heap.push {cls:=.type "dict",data:=.dict #[]}).get? x=some o:=Heap.get?_push_of_some _ h;have r:x≠s.heap.objs.size:=Nat.ne_of_lt H;refine wpAny_bind (wpAny_alloc' (wpAny_bind (wpAny_update' f (wpAny_pure ?_))));obtain⟨d,a⟩:∃d,d=(s.heap.push {cls:=.type "dict",data:=.dict #[]}).update x fun o=>{cls:=o.cls,dict:=some s.heap.objs.size,data:=o.data,slots:=o.slots}:=⟨_,rfl⟩;have I:d.get? s.heap.objs.size=some {cls:=.type "dict",data:=.dict #[]}:=by rw[a];exact(Heap.get?_update_ne _ _ _ _ r.symm).trans (Heap.get?_push_at rfl rfl)
  have L:d.get? x=some {o with dict:=some s.heap.objs.size}:=by
   rw[a];refine Heap.get?_update_self _ f ?_;have M:=(Heap.get?_some_iff.mp h).2;obtain⟨a1,a2,a3,a4⟩:=o;cases a3<;>first|rfl|exact M
  have go:∀b u,b≠x->s.heap.get? b=some u->d.get? b=some u:=fun b u k e=>by rw[a];exact(Heap.get?_update_ne _ _ _ _ k).trans (Heap.get?_push_of_some _ e)
  have N:d.Ns s.heap.objs.size (fun _=>none):=⟨_, #[],_,I,rfl,fun e O=>absurd O (by simp),fun _=>rfl⟩;rw[<-a];show wpAny _ _ (storeInDict s.heap.objs.size (.str name tk) name v) _ _ _;unfold storeInDict newKeyGuard;refine wpAny_bind (wpAny_pure (wpAny_bind (wpAny_nsSet1 (Heap.Ns1.of_empty N) fun h' g t=>?_)));obtain⟨S,T,U,l,m,n⟩:=g.count (Within.cons name v Within.nil);refine wpAny_bind (wpAny_lookBehind l (by rw[m];exact pastItsLine_dict (Nat.le_trans n (by rw[List.length_cons,List.length_nil,sizeLine_eq];lia))) ?_);wp_walk;exact B h' _ ((t.2 x r).trans L) g fun b u k e=>(t.2 b (Nat.ne_of_lt (Heap.lt_size e))).trans (go b u k e)
end
end L2
namespace L2
open PySem PySem.Spec PyProof.Rows PySem.W PySem.Builtin PySem.Builtin.ObjectAttr
def NM(C:Addr)(o:Obj):Bool:=match o.data with
 | .cls a=>o.cls==.type "type"&&(a.mro.head?==some (.ref C)&&(a.mro.tail.contains (.type "BaseException")&&(o.slots.size==6&&(o.slots[4]?==some (some (.builtin "ValueError.__new__"))&& !a.hasDel))))
 |_=>false
def Bw(K:mw)(C:Addr):Bool:=(K.lookup C).any (NM C)
theorem FC{K:mw}{h:Heap}{C:Addr}(X:K.In h)(q:Bw K C=true):∃tl N nm qn bs hdc sn sb ab cl dd k0 k1 k2 k3 k5,h.get? C=some (excClassObj nm qn C N bs tl hdc sn sb ab cl dd k0 k1 k2 k3 k5 "ValueError.__new__")/\tl.contains (.type "BaseException")=true:=by
 obtain⟨o,e,q⟩:=any_some q;obtain⟨c,dd,data,f⟩:=o;cases data with
 |cls g=>
  obtain⟨nm,bs,a,i,qn,j,sn,sub,ab,b,k⟩:=g;simp only[NM,Bool.and_eq_true,beq_iff_eq,Bool.not_eq_true']at q;obtain⟨m,d,n,p,r,s⟩:=q;cases a with
  |nil=>cases d
  |cons v t=>
   cases d;obtain⟨l⟩:=f;obtain⟨k0,k1,k2,k3,k4,k5,rfl⟩:=WT (l:=l) p;cases r;subst m s;exact⟨t,i,nm,qn,bs,j,sn,sub,ab,b,dd,k0,k1,k2,k3,k5,X _ _ e,n⟩
 |_=>cases q
structure Ot(K:mw)(D:Addr):Prop where
 q:Bw K D=true
 ga:PySem.W.findIn K (.ref D) "__getattribute__"=some (some (.builtin "BaseException.__getattribute__"))
 gn:PySem.W.findIn K (.ref D) "__getattr__"=some none
section
variable{Eg:Program} {wd:World} {Ar:Around} {K:mw} {s:Shared} {x D:Addr} {ox:Obj} {od:Option Obj} {name:Str} {v:Value}
theorem Ou{R:Result->Shared->Prop}{tk:Tok}(X:K.In s.heap)(I:PySem.W.InstAt s.heap x ox D od)(k:Ot K D)(j:PySem.W.findObj K D od name=some (.value v))(h:R (Except.ok (Flow.ret v)) s):
  codeAny (model Eg wd) Ar (Code.call (Value.builtin "BaseException.__getattribute__") {pos:=[Value.ref x,Value.str name tk]}) R s:=by
 obtain⟨l,g,d,t,os⟩:=s;obtain⟨m,N,n,o,bs,a,p,sub,r,c,u,w,k1,k2,k3,k5,y,z⟩:=FC X k.q;refine codeAny_call_builtin PySem.F.attrBase_ValueError.ga.plain PySem.F.entry_bexc_ga ?_;have f:=@wpAny_check_slot_inst Ar.in1 (fun e A=>R (Except.error e) A) l g d t os n o D N x bs m a p sub r c u w k1 k2 k3 k5 "ValueError.__new__" (model Eg wd) "BaseException.__getattribute__" "BaseException" "__getattribute__" ox [Value.str name tk];refine f fj fm (PySem.F.args_bexc_ga _ _) z I.at_ I.cls y ?_;clear f;unfold Builtin.«object.__getattribute__» slotArgs;generalize b:Builtin.ObjectAttr.find=B;generalize i:Builtin.ObjectAttr.bindTo=C
 repeat (first|(with_reducible refine wpAny_loadPart_at I.at_ ?_;rw[I.cls])|wp_step)
 subst b;refine(PySem.W.looks_find X I j) _ _ _ _ (fun _ _ e=>e) ?_;dsimp only;exact wpAny_pure h
theorem RG{E:Value->Shared->Prop}{Q:Value->Shared->Prop}{ex:Bool}(X:K.In s.heap)(I:PySem.W.InstAt s.heap x ox D od)(k:Ot K D)(a:PySem.W.findObj K D od name=some (.value v))(b:PySem.W.handedIn v=true)(h:Q v {s with toks:=s.toks+1}):
  wpAny (model Eg wd) Ar (getAttr (Value.ref x) name ex) Q E s:=by
 unfold getAttr;refine wpAny_bind (wpAny_mkText ?_);unfold getAttrBy;refine wpAny_holding (wpAny_bind ((I.type (h:=s.heap)) _ _ _ _ (fun _ _ e=>e) ?_));refine wpAny_bind ((PySem.W.looks_findIn X k.ga) _ _ _ _ (fun _ _ e=>e) ?_);dsimp only;have c:(Value.builtin "BaseException.__getattribute__"==Value.builtin "object.__getattribute__")=false:=by decide
 rw[c,Bool.and_false,if_neg Bool.false_ne_true];unfold getAttrByItsOwn;refine wpAny_bind ((PySem.W.looks_hook X (mc:=.ref D) (r:=none) k.gn) _ _ _ _ (fun _ _ e=>e) ?_);refine wpAny_bind (wpAny_attempt (wpAny_holding ?_));unfold callGetattribute boundAndCalled;rw[if_neg (by rw[show onTheHeap (Value.builtin "BaseException.__getattribute__")=false from rfl,Bool.and_false];decide),PySem.F.attrBase_ValueError.ga.bind];refine wpAny_bind (wpAny_pure ?_);refine wpAny_call (Ou (s:={s with toks:=s.toks+1}) X I k a ?_);exact PySem.W.handed_on b h
end
end L2
namespace L2
open PySem PySem.Spec PyProof.Rows
variable{H:Hp}{w:World}{a C:Addr}{P:Program}{h:Heap}{d:Option Addr}
section
variable {H':Hp} {h' h0:Heap} {e T:Addr} {o:HO}
structure KI(d:Option Addr)(H:Hp)(h0 h:Heap)(e C:Addr)(oe:Obj)(vs:Array Value)(T:Addr):Prop where
 at_:h.get? e=some oe
 cls:oe.cls=.ref C
 dict:oe.dict=d
 data:oe.data=.fields vs
 sz:1<vs.size
 one:vs[1]?=some (.ref T)
 ne:T≠e
 ent:Entry h T .none
 He:H e=none
 HT:H T=none
 Zn:h0.get? e=none
 fq:h0.get? T=none
def KJ(P:Program)(w:World):Je:=fun outer H s E e b=>∃(c C:Addr)(d:Option Addr)(H':Hp),e=.ref c/\b.os=s.os/\AllBare b.gens/\Un (JT outer) [] H H' s.heap b.heap/\CS P w H' b.heap/\(∃f g T,KI d H' s.heap b.heap c C f g T)/\E (.ref C) d H'
theorem KI.next{f:Obj}{vs:Array Value}{g:Addr}(cls:f.cls=.ref C)(dict:f.dict=d)(data:f.data=.fields vs)(sz:1<vs.size)(p:H e=none)(i:h0.get? e=none)(j:CS P w H h)(r:∀b o,h0.get? b=some o->∃m,h.get? b=some m)(k:h.get? g=none)(l:∃o,h.get? e=some o)(s:h'.get? e=some (f.mapFields (·.setIfInBounds 1 (.ref g))))(t:Entry h' g .none):∃f vs T,KI d H h0 h' e C f vs T:=by
 have u:h0.get? g=none:=by
  cases z:h0.get? g with
  |none=>rfl
  |some o=>
   obtain⟨m,n⟩:=r g o z;rw[k]at n;cases n
 refine⟨_,_,g,s,(Obj.cls_mapFields _ _).trans cls,?_,Obj.data_mapFields data _,by simpa using sz,by simp[sz],fun z=>?_,t,p,j.none_of k,i,u⟩
 ·obtain⟨c,d,v,x⟩:=f;cases data;exact dict
 ·obtain⟨o,q⟩:=l;rw[<-z,k]at q;cases q
end
variable{X:Cx}{s:Shared}{pins:List (Addr×Obj)}{f:Addr}{M:Model}{σ:St}
section
variable {s':Shared} {E:XK} {e:Value}
theorem Ov{u:Value->Shared->Prop}(c:X.stack=X.env::X.outer)(k:X.env.frame=some X.env.locals)(hex:X.ex=[])(I:Inv X pins σ H s)(h:KJ X.prog X.w X.stack H s E e s'):
  wpAny M X.A (leaving X.env e) (fun _ l=>KJ X.prog X.w X.outer X.H₀ X.s₀ E e l) u s':=by
 obtain⟨m,C,d,j,rfl,os,bare,un,f,⟨B,D,T,F⟩,q⟩:=h;have i:Inv X pins σ j s':=I.JX os un f bare (fun b z=>absurd z (by simp));have p:=i.stack;rw[c]at p;have g:∀b,s.heap.get? b=none->X.s₀.heap.get? b=none:=fun b n=>by
  cases z:X.s₀.heap.get? b with
  |none=>rfl
  |some o=>
   obtain⟨G,r⟩:=I.base.there b o z (by rw[hex];simp);rw[n]at r;cases r
 have t:Un (JT X.outer) [] X.H₀ j X.s₀.heap s'.heap:=by
  have:=i.base;rw[hex]at this;exact this
 refine leaveX (by rw[<-c];exact I.ok.frames) p k F.at_ F.data F.sz (.inr ⟨T,F.one,F.ne,F.ent,rfl⟩) fun J K st v x y=>?_;have new:∀b∈[m,T],X.s₀.heap.get? b=none/\j b=none:=fun b a=>by
  simp only[List.mem_cons,List.not_mem_nil,or_false]at a;rcases a with rfl|rfl
  ·exact⟨g _ F.Zn,F.He⟩
  ·exact⟨g _ F.fq,F.HT⟩
 rw[<-c]at st;refine⟨m,C,d,j,rfl,i.os,i.bare,t.Xn st (fun b a=>(new b a).1) (fun b a=>?_),f.Xn st (fun b a=>(new b a).2) i.Dh,KI.next F.cls F.dict F.data F.sz F.He (g _ F.Zn) f (fun b o z=>t.there b o z (by simp)) v ⟨_,F.at_⟩ x y,q⟩;rcases List.mem_cons.mp (I.FO b a)with z|z
 ·right
  rw[z];exact Heap.get?_none_of_le I.ok.above
 ·exact .inl z
theorem KL{p:Value->Shared->Prop}{t:Addr}{h:Obj}(c:X.stack=X.env::X.outer)(i:X.env.frame=some X.env.locals)(hex:X.ex=[])(I:Inv X pins σ H s)(k:s.heap.get? f=some h)(r:h.cls=.ref C)(u:h.dict=d)(a:h.data=.fields #[.ref t,.none,.none,.none,.bool false,.none])(l:H f=none)(m:X.s₀.heap.get? f=none)(q:E (.ref C) d H):
  wpAny M X.A (leaving X.env (.ref f)) (fun _ j=>KJ X.prog X.w X.outer X.H₀ X.s₀ E (.ref f) j) p s:=by
 have v:s.heap.FunFrames X.base (X.env::X.outer):=by rw[<-c];exact I.stack
 have n:Un (JT X.outer) [] X.H₀ H X.s₀.heap s.heap:=by
  have:=I.base;rw[hex]at this;exact this
 refine leaveX (s:=s) (S:=[]) (by rw[<-c];exact I.ok.frames) v i k a (by simp) (.inl ⟨rfl,rfl⟩) fun D F st x y B=>?_;rw[<-c]at st;refine⟨f,C,d,H,rfl,I.os,I.bare,n.Xn st (fun b g=>by rw[List.mem_singleton.mp g];exact m) (fun b g=>?_),I.As.Xn st (fun b g=>by rw[List.mem_singleton.mp g];exact l) I.Dh,
  KI.next r u a (by simp) l m I.As (fun b o z=>n.there b o z (by simp)) x ⟨_,k⟩ y B,q⟩
 rcases List.mem_cons.mp (I.FO b g)with z|z
 ·right
  rw[z];exact Heap.get?_none_of_le I.ok.above
 ·exact .inl z
theorem av{L:Value->Shared->Prop}{G:Shared->Prop}(c:X.stack=X.env::X.outer)(x:X.env.frame=some X.env.locals)(I:Inv X pins σ H s)(h:KJ X.prog X.w X.stack H s E e s')(k:∀(N C:Addr) (d:Option Addr) (f:Hp) (i:Heap) (O:Obj) (vs:Array Value) (T:Addr),e=.ref N->E (.ref C) d f->KI d f s.heap i N C O vs T->(∀j:Heap,(∀b,b≠T->j.get? b=i.get? b)->Entry j T .none->Inv X pins σ f {s' with heap:=j})->G {s' with heap:=i}):
  wpAny M X.A (noteFrame e X.env) (fun _ m=>wpAny M X.A (setFlight e none) (fun _ n=>G n) L m) L s':=by
 obtain⟨l,C,d,f,rfl,os,bare,un,g,⟨O,vs,T,F⟩,q⟩:=h;have P:Inv X pins σ f s':=I.JX os un g bare (fun b z=>absurd z (by simp));have Q:=P.stack;rw[c]at Q;refine WS (by rw[<-c];exact I.ok.frames) Q x F.at_ F.data F.sz (.inr ⟨T,F.one,F.ne,F.ent,rfl⟩) fun R y st p B S=>?_;have r:l≠y:=fun z=>by rw[<-z,F.at_]at p;cases p
 refine RB (s:={s' with heap:=R}) B (Obj.data_mapFields F.data _) (T:=y) (by simp[F.sz]) S fun i k1 k2=>?_;rw[<-c]at st;obtain⟨D,J,u,v⟩:=KI.next (h:=s'.heap) (h':=i) F.cls F.dict F.data F.sz F.He F.Zn g (fun b o z=>un.there b o z (by simp)) p ⟨_,F.at_⟩ ((k1 l r).trans B) k2;have U:u=y:=by
  have z:=v.at_;rw[(k1 l r).trans B]at z;cases z;have z1:=v.data;rw[Obj.data_mapFields F.data]at z1;cases z1;have z2:=v.one;simp[F.sz]at z2;exact z2.symm
 subst U;refine k l C d f i D J u rfl q v fun j a1 a2=>?_;have new:∀b∈[l,T],s.heap.get? b=none/\f b=none:=fun b a=>by
  simp only[List.mem_cons,List.not_mem_nil,or_false]at a;rcases a with rfl|rfl
  ·exact⟨F.Zn,F.He⟩
  ·exact⟨F.fq,F.HT⟩
 have t:Zm [l,T] (JT X.stack) s'.heap j:=⟨fun b o q V K=>by
   have a:b≠u:=fun z=>by rw[z,p]at q;cases q
   rw[a1 b a,k1 b a];exact st.keep b o q V K,fun b o q K=>by
   have a:b≠u:=fun z=>by rw[z,p]at q;cases q
   obtain⟨Y,z⟩:=st.slot b o q K;exact⟨Y,by rw[a1 b a,k1 b a];exact z⟩⟩
 exact I.JX (s':={s' with heap:=j}) os (un.Xn t (fun b a=>(new b a).1) fun b a=>.inl a) (g.Xn t (fun b a=>(new b a).2) P.Dh) bare (fun b z=>absurd z (by simp))
end
variable{K:mw}{mg:Str->Option Value}{A:Around}{base:Heap}{scope:Scope}{qual:Str}{outer:List Env}
section
theorem aw{N:List Str}{a:Value}{E:XK}:Passes (KJ P w) (Eo (KJ P w) P w K mg base N qual scope f a A outer s H E) E:=
 fun pins b c d e g I h=>Ov (X:=Eo (KJ P w) P w K mg base N qual scope f a A outer s H E) rfl rfl rfl I h
end
def ax(b C:Addr)(d:Option Addr)(h:Heap):Prop:=∃(a:Obj)(t:Addr),h.get? b=some a/\a.cls=.ref C/\a.dict=d/\a.data=.fields #[.ref t,.none,.none,.none,.bool false,.none]
def Fy(a C:Addr)(d:Option Addr):HO:=.ext (ax a C d)
def iv(b:Addr)(fs:List (Str×V))(h:Heap):Prop:=∃a,h.Ns1 b a/\(∀f,CT (fs.lookup f) (a f))/\Within a (fs.map (·.1))
def TX(a:Addr)(fs:List (Str×V)):HO:=.ext (iv a fs)
variable{m:Str->Option Value}
theorem RH{b c:Heap}(n:b.Ns1 a m)(k:∀o,b.get? a=some o->c.get? a=some o):c.Ns1 a m:=by
 obtain⟨o,d,f,e,r⟩:=n;exact⟨o,d,f,k o e,r⟩
variable{ob:Obj}
section
variable {u:HO}
theorem Inv.Li(I:Inv X pins σ H s)(g:s.heap.get? a=some ob)(ok:Al X.prog X.w (upd H a u) s.heap a u)(h:H a=none)(i:X.s₀.heap.get? a=none)(j:a≠X.env.locals)(k:∀v,ob.data≠.cell v)(l:∀p∈X.pn++pins,p.1≠a):
  Inv X pins σ (upd H a u) s:=by
 have d:∀{b:Addr}{o:HO},H b=some o->upd H a u b=some o:=fun q=>by rw[AK (Ak q h)];exact q
 refine⟨I.ok,I.os,I.bare,⟨I.base.keep,I.base.slot,fun b o q n m=>?_,I.base.there,fun b r q=>d (I.base.Dg b r q),fun b o u q=>d (I.base.DV b o u q),fun b t q=>?_⟩,I.loc,I.cell,?_,fun y c q=>?_,fun p f=>?_,fun b o q=>?_,I.len⟩
 ·have e:b≠a:=fun z=>by rw[z,i]at q;cases q
  rw[AK e];exact I.base.free b o q n m
 ·obtain⟨more,z⟩:=I.base.EB b t q;exact⟨more,d z⟩
 ·rw[AK (Ne.symm j)];exact I.free
 ·have e:c≠a:=fun z=>by
   obtain⟨v,o,z1,z2⟩:=I.cell y c q;rw[z,g]at z1;cases z1;exact k _ z2
  rw[AK e];exact I.Bj y c q
 ·obtain⟨x,A,B⟩:=I.pin p f;exact⟨x,by rw[AK (l p f)];exact A,B⟩
 ·by_cases e:b=a
  ·subst e;rw[AG]at q;cases q;exact ok
  ·rw[AK e]at q;exact(I.As b o q).Gh (fun _ _ _ z=>z) (fun _ z=>d z) fun _ _ z=>d z
end
structure Lj(K:mw)(C:Addr)(f:Str):Prop where
 sa:PySem.W.findIn K (.ref C) "__setattr__"=some (some (.builtin "object.__setattr__"))
 ov:(PySem.W.clsIn K C).any (fun cd=>Fx cd.mro)=true
 hd:(PySem.W.clsIn K C).any (·.hasDict)=true
 nt:PySem.W.takerIn K C f=some none
inductive ay(K:mw)(f:Str)(x y:V)(H:Hp)(N:Hp->Prop):Prop
 |mk(a C:Addr)(e:x=.ref a)(h:H a=some (Fy a C none))(k:Lj K C f)(q:∀b,H b=none->b≠a->N (upd (upd H a (Fy a C (some b))) b (TX b [(f,y)])))
variable{E:Value->Shared->Prop}{y:V}
section
variable {f:Str} {u:Value} {Q:Unit->Shared->Prop} {ea dx:Addr}
theorem RI(hex:X.ex=[])(I:Inv X pins σ H s)(h:H ea=some (Fy ea C none))(k:Lj X.K C f)(G:RelV y u)(q:∀dx s',H dx=none->dx≠ea->Inv X pins σ (upd (upd H ea (Fy ea C (some dx))) dx (TX dx [(f,y)])) s'->Q () s'):
  wpAny (model X.prog X.w) A (setAttr (.ref ea) f u) Q E s:=by
 obtain⟨⟨L,t,n,r,hd,a⟩,_⟩:=I.As _ _ h;have J:PySem.W.InstAt s.heap ea L C none:=⟨n,r,by unfold PySem.W.notCls;rw[a],by rw[hd];trivial⟩;refine PySem.W.set_plain I.Ck J k.sa (Oq (s:={s with toks:=s.toks+1}) I.Ck J k.ov k.hd k.nt fun h' c d B M=>?_);have D:s.heap.objs.size≠ea:=Ne.symm (Nat.ne_of_lt (Heap.lt_size n));have N:=I.write (x:=ea) (e:=ea) (o:=Fy ea C (some s.heap.objs.size)) (h':=h') (t':=c) (by rw[h];exact True.intro) (.inl rfl) M ⟨_,d⟩
  ⟨⟨_,t,d,r,rfl,a⟩,⟨_,d⟩,fun k1 k2 ⟨i,t',z1,z2⟩ kk=>⟨i,t',kk i z1,z2⟩⟩
 obtain⟨O,Y,Z,b,j,l⟩:=id B;have P:Within (fun z=>if z=f then some u else none) [f]:=Within.cons f u Within.nil;refine q s.heap.objs.size _ I.fresh D (N.Li (ob:=O) b ⟨⟨_,B,fun g=>?_,P⟩,⟨_,b⟩,fun k1 k2 ⟨m,z1,z2⟩ kk=>⟨m,RH z1 kk,z2⟩⟩ (by rw[AK D];exact I.fresh) ?_ ?_ (fun v z=>by rw[j]at z;cases z) fun p R z=>?_)
 ·show CT (List.lookup g [(f,y)]) (if g=f then some u else none);by_cases e:g=f
  ·subst e;simp;exact G
  ·have:(g==f)=false:=by simpa using e
   simp[List.lookup_cons,this,e];trivial
 ·cases z:X.s₀.heap.get? s.heap.objs.size with
  |none=>rfl
  |some o=>
   obtain⟨i,S⟩:=I.base.there _ o z (by rw[hex];simp);exact absurd (Heap.lt_size S) (Nat.lt_irrefl _)
 ·obtain⟨m,⟨o,T,U,F,_⟩,_⟩:=I.loc;exact fun z=>by rw[<-z]at F;exact absurd (Heap.lt_size F) (Nat.lt_irrefl _)
 ·have:=(I.pin p R).1;rw[z]at this;exact absurd (Heap.lt_size this) (Nat.lt_irrefl _)
end
variable{o:Expr}{pos':Pos}
section
variable {value:Expr} {ta tv:TE} {f:Str} {pos:Pos}
def Xq(K:mw)(ta tv:TE)(f:Str):TS:=fun D a H=>tv a H fun y b=>ta a b fun x c=>ay K f x y c (D.nx a)
theorem RJ(hex:X.ex=[])(b:PE X o ta)(c:PE X value tv)(d:swapsWith value (some (.Attribute o f pos')) pos.line X.env=pure false):PS X (.Assign [.Attribute o f pos'] value pos) (Xq X.K ta tv f):=by
 intro pins s a H D I h;refine plainObj_wpAny_Assign_Attribute (Ap (c pins s a H _ I h) fun u e z1=>z1.elim fun y g i j l=>Ap (b pins e a g _ i l) fun m E z2=>z2.elim fun x F n p r=>?_) d;obtain⟨t,C,rfl,v,k,q⟩:=r;obtain rfl:m=Value.ref t:=p;exact RI hex n v k j fun w G z A B=>⟨a,_,B,q w z A⟩
end
theorem Ow{f:Str}{u:Value}{od:Obj}(n:h.Ns1 a m)(e:m f=some u)(g:h.get? a=some od):PySem.W.lookIn f od=some (some u):=by
 obtain⟨o,k,l,b,c,_,_,d⟩:=n;rw[g]at b;cases b;have:=(d f).trans e;unfold nsFind findBy at this;rw[<-Array.find?_toList]at this;obtain⟨p,i,j⟩:=Option.map_eq_some_iff.mp this;unfold PySem.W.lookIn;rw[c];dsimp only;rw[i,<-j]
def KN(b C:Addr)(d:Option Addr):HO:=.ext fun h=>∃a:Obj,h.get? b=some a/\a.cls=.ref C/\a.dict=d/\PySem.W.notCls a=true
structure RK(K:mw)(C:Addr)(f:Str):Prop where
 fk:Ot K C
 hd:PySem.W.hasDictIn K C=true
 no:PySem.W.findIn K (.ref C) f=some none
inductive eK(K:mw)(f:Str)(x:V)(H:Hp)(Q:VK):Prop
 |mk(a C b:Addr)(fs:List (Str×V))(i:Int)(e:x=.ref a)(h:H a=some (KN a C (some b)))(c:H b=some (TX b fs))(l:fs.lookup f=some (.int i))(k:RK K C f)(q:Q (.int i) H)
def NN(K:mw)(a:TE)(f:Str):TE:=fun b H Q=>a b H fun x c=>eK K f x c Q
variable{e:Expr}
section
variable {ta:TE} {f:Str} {pos:Pos}
theorem IK(n:PE X e ta)(o:attributeBase e f X.env (eval e X.env)=eval e X.env):PE X (.Attribute e f pos) (NN X.K ta f):=by
 intro pins s p H Q I h;refine Ms o (Ap (n pins s p H _ I h) fun u y z=>z.elim fun x A c B D=>?_);obtain⟨m,C,S,fs,i,rfl,E,F,l,k,q⟩:=D;obtain rfl:u=Value.ref m:=B;obtain⟨⟨G,L,M,hd,N⟩,_⟩:=c.As _ _ E;obtain⟨⟨O,a,d,T⟩,_⟩:=c.As _ _ F;obtain⟨od,U,V,b,P,g⟩:=id a;have J:PySem.W.InstAt y.heap m G C (some od):=⟨L,M,N,by rw[hd];exact b⟩;have r:=d f;rw[l]at r;cases j:O f with
 |none=>rw[j]at r;exact r.elim
 |some w=>
  rw[j]at r;obtain⟨t,rfl⟩:∃t,w=Value.int i t:=r;have R:=PySem.W.findObj_own (K:=X.K) (C:=C) (name:=f) (od:=od) (v:=Value.int i t) (attr:=none) k.hd k.no rfl (Ow a j b);exact RG c.Ck J k.fk R rfl ⟨.int i,A,c.tok _,⟨t,rfl⟩,q⟩
end
structure Eh(K:mw)(D:Addr):Prop where
 fk:Ot K D
 UR:PySem.W.hasDictIn K D=true
 ha:PySem.W.findIn K (.ref D) "__class__"=some (some (.builtin "object.__class__"))
 hn:PySem.W.specialIn K (.builtin "object.__class__") "__get__"=some (some (.builtin "getset_descriptor.__get__"))
 iw:PySem.W.takesIn K (.builtin "object.__class__")=some true
 hm:PySem.W.mroIn K D (.type "object")=some true
variable{D:Addr}{od:Option Obj}
theorem az(k:Eh K D):PySem.W.findObj K D od "__class__"=some (.bind (.builtin "getset_descriptor.__get__") (.builtin "object.__class__")):=by
 obtain⟨b,a,_⟩:=PySem.W.any_some k.UR;simp only[PySem.W.findObj,a,k.ha,k.hn,k.iw,Option.bind_some]
variable{R:Result->Shared->Prop}{Ar:Around}{Eg:Program}
section
variable {wd:World} {x:Addr} {ox:Obj} 
theorem Ox{tk:Tok}(X:K.In s.heap)(I:PySem.W.InstAt s.heap x ox D od)(k:Eh K D)(h:R (Except.ok (Flow.ret (Value.ref D))) s):
  codeAny (model Eg wd) Ar (Code.call (Value.builtin "BaseException.__getattribute__") {pos:=[Value.ref x,Value.str (Str.ofString "__class__") tk]}) R s:=by
 obtain⟨j,g,d,t,os⟩:=s;obtain⟨l,N,m,n,bs,a,o,sub,p,f,r,u,k1,k2,k3,k5,v,w⟩:=FC X k.fk.q;have y:=az (od:=od) k;refine codeAny_call_builtin PySem.F.attrBase_ValueError.ga.plain PySem.F.entry_bexc_ga ?_;have i:=@wpAny_check_slot_inst Ar.in1 (fun e z=>R (Except.error e) z) j g d t os m n D N x bs l a o sub p f r u k1 k2 k3 k5 "ValueError.__new__" (model Eg wd) "BaseException.__getattribute__" "BaseException" "__getattribute__" ox [Value.str (Str.ofString "__class__") tk];refine i fj fm (PySem.F.args_bexc_ga _ _) w I.at_ I.cls v ?_;clear i;unfold Builtin.«object.__getattribute__» slotArgs;generalize b:Builtin.ObjectAttr.find=A;generalize c:Builtin.ObjectAttr.bindTo=B
 repeat (first|(with_reducible refine wpAny_loadPart_at I.at_ ?_;rw[I.cls])|wp_step)
 subst b;refine(PySem.W.looks_find X I y) _ _ _ _ (fun _ _ e=>e) ?_;dsimp only;subst c;unfold Builtin.ObjectAttr.bindTo;dsimp only;refine wpAny_bind (wpAny_holding (wpAny_call (PySem.W.class_get X I k.hm ?_)));exact wpAny_pure h
theorem Lk{Q:Option Value->Shared->Prop}(X:K.In s.heap)(I:PySem.W.InstAt s.heap x ox D od)(k:Eh K D)(h:Q (some (Value.ref D)) {s with toks:=s.toks+1}):
  wpAny (model Eg wd) Ar (getAttr? (Value.ref x) (Str.ofString "__class__")) Q E s:=by
 unfold getAttr?;refine wpAny_bind (wpAny_mkText ?_);unfold getAttrBy?;refine wpAny_bind (wpAny_attempt ?_);unfold getAttrBy;refine wpAny_holding (wpAny_bind ((I.type (h:=s.heap)) _ _ _ _ (fun _ _ e=>e) ?_));refine wpAny_bind ((PySem.W.looks_findIn X k.fk.ga) _ _ _ _ (fun _ _ e=>e) ?_);dsimp only;have a:(Value.builtin "BaseException.__getattribute__"==Value.builtin "object.__getattribute__")=false:=by decide
 rw[a,Bool.and_false,if_neg Bool.false_ne_true];unfold getAttrByItsOwn;refine wpAny_bind ((PySem.W.looks_hook X (mc:=.ref D) (r:=none) k.fk.gn) _ _ _ _ (fun _ _ e=>e) ?_);refine wpAny_bind (wpAny_attempt (wpAny_holding ?_));unfold callGetattribute boundAndCalled;rw[if_neg (by decide),PySem.F.attrBase_ValueError.ga.bind];refine wpAny_bind (wpAny_pure ?_);refine wpAny_call (Ox (s:={s with toks:=s.toks+1}) X I k ?_);exact wpAny_pure (wpAny_pure h)
end
section
variable {x:Addr} {ox:Obj} 
theorem HM(k:Eh K D):PySem.W.KitX K (.ref x) (.ref D) (fun h=>PySem.W.InstAt h x ox D od)where
 ty:=fun _ _ _ I=>I.type
 it:=fun _ _ X _=>by
  obtain⟨ix,Xr,_⟩:=PySem.W.any_some k.UR;unfold PySem.W.clsIn at Xr;split at Xr
  ·rename_i c' d' iy iz ho
   intro A' Q' E' s' kk q;unfold isType loadHead;exact wpAny_bind (wpAny_loadPart (kk _ _ (X _ _ ho)) (wpAny_pure q))
  ·cases Xr
 ne:=fun h tp dd its n sl X i_=>by
  obtain⟨ix,Xr,_⟩:=PySem.W.any_some k.UR;refine Bool.eq_false_iff.mpr fun q=>?_;have e:D=tp:=Value.ref.inj (beq_iff_eq.mp q);subst e;unfold PySem.W.clsIn at Xr;split at Xr
  ·rename_i c' d' iy iz ho
   have z:=(X _ _ ho).symm.trans i_;cases z
  ·cases Xr
 ca:=fun{prog w A E Q s} X I h=>Lk X I k h
inductive IL(K:mw)(C:Addr)(xs:List V)(H:Hp)(Q:VK):Prop
 |mk(a:Addr)(d:Option Addr)(c:V)(u:Value)(b:Bool)(e:xs=[.ref a,c])(h:H a=some (KN a C d))(i:d=none∨∃f fs,d=some f/\H f=some (TX f fs))(j:∀g,RelV c g->g=u)(k:PySem.W.kitOne K (.ref C) u=some b)(q:Q (.bl b) H)
theorem BX(k:Eh X.K C):BF X (.builtin "isinstance") (IL X.K C):=by
 intro pins s B H E F Q I r h;obtain⟨e,d,c,u,b,rfl,p,t,v,j,q⟩:=h;cases r with
 |cons w f=>
  cases f with
  |cons y f=>
   cases f;cases(show _=Value.ref e from w);cases v _ y;obtain⟨⟨l,m,n,a,o⟩,_⟩:=I.As _ _ p;rcases t with rfl|⟨G,fs,rfl,A⟩
   ·have J:PySem.W.InstAt s.heap e l C none:=⟨m,n,o,by rw[a];trivial⟩;exact PySem.W.kia_one (HM k) I.Ck J j (fun z=>nomatch z) fun g=>⟨.bl b,H,I.tok g,rfl,q⟩
   ·obtain⟨⟨L,⟨od,M,N,i,_⟩,_⟩,_⟩:=I.As _ _ A;have J:PySem.W.InstAt s.heap e l C (some od):=⟨m,n,o,by rw[a];exact i⟩;exact PySem.W.kia_one (HM k) I.Ck J j (fun z=>nomatch z) fun g=>⟨.bl b,H,I.tok g,rfl,q⟩
end
variable{dd:Option Addr}{Ex:Value->Shared->Prop}{Q:Flow->Shared->Prop}{newId:String}{sn:List Str}{k0 k1 k2 k3 k5:Option Value}{N:Addr}{tl sb:List Value}{ab:Bool}{nm:Str}
section
variable {env:Env}
variable{qn:Str} {bs:List Value} {hdc:Bool} {cl:Option Bool} 
theorem Oy{t:Sem Value}(k:tl.contains (.type "BaseException")=true)(l:Ar.handled=none)(h:wpAny M Ar t (fun v a=>∃e b,v=.ref e/\a.heap.get? C=some (excClassObj nm qn C N bs tl hdc sn sb ab cl dd k0 k1 k2 k3 k5 newId)/\a.heap.get? e=some b/\b.cls=.ref C/\(∃t,b.data=.fields #[.ref t,.none,.none,.none,.bool false,.none])/\Ex (.ref e) a) Ex s):
  wpAny M Ar (raiseStmt env (some t) none) Q Ex s:=by
 have c:(Value.ref C::tl).contains (.type "BaseException")=true:=by rw[List.contains_cons,k,Bool.or_true]
 unfold raiseStmt;refine wpAny_bind (wpAny_mono h (fun v a z=>?_) fun _ _ x=>x);obtain⟨e,b,rfl,f,m,i,⟨q,j⟩,n⟩:=z;obtain⟨r,u,o,p⟩:=b;dsimp only at i j;subst i j;obtain⟨w,g,d,y,os⟩:=a
 repeat (first|with_reducible refine wpAny_loadPart_at m ?_|with_reducible refine wpAny_loadPart_at f ?_|(with_reducible refine wpAny_isSubtype_exc f ?_;rw[c])|wp_step)
 exact wpAny_raiseNew_none l n
end
variable{x:Str}
section
variable {wd:World} {env:Env} 
variable{qn:Str} {bs Xp:List Value} {hdc:Bool} {cl:Option Bool} {B IJ:String}
theorem Oz(F:ExcBaseFacts B newId IJ Xp){mN:Str->Option Value}{j:Addr}{n b pos:Pos}{args:List Expr}(q:tl.contains (.type "BaseException")=true)(u:Ar.handled=none)(k:(backTo b (starEach args env)).any (·.1)=false)(z:mN "__init__"=some (.ref j))(h:wpAny (model Eg wd) Ar (eval (.Name x n) env) (fun f o=>f=.ref C/\wpAny (model Eg wd) Ar (evalArgs (.ref C) true (backTo b (starEach args env)) []) (fun a c=>a.kw=[]/\a.pos.length<=sizeLine/\c.heap.get? C=some (excClassObj nm qn C N bs tl hdc sn sb ab cl dd k0 k1 k2 k3 k5 newId)/\c.heap.Ns N mN/\OwnTail c.heap Xp tl/\(∃l,c.heap.get? j=some l/\l.cls=.type "function")/\
    ∀h' e,Heap.MadeExcOf c.heap h' e (.ref C) a.pos->wpAny (model Eg wd) (Ar.under (.builtin "type.__call__" ⟨.ref C::a.pos,[]⟩)) (call (.ref j) (.ref e::a.pos)) (fun r s'=>r=.none/\s'.heap.get? C=some (excClassObj nm qn C N bs tl hdc sn sb ab cl dd k0 k1 k2 k3 k5 newId)/\(∃i,s'.heap.get? e=some i/\i.cls=.ref C/\∃t,i.data=.fields #[.ref t,.none,.none,.none,.bool false,.none])/\Ex (.ref e) s') Ex {c with heap:=h'}) Ex o) Ex s):
  wpAny (model Eg wd) Ar (exec (.Raise (some (.Call (.Name x n) args [] b)) none pos) env) Q Ex s:=by
 rw[arm_exec_Raise];simp only[evalOpt,Option.map];refine wpAny_bind (wpAny_standAt (Oy (C:=C) (nm:=nm) (qn:=qn) (N:=N) (bs:=bs) (tl:=tl) (hdc:=hdc) (sn:=sn) (sb:=sb) (ab:=ab) (cl:=cl) (dd:=dd) (k0:=k0) (k1:=k1) (k2:=k2) (k3:=k3) (k5:=k5) (newId:=newId) q u ?_));refine wpAny_bind (wpAny_mono (wpAny_Call_ofName (wpAny_mono h (fun f o z1=>?_) fun _ _ y=>y)) (fun v M z3=>wpAny_bind (wpAny_standAt (wpAny_pure z3))) fun _ _ y=>y);obtain⟨rfl,z1⟩:=z1;unfold callWith;refine wpAny_bind (wpAny_holding (wpAny_mono z1 (fun a c z2=>wpAny_bind (wpAny_standAt ?_)) fun _ _ y=>y));obtain⟨apos,m⟩:=a;obtain⟨kw,len,p,A,T,⟨l,D,E⟩,z2⟩:=z2;obtain rfl:m=[]:=kw;obtain⟨O,g,d,P,os⟩:=c;simp only[k];refine wpAny_bind (wpAny_keeperOf_exc p ?_);refine wpAny_bind (RE F T p A z D E len fun h' e G=>wpAny_mono (z2 h' e G) (fun r s' w=>⟨w.1,wpAny_bind (wpAny_holding (wpAny_point (wpAny_pure ?_)))⟩) fun _ _ y=>y);obtain⟨_,H,⟨i,I,J,K⟩,L⟩:=w;exact⟨e,i,rfl,H,I,J,K,L⟩
end
def NO(K:mw)(C b:Addr)(o:Obj):Bool:=match o.data with
 | .cls a=>o.cls==.type "type"&&(a.mro.head?==some (.ref C)&&(PySem.W.tailIn K HK a.mro.tail&&(o.slots.size==6&&(o.slots[4]?==some (some (.builtin "ValueError.__new__"))&&(!a.hasDel&&(PySem.W.nsOkIn K a.ns&&PySem.W.nsIn K a.ns "__init__"==some (some (.ref b))))))))
 |_=>false
def Fz(K:mw)(C a:Addr):Bool:=(K.lookup C).any (NO K C a)
variable{n:Str}
theorem Ll{v:Value}(X:K.In h)(G:h.Ns N mg)(e:PySem.W.nsIn K N n=some (some v)):mg n=some v:=by
 obtain⟨o,j,k,a,b,_,f⟩:=G;unfold PySem.W.nsIn at e;split at e
 ·rename_i c d g l m q
  have:=X _ _ q;rw[a]at this;cases this;cases b;split at e
  ·rename_i p i
   cases e;rw[<-f];unfold nsFind findBy;rw[<-Array.find?_toList,i];rfl
  ·split at e<;>cases e
 ·cases e
theorem US{d:Addr}(X:K.In h)(q:Fz K C d=true):∃tl N nm qn bs hdc sn sb ab cl dd k0 k1 k2 k3 k5 mN,h.get? C=some (excClassObj nm qn C N bs tl hdc sn sb ab cl dd k0 k1 k2 k3 k5 "ValueError.__new__")/\h.Ns N mN/\mN "__init__"=some (.ref d)/\OwnTail h HK tl:=by
 obtain⟨o,f,q⟩:=PySem.W.any_some q;obtain⟨c,dd,data,g⟩:=o;cases data with
 |cls i=>
  obtain⟨nm,bs,a,j,qn,k,sn,sub,ab,b,m⟩:=i;simp only[NO,Bool.and_eq_true,beq_iff_eq,Bool.not_eq_true']at q;obtain⟨n,e,p,r,s,t,u,w⟩:=q;cases a with
  |nil=>cases e
  |cons v x=>
   cases e;obtain⟨l⟩:=g;obtain⟨k0,k1,k2,k3,k4,k5,rfl⟩:=WT (l:=l) r;cases s;subst n t;have N:=Heap.Ns.of_isNs (PySem.W.isNs_of_in X u);exact⟨x,j,nm,qn,bs,k,sn,sub,ab,b,dd,k0,k1,k2,k3,k5,_,X _ _ f,N,Ll X N w,PySem.W.tail_of_in X p⟩
 |_=>cases q
section
variable {H3:Hp} {φ:Heap->Prop}
theorem Inv.drop(I:Inv X pins σ H s)(h:H a=some (.ext φ))(n:H3 a=none)(o:∀b,b≠a->H3 b=H b):Inv X pins σ H3 s:=by
 have no:∀{b},H b=none->H3 b=none:=fun{b} z=>by
  by_cases e:b=a
  ·rw[e];exact n
  ·rw[o b e];exact z
 have keep:∀{b u},H b=some u->(∀φ,u≠.ext φ)->H3 b=some u:=fun{b u} z f=>by
  by_cases e:b=a
  ·rw[e,h]at z;cases z;exact absurd rfl (f _)
  ·rw[o b e];exact z
 refine⟨I.ok,I.os,I.bare,⟨I.base.keep,I.base.slot,fun b d q n g=>no (I.base.free b d q n g),I.base.there,fun b i q=>keep (I.base.Dg b i q) (fun _ z=>nomatch z),fun b d u q=>keep (I.base.DV b d u q) (fun _ z=>nomatch z),fun b j q=>?_⟩,I.loc,I.cell,no I.free,fun y c q=>no (I.Bj y c q),fun p k=>?_,fun b u q=>?_,I.len⟩
 ·obtain⟨more,z⟩:=I.base.EB b j q;exact⟨more,keep z (fun _ z=>nomatch z)⟩
 ·obtain⟨l,m,r⟩:=I.pin p k;exact⟨l,no m,r⟩
 ·have e:b≠a:=fun e=>by rw[e,n]at q;cases q
  rw[o b e]at q;exact(I.As b u q).Gh (fun _ _ _ z=>z) (fun _ z=>keep z (fun _ z=>nomatch z)) fun _ _ z=>keep z (fun _ z=>nomatch z)
end
def NP(X:Cx)(E:XK):Prop:=∀(pins:List (Addr×Obj))(c:St)(H:Hp)(s:Shared)(a C t:Addr)(b:Obj)(d:Option Addr),Inv X pins c H s->s.heap.get? a=some b->b.cls=.ref C->b.dict=d->b.data=.fields #[.ref t,.none,.none,.none,.bool false,.none]->H a=none->X.s₀.heap.get? a=none->E (.ref C) d H->X.xe (.ref a) s
theorem IM{N:List Str}{b:Value}{E:XK}:NP (Eo (KJ P w) P w K mg base N qual scope f b A outer s H E) E:=
 fun pins j k l m C t n d I c e g a h i q=>KL (X:=Eo (KJ P w) P w K mg base N qual scope f b A outer s H E) rfl rfl rfl I c e g a h i q
inductive eN(E:XK)(C a:Addr)(v:V)(f:Hp):Prop
 |mk(d:Option Addr)(c:Hp)(e:v=.Aj)(h:f a=some (Fy a C d))(n:c a=none)(o:∀b,b≠a->c b=f b)(q:E (.ref C) d c)
inductive a_(sp:Sp)(E:XK)(C:Addr)(vs:List V)(b:Hp):Prop
 |mk(l:vs.length<=sizeLine)(q:∀a,b a=none->sp (.ref a::vs) (upd b a (Fy a C none)) (eN E C a) E0)
variable{ps:List Str}{k:Nat}{sp:Sp}{fd:FuncData}{ta:TA}
section
theorem EO{R:Addr}{e1:Expr}{l:List Expr}{E:XK}{np f pos:Pos}(hc:X.calm=true)(hex:X.ex=[])(hg:Gl X x)(hm:X.mg x=some (.ref C))(hq:Fz X.K C R=true)(F:AX X.prog X.w X.K X.mg X.base BN k R fd ps sp)(hr:Av (k+1) X.A)(hb:Binds X.K fd ps [])(S:∃M,X.K.lookup R=some M/\M.cls=.type "function")(hE:NP X E)(ha:PA X (e1::l) ta)(U:(x==("__debug__":Str))=false:=by decide)(he:starEach (e1::l) X.env=(false,eval e1 X.env)::starEach l X.env:=by rfl)(Y:(backTo f (starEach l X.env)).any (·.1)=false:=by rfl):
  PS X (.Raise (some (.Call (.Name x np) (e1::l) [] f)) none pos) (fun D n H=>ta n H fun Z q=>a_ sp E C Z q):=by
 intro pins s n H D I h;obtain⟨tl,N,nm,qn,bs,B,sn,sub,ab,W,dd,k0,k1,k2,k3,k5,mN,hC,hN,jA,T⟩:=US I.ok.mod.Wt hq;refine Oz (C:=C) (nm:=nm) (qn:=qn) (N:=N) (bs:=bs) (tl:=tl) (hdc:=B) (sn:=sn) (sb:=sub) (ab:=ab) (cl:=W) (dd:=dd) (k0:=k0) (k1:=k1) (k2:=k2) (k3:=k3) (k5:=k5)
  PySem.F.excBase_ValueError (mN:=mN) (T.hasType iu) (I.ok.hd hc) (by rw[he];exact Y) jA (DH I hg hm ⟨rfl,?_⟩ U)
 have key:=ha f pins s n H _ I h;rw[he]at key⊢;refine Calls.evalArgs_plain (wpAny_mono key (fun G O h1=>?_) fun _ _ y=>y);obtain⟨Z,q,g,r,hl,q1⟩:=h1;obtain⟨M,lk,jB⟩:=S;refine⟨rfl,by rw[<-r.length];exact hl,g.bk _ _ hC,hN.keeps g.bk,T.keeps g.bk,⟨M,g.Ck _ _ lk,jB⟩,fun P c a=>?_⟩;have n0:X.s₀.heap.get? c=none:=by
  cases z:X.s₀.heap.get? c with
  |none=>rfl
  |some o=>
   obtain⟨o',e'⟩:=g.base.there c o z (by rw[hex];simp);rw[a.new]at e';cases e'
 have hH:q c=none:=g.As.none_of a.new;obtain⟨t,ht,_,_⟩:=a.there;have I2:Inv X pins n q {O with heap:=P}:=g.JX (ch:=[]) (s':={O with heap:=P}) rfl (Un.kept a.keeps) (g.As.kept a.keeps) g.bare (fun b z=>absurd z (by simp));have nl:c≠X.env.locals:=fun z=>by
  obtain⟨m,⟨o,l,ep,ho,hd,_⟩,_⟩:=g.loc;rw[<-z,a.new]at ho;cases ho
 have I3:Inv X pins n (upd q c (Fy c C none)) {O with heap:=P}:=I2.Li (u:=Fy c C none) ht ⟨⟨_,t,ht,rfl,rfl,rfl⟩,⟨_,ht⟩,fun g1 g2 ⟨o',Q,z1,z2⟩ kk=>⟨o',Q,kk o' z1,z2⟩⟩ hH n0 nl (fun v z=>nomatch z) fun p hp z=>by
  have:=(g.pin p hp).1;rw[z,a.new]at this;cases this
 have rr:Vals (V.ref c::Z) (Value.ref c::G):=.cons rfl r;have q2:=q1 c hH;have bd:=hb {O with heap:=P} (Value.ref c::G) I3.Ck (by rw[List.append_nil,<-rr.length];exact F.len _ _ _ _ q2);rw[List.append_nil]at bd;refine wpAny_call (codeAny_mono (F.run _ X.stack _ _ ⟨Value.ref c::G,[]⟩ _ _ _ _ (hr.make C G []) (I3.Tj.make C G []) bd rr q2) fun r' s' i=>?_);cases r' with
 |error e=>exact False.elim i
 |ok fl=>
  cases fl with
  |next=>exact False.elim i
  |brk=>exact False.elim i
  |cont=>exact False.elim i
  |ret u=>
   obtain⟨v,H2,I4,rv,z⟩:=I3.after i;obtain⟨d,H3,rfl,h2,n3,o3,qE⟩:=z;obtain⟨⟨oe,Q,J,L,jC,j⟩,_⟩:=I4.As _ _ h2;refine⟨rv,I4.bk _ _ hC,⟨oe,J,L,Q,j⟩,?_⟩;exact hE pins n H3 s' c C Q oe d (I4.drop h2 n3 o3) J L jC j n3 n0 qE
end
abbrev TH:=Addr->Option Addr->Ends->St->Hp->Prop
theorem HN{q:Str}{bs e:List Value}{a:Bool}{sub:List Value}{c:Option Bool}{b:Bool}(X:K.In h)(g:Bw K C=true)(i:h.get? C=some (excClassObj nm q C N bs e a sn sub ab c dd k0 k1 k2 k3 k5 newId))(d:subIn K C D=b):(Value.ref C::e).contains (.ref D)=b:=by
 cases z:K.lookup C with
 |none=>
  obtain⟨o,f,_⟩:=PySem.W.any_some g;rw[z]at f;cases f
 |some o=>
  have:=X _ _ z;rw[i]at this;cases this;unfold subIn at d;rw[z]at d;exact d
variable{i:Nat}
section
theorem Inv.UT{h':Heap}{u:Option Value}{t':Nat}(I:Inv X pins σ H s)(t:X.N.Nodup)(A:X.N[i]?=some n)(B:∀(j:Nat) (x:Str) (v:V),X.N[j]?=some x->σ[j]?=some (some v)->Zr X.env.scope x->∃u,RelV v u/\Look X.env s.heap m x u)(C:h'.Ns X.env.locals (fun x=>if x=n then u else m x))(g:Heap.SameBut X.env.locals s.heap h'):Inv X pins (σ.set i none) H {s with heap:=h',toks:=t'}:=by
 have keep:∀b o,b≠X.env.locals->s.heap.get? b=some o->h'.get? b=some o:=fun b o a q=>(g.2 b a).trans q;have lo:∀{b o},X.s₀.heap.get? b=some o->b≠X.env.locals:=fun e=>Nat.ne_of_lt (Nat.lt_of_lt_of_le (Heap.lt_size e) I.ok.above);refine⟨I.ok,I.os,I.bare,⟨fun b o e n a d=>keep b o (lo e) (I.base.keep b o e n a d),fun b o e n a d=>?_,I.base.free,fun b o e d=>?_,I.base.Dg,I.base.DV,I.base.EB⟩,⟨_,C,fun j y v e1 e2 e3=>?_⟩,fun y c q=>?_,I.free,I.Bj,fun p D=>?_,?_,by rw[List.length_set];exact I.len⟩
 ·obtain⟨E,e1⟩:=I.base.slot b o e n a d;exact⟨E,keep b _ (lo e) e1⟩
 ·obtain⟨F,e1⟩:=I.base.there b o e d;exact⟨F,keep b _ (lo e) e1⟩
 ·have l:j≠i:=fun z=>by
   subst z;rw[List.getElem?_set]at e2;split at e2
   ·split at e2<;>cases e2
   ·rename_i w;exact absurd rfl w
  rw[List.getElem?_set_ne (Ne.symm l)]at e2;obtain⟨w,h,lk⟩:=B j y v e1 e2 e3;have G:y≠n:=fun z=>l ((List.getElem?_inj (mq e1).1 t).mp (by rw[e1,A,z]));refine⟨w,h,?_⟩;rcases lk with⟨l1,l2⟩|⟨l1,c,l2,l3⟩
  ·exact .inl ⟨l1,(if_neg G).trans l2⟩
  ·exact .inr ⟨l1,c,l2,l3.sameBut g (I.Tb y c l2)⟩
 ·obtain⟨v,z⟩:=I.cell y c q;exact⟨v,z.sameBut g (I.Tb y c q)⟩
 ·obtain⟨J,K,r,L,M⟩:=I.pin p D;exact⟨keep p.1 p.2 r J,K,r,L,M⟩
 ·intro b u q;refine(I.As b u q).Gh (fun c w f z=>keep c w (fun k=>?_) z) (fun _ z=>z) fun _ _ z=>z;rcases f with rfl|f
  ·rw[k,I.free]at q;cases q
  ·rw[k,I.free]at f;cases f
end
def PH(X:Cx)(f:List ExceptHandler)(t:TH):Prop:=
 ∀(pins:List (Addr×Obj))(s:Shared)(e:St)(H:Hp)(D:Ends)(g:Heap)(a C T:Addr)(d:Option Addr)(h:Obj)(i:Array Value),KI d H g s.heap a C h i T->X.s₀.heap.get? a=none->(∀p∈X.pn++pins,p.1≠a)-> (∀c:Heap,(∀b,b≠T->c.get? b=s.heap.get? b)->Entry c T .none->Inv X pins e H {s with heap:=c})->Bw X.K C=true->t C d D e H->wpAny (model X.prog X.w) X.A (handleBy (.ref a) X.env f) (SP X pins D) X.xe s
def Ends.UT(D:Ends)(i:Nat):Ends:={nx:=fun a H=>D.nx (a.set i none) H,rt:=D.rt,bk:=fun a H=>D.bk (a.set i none) H,ct:=fun a H=>D.ct (a.set i none) H}
inductive Xs(K:mw)(a:Addr)(i:Nat)(f:TS)(tr:TH)(C:Addr)(d:Option Addr)(D:Ends)(c:St)(H:Hp):Prop
 |hit (b:subIn K C a=true) (q:∀e,H e=none->f (D.UT i) (c.set i (some (.ref e))) (upd H e (KN e C d))):Xs K a i f tr C d D c H
 |miss (b:subIn K C a=false) (q:tr C d D c H):Xs K a i f tr C d D c H
def bA(K:mw)(a:Addr)(i:Nat)(b:TS)(tr:TH):TH:=fun C d D c H=>Xs K a i b tr C d D c H
variable{j:Nat}{es:List Expr}{Fw:List Stmt}
section
variable {Dd:Addr} {y z:Str} {p pos hp yp tp cp zp:Pos} {e0:Expr} {b0:Stmt} {tx:TS} {tr:TH} {rest:List ExceptHandler}
theorem Xt:PH X [] (fun _ _ _ _ _=>False):=fun _ _ _ _ _ _ _ _ _ _ _ _ _ _ _ _ _ q=>False.elim q
theorem UU(hg:Gl X y)(R:X.mg y=some (.ref Dd))(qD:Bw X.K Dd=true)(hN:X.N.Nodup)(hi:X.N[i]?=some n)(S:X.env.scope.names.lookup n=some .local)(U:∀e,Hk (X.held e) (b0::Fw) tx)(hr:PH X rest tr)(V:(y==("__debug__":Str))=false:=by decide):
  PH X (.ExceptHandler (some (.Name y yp)) (some n) (b0::Fw) hp::rest) (bA X.K Dd i tx tr):=by
 intro pins s σ H D h0 a C T d Y vs F n0 np mk I h;obtain⟨hh,gg,dr,tk,os⟩:=s;have E:=mk hh (fun _ _=>rfl) F.ent;have J:=E.ok.mod.Wt;obtain⟨tl,N,nm,qn,bs,UR,sn,sub,ab,col,dd,k0,k1,k2,k3,k5,L,_⟩:=FC J I;obtain⟨kc,N',kd,q',ke,Z,kf,jD,kg,jE,kh,ki,kj,kl,km,ko,hD,hB⟩:=FC J qD;refine wpAny_handleBy_cons (codeAny_handlers_test (DH (X:=X.held (.ref a)) (E.held _) hg R ?_ V)) (by intro z;cases z);cases h with
 |miss b q=>
  refine C_ (M:=model X.prog X.w) (A:=(X.held (.ref a)).A) (E.bk _ _ L) (E.bk _ _ hD) F.at_ F.cls hB (HN J I L b) ?_;exact hr pins ⟨hh,gg,dr,tk,os⟩ σ H D h0 a C T d Y vs F n0 np mk I q
 |hit b q=>
  refine C_ (M:=model X.prog X.w) (A:=(X.held (.ref a)).A) (E.bk _ _ L) (E.bk _ _ hD) F.at_ F.cls hB (HN J I L b) ?_;refine codeAny_handlers_suite_as (RB F.at_ F.data F.one F.ent fun h6 k1 k2=>?_);have O:=mk h6 k1 k2;have P:h6.get? a=some Y:=(k1 a (Ne.symm F.ne)).trans F.at_;have nl:a≠X.env.locals:=fun z=>by
   obtain⟨m,⟨o,es,ep,ho,hd,_⟩,_⟩:=O.loc;rw[<-z,P]at ho;cases ho;rw[F.data]at hd;cases hd
  have IP:=(O.held (.ref a)).Li (u:=KN a C d) P ⟨⟨Y,P,F.cls,F.dict,by unfold PySem.W.notCls;rw[F.data]⟩,⟨_,P⟩,fun g1 g2 ⟨o',z1,z2⟩ kk=>⟨o',kk o' z1,z2⟩⟩ F.He n0 nl (fun v z=>by rw[F.data]at z;cases z) np;refine FP (X:=X.held (.ref a)) IP hN hi (.inl S) (v:=.ref a) rfl (fun s7 I7=>?_) (.inr S);refine wpAny_mono (U (.ref a) pins _ (σ.set i (some (.ref a))) _ (D.UT i) I7 (q a F.He)) (fun fl s8 z=>?_) fun _ _ z=>False.elim z;have go:∀{c:St}{g:Hp}{Q:Unit->Shared->Prop},Inv (X.held (.ref a)) pins c g s8->(∀G,Inv X pins (c.set i none) g G->Q () G)->wpAny (model X.prog X.w) X.A (do bindName X.env n .none;unbindBehindTheSuite X.env n hp) Q X.xe s8:=fun{c g Q} t k=>by
   have l:=t.Xo O.ok;obtain⟨m,R,jF⟩:=l.loc;exact wpAny_nameGoes_keeps (m:=m) S R (by rw[O.ok.kind];rfl) fun h' v hn hs=>k _ (l.UT hN hi jF hn hs)
  cases fl with
  |next=>obtain⟨c,g,t,B⟩:=z;exact go t fun G l=>⟨_,_,l,B⟩
  |brk=>obtain⟨c,g,t,B⟩:=z;exact go t fun G l=>⟨_,_,l,B⟩
  |cont=>obtain⟨c,g,t,B⟩:=z;exact go t fun G l=>⟨_,_,l,B⟩
  |ret u=>obtain⟨v,c,g,t,r,B⟩:=z;exact go t fun G l=>⟨v,_,_,l,r,B⟩
end
inductive eO(K:mw)(a:TH)(D:Ends)(b:St)(c:Value)(d:Option Addr)(f:Hp):Prop
 |mk(C:Addr)(e:c=.ref C)(k:Bw K C=true)(q:a C d D b f)
def bB(K:mw)(sp:Sp)(b:TA)(c:TH):TS:=fun D a H=>b a H fun d e=>sp d e (fun _ f=>D.nx a f) (eO K c D a)
section
variable {Dd:Addr} {y z:Str} {p pos hp yp tp cp zp:Pos} {e0:Expr} {b0:Stmt} {tx:TS} {th:TH} {h1:ExceptHandler} {hs:List ExceptHandler}
theorem UW(M:X.stack=X.env::X.outer)(N:X.env.frame=some X.env.locals)(hex:X.ex=[])(F:AX X.prog X.w X.K X.mg X.base (KJ X.prog X.w) k f fd ps sp)(hr:Av k X.A)(hg:Gl X x)(hm:X.mg x=some (.ref f))(hk:PySem.W.keepIn X.K (.ref f)=true)(hb:Binds X.K fd ps [])(ha:PA X.Zh (e0::es) ta)(hh:PH X (h1::hs) th)(O:(x==("__debug__":Str))=false:=by decide)(he:starEach (e0::es) X.env=(false,eval e0 X.env)::starEach es X.env:=by rfl)(P:(backTo cp (starEach es X.env)).any (·.1)=false:=by rfl)(R:swapsWith (.Call (.Name x p) (e0::es) [] cp) none pos.line X.env=pure false:=by rfl):
  PS X (.Try [.Expr (.Call (.Name x p) (e0::es) [] cp) pos] (h1::hs) [] [] tp) (bB X.K sp ta th):=by
 intro pins s a H D I h;refine wpAny_Try_except ?_;have call:wpAny (model X.prog X.w) X.A (eval (.Call (.Name x p) (e0::es) [] cp) X.env) (fun u S=>∃E,Inv X pins a E S/\D.nx a E) (fun e g=>wpAny (model X.prog X.w) X.A (noteFrame e X.env) (fun _ l=>wpAny (model X.prog X.w) X.A (setFlight e none) (fun _ m=>wpAny (model X.prog X.w) X.A (handleBy e X.env (h1::hs)) (SP X pins D) X.xe m) X.xe l) X.xe g) s:=by
  refine wpAny_Call_Name_kw (DH I hg hm ?_ O);refine PySem.W.callWith_K (h₀:=X.base) I.ok.mod.Wt hk (wpAny_mono (ha cp pins s a H _ (I.FR _) h) (fun G b zq=>zq.elim fun U J L r q=>⟨L.Ck,?_⟩) fun _ _ z=>False.elim z) he P;have c:Inv X pins a J b:=L.CV;have hl:G.length=ps.length:=by rw[<-r.length];exact F.len _ _ _ _ q
  have Y:=hb b G c.Ck (by rw[List.append_nil];exact hl);rw[List.append_nil]at Y;refine wpAny_call (codeAny_mono (F.run X.A X.stack b J ⟨G,[]⟩ G U _ _ hr c.Tj Y r q) fun r S t=>?_);cases r with
  |error e=>
   refine av M N c t fun B C d E h5 oe U T ee q F mk=>?_;subst ee;obtain⟨C',ec,kC,q⟩:=q;cases ec;have n0:X.s₀.heap.get? B=none:=by
    cases z:X.s₀.heap.get? B with
    |none=>rfl
    |some o=>
     obtain⟨o',Z⟩:=c.base.there B o z (by rw[hex];simp);rw[F.Zn]at Z;cases Z
   have np:∀p∈X.pn++pins,p.1≠B:=fun p hp z=>by
    have:=(c.pin p hp).1;rw[z,F.Zn]at this;cases this
   exact hh pins {S with heap:=h5} a E D b.heap B C T d oe U F n0 np mk kC q
  |ok V=>
   cases V with
   |ret u=>
    obtain⟨v,H2,I2,_,q2⟩:=c.after t;exact⟨H2,I2,q2⟩
   |next=>exact False.elim t
   |brk=>exact False.elim t
   |cont=>exact False.elim t
 refine wpAny_execs_cons (Ap (Q:=SP X pins D) (wpAny_Expr_any (Ap call fun v b ⟨J,L,q1⟩=>⟨a,J,L,q1⟩) I.quiet R) fun V b z=>?_);cases V with
 |next=>exact wpAny_execs_nil (wpAny_execs_nil z)
 |brk=>exact z
 |cont=>exact z
 |ret u=>exact z
end
section
end
variable{st:Stmt}
section
theorem Cy.ft{e:FuncData}{N:List Str}(F:Cy K x qual st f e)(S:B' N ps (AO st))(len:∀vs H Q E,sp vs H Q E->vs.length=ps.length)(b:∀(a:Value) (A:Around) (outer:List Env) (s:Shared) (H:Hp) (vs:List V) (Q:VK) (E:XK),Av k (A.deeper (envOfC qual (AO st) s.heap.objs.size f a))->sp vs H Q E->
   ∃t,Hk (Eo (KJ P w) P w K mg base N qual (AO st) f a A outer s H E) (AZ st) t/\t {nx:=fun _ g=>Q .Aj g,rt:=Q} (start N vs) H):AX P w K mg base (KJ P w) (k+1) f e ps sp:=by
 obtain⟨l,m,kV,h,n,o,a,p,i,rfl,lk,c⟩:=F.ex;exact WL lk c S len fun A outer s H vs Q E j d=>b a A outer s H vs Q E j d
end
inductive eP(P:Program)(w:World)(K:mw)(mg:Str->Option Value)(base:Heap)(x:Str)(ps:List Str)(n:Nat)(sp:Sp):Prop
 |mk(f:Addr)(a:FuncData)(k:PySem.W.keepIn K (.ref f)=true)(b:Binds K a ps [])(m:mg x=some (.ref f))(G:AX P w K mg base (KJ P w) n f a ps sp)
structure UX(P:Program)(w:World)(K:mw)(mg:Str->Option Value)(base:Heap)(x:Str)(ps:List Str)(n:Nat)(sp:Sp):Prop where
 ex:eP P w K mg base x ps n sp
theorem UX.mk'{q:Str}{n:Nat}{a:FuncData}(F:Cy K x q st f a)(b:Binds K a ps [])(m:mg x=some (.ref f))(G:AX P w K mg base (KJ P w) n f a ps sp):UX P w K mg base x ps n sp:=⟨⟨f,a,F.kp,b,m,G⟩⟩
inductive fu(P:Program)(w:World)(K:mw)(mg:Str->Option Value)(base:Heap)(f:Addr)(ps:List Str)(sp:Sp):Prop
 |mk(a:FuncData)(G:AX P w K mg base BN 1 f a ps sp)(b:Binds K a ps [])(h:∃c,K.lookup f=some c/\c.cls=.type "function")
def cZ(K:mw)(D:Addr):Bool:=Bw K D&&(PySem.W.findIn K (.ref D) "__getattribute__"==some (some (.builtin "BaseException.__getattribute__"))&&PySem.W.findIn K (.ref D) "__getattr__"==some none)
def eQ(K:mw)(D:Addr):Bool:=cZ K D&&(PySem.W.hasDictIn K D&&(PySem.W.findIn K (.ref D) "__class__"==some (some (.builtin "object.__class__"))&&(PySem.W.specialIn K (.builtin "object.__class__") "__get__"==some (some (.builtin "getset_descriptor.__get__"))&&(PySem.W.takesIn K (.builtin "object.__class__")==some true&&PySem.W.mroIn K D (.type "object")==some true))))
def cb(K:mw)(C:Addr)(f:Str):Bool:=PySem.W.findIn K (.ref C) "__setattr__"==some (some (.builtin "object.__setattr__"))&&((PySem.W.clsIn K C).any (fun a=>Fx a.mro)&&((PySem.W.clsIn K C).any (·.hasDict)&&PySem.W.takerIn K C f==some none))
def cf(K:mw)(C:Addr)(f:Str):Bool:=cZ K C&&(PySem.W.hasDictIn K C&&PySem.W.findIn K (.ref C) f==some none)
theorem Ot.of(h:cZ K D=true):Ot K D:=by
 simp only[cZ,Bool.and_eq_true,beq_iff_eq]at h;exact⟨h.1,h.2.1,h.2.2⟩
theorem Eh.of{K:mw}{D:Addr}(h:eQ K D=true):Eh K D:=by
 simp only[eQ,Bool.and_eq_true,beq_iff_eq]at h;exact⟨.of h.1,h.2.1,h.2.2.1,h.2.2.2.1,h.2.2.2.2.1,h.2.2.2.2.2⟩
theorem Lj.of{f:Str}(h:cb K D f=true):Lj K D f:=by
 simp only[cb,Bool.and_eq_true,beq_iff_eq]at h;exact⟨h.1,h.2.1,h.2.2.1,h.2.2.2⟩
theorem RK.of{K:mw}{D:Addr}{f:Str}(h:cf K D f=true):RK K D f:=by
 simp only[cf,Bool.and_eq_true,beq_iff_eq]at h;exact⟨.of h.1,h.2.1,h.2.2⟩
def eR(K:mw)(c:Nat->Addr)(a:Addr)(b:Nat->Addr):Bool:=
 Bw K a&&((List.range 7).all (fun i=>eQ K (c i)&&(PySem.W.kitOne K (.ref (c i)) (.type "ValueError")==some true&&(Bw K (c i)&&(subIn K (c i) a&&(List.range 7).all (fun j=>PySem.W.kitOne K (.ref (c i)) (.ref (c j))==some (j==i)&&subIn K (c i) (c j)==(j==i))))))&& ((List.range 2).all (fun i=>RC K (c i) HK "ValueError.__new__")&&((List.range 5).all (fun i=>Fz K (c (i+2)) (b (i+2))&&(cb K (c (i+2)) "at"&&cf K (c (i+2)) "at"))&&(cb K (c 6) "other"&&cf K (c 6) "other"))))
structure Kn(K:mw)(c:Nat->Addr)(cB:Addr)(fi:Nat->Addr):Prop where
 EI:Bw K cB=true
 jG:∀i,i<7->Eh K (c i)
 ve:∀i,i<7->PySem.W.kitOne K (.ref (c i)) (.type "ValueError")=some true
 ex:∀i,i<7->Bw K (c i)=true
 sub:∀i,i<7->subIn K (c i) cB=true
 one:∀i,i<7->∀j,j<7->PySem.W.kitOne K (.ref (c i)) (.ref (c j))=some (j==i)
 jH:∀i,i<7->∀j,j<7->subIn K (c i) (c j)=(j==i)
 plain:∀i,i<2->RC K (c i) HK "ValueError.__new__"=true
 own:∀i,i<5->Fz K (c (i+2)) (fi (i+2))=true
 sk:∀i,i<5->Lj K (c (i+2)) "at"
 gk:∀i,i<5->RK K (c (i+2)) "at"
 kq:Lj K (c 6) "other"
 kr:RK K (c 6) "other"
theorem Kn.of{K:mw}{c:Nat->Addr}{f:Addr}{g:Nat->Addr}(h:eR K c f g=true):Kn K c f g:=by
 simp only[eR,Bool.and_eq_true,beq_iff_eq,List.all_eq_true,List.mem_range]at h;obtain⟨k,b,l,d,m,n⟩:=h;exact⟨k,fun i a=>.of (b i a).1,fun i a=>(b i a).2.1,fun i a=>(b i a).2.2.1,fun i a=>(b i a).2.2.2.1,fun i a j e=>((b i a).2.2.2.2 j e).1,fun i a j e=>((b i a).2.2.2.2 j e).2,l,fun i a=>(d i a).1,fun i a=>.of (d i a).2.1,fun i a=>.of (d i a).2.2,.of m,.of n⟩
structure Nm(mg:Str->Option Value)(c:Nat->Addr)(cB:Addr):Prop where
 Xu:mg "NoPart"=some (.ref (c 0))
 Xv:mg "NoDeed"=some (.ref (c 1))
 NQ:mg "NoRow"=some (.ref (c 2))
 bC:mg "NoFit"=some (.ref (c 3))
 UY:mg "NoPatch"=some (.ref (c 4))
 Xw:mg "NoText"=some (.ref (c 5))
 bD:mg "Clash"=some (.ref (c 6))
 Lm:mg "BoughError"=some (.ref cB)
def FD(C:Addr):Sp:=fun c H Q _=>∃(a:Addr)(i:Int),c=[.ref a,.int i]/\H a=some (Fy a C none)/\∀b,H b=none->b≠a->Q .Aj (upd (upd H a (Fy a C (some b))) b (TX b [("at",.int i)]))
def Xx(a:Nat)(one other:Int):List (Str×V):=if a<6 then[("at",.int one)]else[("other",.int other),("at",.int one)]
def bE(a:Nat)(one other:Int)(d:Option Addr)(H:Hp):Prop:=(a<2/\d=none)∨(2<=a/\∃b,d=some b/\H b=some (TX b (Xx a one other)))
theorem Xy{E:XK}{i:Int}(l:[V.int i].length<=sizeLine)(q:∀a,H a=none->E (.ref C) (some a) (upd H a (TX a [("at",.int i)]))):a_ (FD C) E C [.int i] H:=
 ⟨l,fun e f=>⟨e,i,rfl,AG,fun a c n=>by
  rw[AK n]at c;refine⟨some a,upd H a (TX a [("at",.int i)]),rfl,?_,?_,fun b d=>?_,q a c⟩
  ·rw[AK (Ne.symm n),AG]
  ·rw[AK (Ne.symm n)];exact f
  ·by_cases z:b=a
   ·rw[z,AG,AG]
   ·rw[AK z,AK z,AK d,AK d]⟩⟩
noncomputable def BP:V->Bool
 | .str x=>BD x
 | .int i=>decide (0<=i)
 |_=>false
inductive Xz(vs:List V)(H:Hp)(Q:VK):Prop
 |mk(v:V)(T:String)(b:vs=[v])(c:DY H v T)(d:Short v)(e:∀a,AJ H a->Q (.bl (BP v)) a)
def WU:Sp:=fun a H Q _=>Xz a H Q
inductive NR(H:Hp):V->Option (List V)->Prop
 |no {v:V} {T:String} (t:DY H v T) (n:H_ T "tuple"=false):NR H v none
 |tup {a:Addr} {xs:List V} (h:H a=some (.tup xs)) (l:xs.length<=100) (b:∀x∈xs,(∃T,DY H x T)/\Short x):NR H (.ref a) (some xs)
noncomputable def eS:Option (List V)->Bool
 |none=>false
 |some xs=>xs.all BP
inductive X_(vs:List V)(H:Hp)(Q:VK):Prop
 |mk(v:V)(p:Option (List V))(b:vs=[v])(c:NR H v p)(d:∀a,AJ H a->Q (.bl (eS p)) a)
def WV:Sp:=fun a H Q _=>X_ a H Q
variable{p:Option (List V)}{v:V}
theorem NR.up{a:Hp}(h:NR H v p)(s:AJ H a):NR a v p:=by
 cases h with
 |no t n=>exact .no (t.same s) n
 |tup h l b=>exact .tup (s _ _ h) l fun x c=>⟨let⟨T,t⟩:=(b x c).1;⟨T,t.same s⟩,(b x c).2⟩
theorem KO{a:Type}{ps:List a}{f:a->Bool}:∀{vs:List V},vs.length=ps.length->(∀(i:Nat) v,vs[i]?=some v->∃p,ps[i]?=some p/\v=.bl (f p))->vs=(ps.map f).map V.bl:=by
 intro vs l h;refine List.ext_getElem (by simp[l]) fun i b d=>?_;obtain⟨p,e1,e2⟩:=h i _ (mn b);have c:i<ps.length:=Nat.lt_of_lt_of_le b (Nat.le_of_eq l);rw[mn c]at e1;have e1:=mr e1;rw[e2,<-e1];simp
noncomputable def Bg:V->Bool
 | .str _=>true
 | .int i=>decide (i<=20)
 |_=>false
noncomputable def Co:Option (List V)->Bool
 |none=>false
 |some xs=>xs.all BP&&decide (xs.length<=12)&&xs.all Bg
inductive bF(vs:List V)(H:Hp)(Q:VK):Prop
 |mk(v:V)(p:Option (List V))(b:vs=[v])(c:NR H v p)(d:∀a,AJ H a->Q (.bl (Co p)) a)
def X':Sp:=fun a H Q _=>bF a H Q
variable{xs:List V}
theorem DP(h:Co (some xs)=true):∀x∈xs,(∃s,x=.str s/\BD s=true)∨∃i:Int,x=.int i/\0<=i/\i<=20:=fun x b=>by
 simp only[Co,Bool.and_eq_true,List.all_eq_true]at h;have a:=h.1.1 x b;have c:=h.2 x b;cases x with
 |str s=>exact .inl ⟨s,rfl,a⟩
 |int i=>exact .inr ⟨i,rfl,of_decide_eq_true a,of_decide_eq_true c⟩
 |_=>cases a
theorem FE(h:Co (some xs)=true):∀x∈xs,BI x=true:=fun x a=>by
 rcases DP h x a with⟨s,rfl,_⟩|⟨i,rfl,_⟩<;>rfl
def Cf:List Str:=["put","take","move","lacks"]
def Cm(xs:List V):Bool:=match xs.getLast? with|some (.str _)=>true|_=>false
noncomputable def Ey(w:Str):Option (List V)->Bool
 |none=>false
 |some xs=>Co (some xs)&& !(Pz (.str w) (Cf.map V.str)&&xs.isEmpty)&&(!decide (w="lacks")||Cm xs)
inductive YA(vs:List V)(H:Hp)(Q:VK):Prop
 |mk(w:Str)(v:V)(p:Option (List V))(b:vs=[.str w,v])(c:NR H v p)(d:∀a,AJ H a->Q (.bl (Ey w p)) a)
def WW:Sp:=fun a H Q _=>YA a H Q
def BY(xs ys:List V):Bool:=Cm xs&&Gj (ys.take xs.length) xs&&decide (xs.length<ys.length)
inductive UZ(vs:List V)(H:Hp)(Q:VK):Prop
 |mk(a b:Addr)(xs ys:List V)(d:vs=[.ref a,.ref b])(e:H a=some (.tup xs))(f:H b=some (.tup ys))(g:xs≠[])(h:∀z∈xs,BI z=true)(j:∀z∈ys,BI z=true)(k:∀z∈xs,(∃s,z=.str s)∨∃i,z=.int i)(l:xs.length<=100)(m:ys.length<=100)(n:∀c,AJ H c->Q (.bl (BY xs ys)) c)
def RL:Sp:=fun a H Q _=>UZ a H Q
def BQ:List Str:=["put","change","ask"]
def IQ:List Str:=["row","table"]
noncomputable def WX:V->Bool
 | .str s=>Pz (.str s) (IQ.map V.str)
 |_=>false
inductive HP(H:Hp)(xs:List V):Str->V->Bool->Prop
 |val {w:Str} {v:V} {b:Bool} {n k:Nat} (hw:w∈BQ) (t:Tr H b n k v) (a:n<=900):HP H xs w v b
 |kind {v:V} {T:String} (t:DY H v T):HP H xs "is" v (WX v)
 |WY {w:Str} {v:V} {p:Option (List V)} (hw:w="copy"∨w="move") (c:NR H v p):HP H xs w v (Co p&& !decide (p=some [])&&(decide (w="copy")|| !BY xs (p.getD [])))
inductive YB(vs:List V)(H:Hp)(Q:VK):Prop
 |mk(w:Str)(a:Addr)(xs:List V)(v:V)(b:Bool)(d:vs=[.str w,.ref a,v])(e:H a=some (.tup xs))(f:Co (some xs)=true)(g:w="move"->xs≠[])(h:HP H xs w v b)(i:∀c,AJ H c->Q (.bl b) c)
def WZ:Sp:=fun a H Q _=>YB a H Q
inductive fw(H:Hp)(v:V)(xs:List V):Prop
 |mk(a:Addr)(e:v=.ref a)(h:H a=some (.tup xs))(r:Co (some xs)=true)(n:xs≠[])
inductive RM(vs:List V)(H:Hp)(Q:VK):Prop
 |mk(c:Int)(n:Addr)(ys:List Str)(b:vs=[.int c,.ref n])(d:H n=some (.lst (ys.map V.str)))(e:ys.length=6)(f:∀y∈ys,BD y=true)(g:∀(v:V) (xs:List V) (a:Hp),AJ H a->fw a v xs->Q v a)
def FF:Sp:=fun a H Q _=>RM a H Q
inductive Ua(vs:List V)(H:Hp)(Q:VK):Prop
 |mk(c:Int)(n:Addr)(ys:List Str)(b:vs=[.int c,.ref n])(d:H n=some (.lst (ys.map V.str)))(e:ys.length=6)(f:∀y∈ys,BD y=true)(g:∀(v:V) (p:Option (List V)) (a:Hp),AJ H a->NR a v p->Co p=false->Q v a)
def Ln:Sp:=fun a H Q _=>Ua a H Q
inductive Ub(vs:List V)(H:Hp)(Q:VK):Prop
 |mk(c:Int)(n:Addr)(ys:List Str)(b:vs=[.int c,.ref n])(d:H n=some (.lst (ys.map V.str)))(e:ys.length=6)(f:∀y∈ys,BD y=true)(g:∀(v:V) (m k:Nat) (a:Hp),AJ H a->Tr a false m k v->m<=900->Q v a)
def RN:Sp:=fun a H Q _=>Ub a H Q
theorem ER:fillsNumberSlot (.type "tuple") "mul"=pure false:=
 PySem.fillsNumberSlot_seq (id:="tuple.__mul__") (r:=some (.builtin "tuple.__rmul__")) PySem.F.slot_tuple_mul.lookup (by decide+kernel) PySem.F.slot_tuple_rmul.lookup (by decide+kernel)
theorem IS:seqRepeat? (.type "tuple")=pure (some (.builtin "tuple.__mul__")):=by
 unfold seqRepeat?;rw[PySem.seqSlot_of (T:="tuple") (name:="__mul__") (id:="tuple.__mul__") PySem.F.slot_tuple_mul.lookup (by decide+kernel),PySem.seqSlot_of (T:="tuple") (name:="__rmul__") (id:="tuple.__rmul__") PySem.F.slot_tuple_rmul.lookup (by decide+kernel)];rfl
theorem IT(a:Int)(t:Tok)(l:Addr)(items:Array Value)(n:Nat)(dd:Option Addr)(b:Array (Option Value)):
  Meets (Builtin.«int.__rmul__» ⟨[.int a t,.ref l],[]⟩) (fun _ R s=>s.heap.get? l=some {cls:=.type "tuple",dict:=dd,data:=.seq items n,slots:=b}/\R (.ok (.ret Value.notImplemented)) s):=
 .of_wp fun prog w A R s h=>by obtain⟨c,g,d,e,os⟩:=s;obtain⟨f,h⟩:=h;wp_walk;exact⟨_,rfl,h⟩
theorem RO(l:Addr)(items:Array Value)(n:Nat)(dd:Option Addr)(e:Array (Option Value))(k:Int)(t:Tok)(a:¬(decide (k< -(2 ^ 63))||decide (k≥2 ^ 63))=true)(f:¬(items.isEmpty||k==1)=true)(i:¬(decide (k<=0)||items.isEmpty)=true)(b:¬(items.size:Int)*k>(2 ^ 63-1)/8)(j:¬Builtin.Tuple.tupleTooMany (items.size*k)=true)(m:¬((List.replicate k.toNat items).foldl (·++·) #[]).size>sizeLine):
  Meets (Builtin.«tuple.__mul__» ⟨[.ref l,.int k t],[]⟩) (fun _ R s=>s.heap.get? l=some {cls:=.type "tuple",dict:=dd,data:=.seq items n,slots:=e}/\R (.ok (.ret (Value.ref s.heap.objs.size))) {s with heap:=s.heap.push {cls:=Value.type "tuple",data:=Data.seq ((List.replicate k.toNat items).foldl (·++·) #[])}}):=
 .of_wp fun prog w A R s h=>by obtain⟨o,g,d,p,os⟩:=s;obtain⟨c,h⟩:=h;wp_walk using wpAny_loadPart' c;(show wpAny _ _ _ _ _ _);rw[if_neg a];wp_walk using wpAny_loadPart' c;rw[if_neg b];wp_walk;exact⟨_,rfl,h⟩
inductive YC(x y:V)(H:Hp)(Q:VK):Prop
 |mk(l:Addr)(k:Nat)(xs:List V)(a:x=.ref l)(b:y=.int (k:Int))(c:H l=some (.tup xs))(d:xs≠[])(e:2<=k)(f:xs.length*k<=1000)(g:TU H (.tup (List.replicate k xs).flatten) Q)
def bG:R2:=fun x y H Q=>YC x y H Q
theorem NS:Cq X (binaryOp .Mult) bG:=by
 intro pins s L H x y v u Q I w A h;obtain⟨l,k,B,rfl,rfl,C,e,M,g,q⟩:=h;cases w;obtain⟨t,rfl⟩:=A;obtain⟨a,f,D,_⟩:=I.tuple (BA.of C);obtain⟨⟨E,i,data,j⟩,d,m,n,p⟩:=id D;simp only at m p;subst m p;have hlen:=f.length;have r:List.foldl (fun G J=>G++J) #[] (List.replicate k a.toArray)=(List.replicate k a).flatten.toArray:=by
  have:=foldl_rep a k [];rw[List.nil_append]at this;exact this
 have c:a≠[]:=fun z=>e (f.Dm.mp z);have N:((a.length*k:Nat):Int)<=1000:=by rw[<-hlen];exact Int.ofNat_le.mpr g
 have O:(k:Int)<=1000:=by
  have:1<=a.length:=by cases a with
   |nil=>exact absurd rfl c
   |cons _ _=>simp
  have:=Nat.mul_le_mul_right k this;lia
 refine wpAny_binaryOp_repeat_ref (T:="tuple") (U:="int") (by decide) ⟨_,d,rfl⟩ (fun K=>typeIs_int K k t) ER PySem.F.fills_int_mul PySem.F.slot_int_rmul IS PySem.F.slot_int_index.lookup (call_meets PySem.F.slot_int_rmul (typeIs_int s k t) PySem.F.entry_int_rmul (PySem.F.args_int_rmul_2 _ _) (IT k t l a.toArray n i j)
   ⟨d,rfl,⟨_,d,rfl⟩,call_meets PySem.F.slot_tuple_mul ⟨_,d,rfl⟩ PySem.F.entry_tuple_mul (PySem.F.args_tuple_mul_2 _ _) (RO l a.toArray n i j k t ?_ ?_ ?_ ?_ ?_ ?_) ⟨d,?_⟩⟩)
 ·simp only[Bool.or_eq_true,decide_eq_true_eq];lia
 ·have:a.toArray.isEmpty=false:=by simpa using c
  rw[this];simp only[Bool.false_or,beq_iff_eq];lia
 ·have:a.toArray.isEmpty=false:=by simpa using c
  rw[this];simp only[Bool.or_false,decide_eq_true_eq];lia
 ·rw[List.size_toArray];lia
 ·rw[List.size_toArray];simp only[Builtin.Tuple.tupleTooMany,decide_eq_true_eq];have:(1000:Int)<=(sizeLine:Int):=by decide
  lia
 ·rw[Int.toNat_natCast,r,List.size_toArray,len_rep];have:1000<=sizeLine:=by decide
  rw[Nat.mul_comm];lia
 ·rw[Int.toNat_natCast,r];refine⟨.ref s.heap.objs.size,_,I.laid (t':=s.toks) (o:=.tup (List.replicate k B).flatten) (fun b P q=>Heap.get?_push_of_some _ q) (Nat.le_refl _) ?_,rfl,q _ (I.As.fresh (Nat.le_refl _))⟩;exact⟨by rw[len_rep,Nat.mul_comm];exact Nat.le_trans g (by decide),_,f.rep k,IsTup.new _ _⟩
inductive bH(K:mw)(x y:V)(H:Hp)(Q:VK):Prop
 |mk(a b:Addr)(xs:List V)(c:x=.ref a)(d:y=.ref b)(e:BA K H a xs)(f:BA K H b [])(g:Q (.bl xs.isEmpty) H)
theorem Uc(g:X.A.units<cLine):Cq X (compareOp .Eq) (bH X.K):=by
 intro pins s w H x y v u Q I i k h;obtain⟨a,b,d,rfl,rfl,l,m,q⟩:=h;cases i;cases k;obtain⟨c,n,o,_⟩:=I.tuple l;obtain⟨f,p,r,_⟩:=I.tuple m;cases p;have l1:=n.length;refine SeqAt.eq_tupleAt (e:=fun _=>true) o r g (fun j z t=>absurd t (by simp)) ?_;have e:(((List.range (min c.toArray.size (#[]:Array Value).size)).all fun _=>true)&&c.toArray.size==(#[]:Array Value).size)=d.isEmpty:=by
  rw[List.size_toArray,<-l1];cases d<;>simp
 rw[e];exact⟨.bl d.isEmpty,H,I,rfl,q⟩
structure O_(P:Program)(w:World)(K:mw)(a:Addr)(kvs:List (Key×V)):Prop where
 ne:(a==sysModules)=false
 on:∀h:Heap,K.In h->∃vs,KV kvs vs/\h.DictOf (Ad P w) a vs
inductive fy(a:Addr)(kvs:List (Key×V))(f:Option V->Option V)(x y:V)(H:Hp)(Q:VK):Prop
 |mk(k:Key)(v:V)(e:x=.ref a)(b:y=kV k)(g:f (Be kvs k)=some v)(q:Q v H)
def bI(a:Addr)(kvs:List (Key×V))(ty c:TE):TE:=fun b H Q=>ty b H fun y d=>c b d fun x e=>fy a kvs (fun o=>some (.bl o.isSome)) x y e Q
def YD(a:Addr)(kvs:List (Key×V))(c ty:TE):TE:=fun b H Q=>c b H fun x d=>ty b d fun y e=>fy a kvs id x y e Q
variable{kvs:List (Key×V)}
section
variable {i:Expr} {pos:Pos} {td ty:TE} 
theorem Ud(D:O_ X.prog X.w X.K a kvs)(e:PE X i ty)(f:PE X o td):PC X .In i o (bI a kvs ty td):=by
 intro pins s c H Q I h;refine Ap (e pins s c H _ I h) fun E j l=>l.elim fun y m n p q=>Ap (f pins j c m _ n q) fun u F ⟨x,r,d,t,k,v,z,A,g,B⟩=>?_;subst z A;obtain rfl:u=Value.ref a:=t;obtain⟨G,b,C⟩:=D.on _ d.Ck;refine wpAny_in_of (Fc p) D.ne C.mapOf ?_;rw[<-(b.val k).DL];cases g;exact⟨.bl (Be kvs k).isSome,r,d.tok _,rfl,B⟩
theorem RP(D:O_ X.prog X.w X.K a kvs)(j:PE X o td)(l:PE X i ty)(m:Tu i):PE X (.Subscript o i pos) (YD a kvs td ty):=by
 intro pins s d H Q I h;refine Mz PySem.F.slot_dict_getitem.lookup m (Ap (j pins s d H _ I h) fun u n p=>p.elim fun x q r t z=>Ap (l pins n d q _ r z) fun L M ⟨y,A,e,B,k,v,C,E,g,G⟩=>?_);subst C E;obtain rfl:u=Value.ref a:=t;obtain⟨J,b,f⟩:=D.on _ e.Ck;obtain⟨N,hw,c⟩:=CT.some_of (v:=v) (o:=valueAt J k) (by rw[<-g];exact b.val k);exact⟨f.typeIs,wpAny_getItem_of (Fc B) f.mapOf hw ⟨v,A,e.tok _,c,G⟩⟩
end
def Lo:List (Key×V):=[(.inr "put",.int 3),(.inr "take",.int 2),(.inr "change",.int 3),(.inr "move",.int 3),(.inr "copy",.int 3),(.inr "ask",.int 3),(.inr "has",.int 2),(.inr "lacks",.int 2),(.inr "is",.int 3)]
theorem RQ{k:Key}(h:Be Lo k=some v):∃i,v=.int i:=by
 obtain⟨b,a,rfl⟩:=Option.map_eq_some_iff.mp h;have:=List.mem_of_find?_eq_some a;simp only[Lo,List.mem_cons,List.not_mem_nil,or_false]at this;rcases this with rfl|rfl|rfl|rfl|rfl|rfl|rfl|rfl|rfl<;>exact⟨_,rfl⟩
noncomputable def Br:Option (List V)->Bool
 |some (.str w::r)=>match Be Lo (.inr w)with|some (.int k)=>decide (((r.length+1:Nat):Int)=k)|_=>false
 |_=>false
inductive P_(H:Hp):V->Option (List V)->Prop
 |no {v:V} {T:String} (t:DY H v T) (n:H_ T "tuple"=false):P_ H v none
 |tup {a:Addr} {xs:List V} (h:H a=some (.tup xs)) (l:xs.length<=100) (b:∀x,xs.head?=some x->∃T,DY H x T):P_ H (.ref a) (some xs)
inductive Ue(vs:List V)(H:Hp)(Q:VK):Prop
 |mk(v:V)(p:Option (List V))(b:vs=[v])(c:P_ H v p)(d:∀a,AJ H a->Q (.bl (Br p)) a)
def RS:Sp:=fun a H Q _=>Ue a H Q
theorem YE{w:Str}(h:Ey w (some xs)=true):Co (some xs)=true:=by
 simp only[Ey,Bool.and_eq_true]at h;exact h.1.1
theorem YF(h:Ey "move" (some xs)=true):xs≠[]:=fun z=>by
 subst z;simp only[Ey,Bool.and_eq_true]at h;have:Pz (.str "move") (Cf.map V.str)=true:=by decide+kernel
 rw[this]at h;cases h.1.2
theorem HP.up{H a:Hp}{xs:List V}{w:Str}{v:V}{b:Bool}(h:HP H xs w v b)(s:AJ H a):HP a xs w v b:=by
 cases h with
 |val hw t c=>exact .val hw (t.up s) c
 |kind t=>exact .kind (t.same s)
 |WY hw d=>exact .WY hw (d.up s)
inductive DQ(H:Hp):V->Option Int->Prop
 |IU {v:V} {p:Option (List V)} (h:P_ H v p) (n:Br p=false):DQ H v (some 0)
 |first{a:Addr} {w:Str} {y:V} {r:List V} {p:Option (List V)} (h:H a=some (.tup (.str w::y::r))) (l:r.length<=1) (f:Br (some (.str w::y::r))=true) (d:NR H y p) (m:Ey w p=false):DQ H (.ref a) (some 1)
 |two {a:Addr} {w:Str} {y:V} {p:Option (List V)} (h:H a=some (.tup [.str w,y])) (f:Br (some [.str w,y])=true) (d:NR H y p) (m:Ey w p=true):DQ H (.ref a) none
 |three {a b:Addr} {w:Str} {xs:List V} {z:V} {c:Bool} (h:H a=some (.tup [.str w,.ref b,z])) (f:Br (some [.str w,.ref b,z])=true) (e:H b=some (.tup xs)) (d:NR H (.ref b) (some xs)) (m:Ey w (some xs)=true) (t:HP H xs w z c):DQ H (.ref a) (if c then none else some 2)
inductive O'(c:Nat->Addr)(vs:List V)(H:Hp)(Q:VK)(E:XK):Prop
 |mk(v:V)(a:Option Int)(e:vs=[v])(f:DQ H v a)(g:a=none->∀b,AJ H b->Q .Aj b)(h:∀i,a=some i->∀d b,AJ H b->bE 2 i 0 d b->E (.ref (c 2)) d b)
def F_(c:Nat->Addr):Sp:=fun a H Q E=>O' c a H Q E
theorem Ug{b:Array DictEntry}{ep:Nat}{vs:List (Key×Value)}(l:K.lookup a=some ob)(ne:(a==sysModules)=false)(ex:ob.ExactDict)(d:ob.data=.dict b ep)(k:KeysOf (Ad P w) b)(p:Pairs (Ad P w) b.toList vs)(c:(vs.map (·.1)).Nodup)(e:KV kvs vs):O_ P w K a kvs:=⟨ne,fun _ X=>⟨vs,e,ob,b,ep,X _ _ l,ex,d,k,p,c⟩⟩
def IV(P:Program)(w:World)(xs:List (Str×Int×Tok×Tok)):List DictEntry:=xs.map fun x=>⟨(Ad P w).hash (.inr x.1),.str x.1 x.2.2.1,.int x.2.1 x.2.2.2⟩
theorem PB{ep:Nat}(xs:List (Str×Int×Tok×Tok))(l:K.lookup a=some ob)(ne:(a==sysModules)=false)(ex:ob.ExactDict)(d:ob.data=.dict (IV P w xs).toArray ep)(b:(xs.map (·.1)).Nodup):O_ P w K a (xs.map fun x=>((.inr x.1:Key),V.int x.2.1)):=by
 refine Ug (vs:=xs.map fun x=>((.inr x.1:Key),Value.int x.2.1 x.2.2.2)) l ne ex d (fun e f=>?_) ?_ ?_ ?_
 ·obtain⟨x,g,rfl⟩:=List.mem_map.mp (show e∈IV P w xs by simpa using f);exact⟨.inr x.1,by show decide _=true;simp,rfl⟩
 ·show Pairs _ (IV P w xs) _;clear d b
  induction xs with
  |nil=>exact .nil
  |cons x r c=>exact .cons (by show decide _=true;simp) rfl c
 ·rw[List.map_map];have:(xs.map ((fun y:Key×Value=>y.1)∘fun x=>((.inr x.1:Key),Value.int x.2.1 x.2.2.2)))=(xs.map (·.1)).map Sum.inr:=by rw[List.map_map];rfl
  rw[this];exact List.pairwise_map.mpr (List.Pairwise.imp (fun h e=>h (Sum.inr.inj e)) b)
 ·clear d b
  induction xs with
  |nil=>exact .nil
  |cons x r c=>exact .cons ⟨rfl,⟨_,rfl⟩⟩ c
inductive RT(vs:List V)(H:Hp)(Q:VK):Prop
 |mk(w:Str)(c:Int)(n:Addr)(ys:List Str)(b:vs=[.str w,.int c,.ref n])(hw:w∈BQ∨w="is"∨w="copy"∨w="move")(d:H n=some (.lst (ys.map V.str)))(e:ys.length=6)(f:∀y∈ys,BD y=true)(g:∀(v:V) (a:Hp),AJ H a->(∀xs,HP a xs w v false)->Q v a)
def NT:Sp:=fun a H Q _=>RT a H Q
variable{prog:Program}
section
end
section
variable {xs ys:Array Value}
end
section
variable {xs ys:Array Value}
end
section
end
section
end
open PySem.AutoSeq1 (wpAny_loadPart')
open PySem.MeetsSeq3
variable{b:Addr}
section
def Wa(prog:Program)(w:World)(A:Around)(s:Shared)(u v:Value):Prop:=∀(E:Value->Shared->Prop)(Q:Bool->Shared->Prop),Q true s->wpAny (model prog w) A (eqBool u v) Q E s
def fz(prog:Program)(w:World)(A:Around)(s:Shared)(u v:Value):Prop:=∀(E:Value->Shared->Prop)(Q:Value->Shared->Prop),Q (.bool true) s->wpAny (model prog w) A (richCompare .Eq u v) Q E s
theorem Wa.of(h:SeqAt.EqAt A s u c true):Wa prog w A s u c:=fun E Q a=>h prog w E Q a
theorem Wa.refs(h:l≠b->fz prog w A s (.ref l) (.ref b)):Wa prog w A s (.ref l) (.ref b):=fun E Q c=>by
 by_cases e:l=b
 ·subst e;exact SeqAt.EqAt.same _ prog w E Q c
 ·unfold eqBool;refine wpAny_holding ?_;refine wpAny_ite_split (fun a=>absurd (by have:=eq_of_beq a;injection this) e) (fun _=>?_);exact wpAny_bind (h e E _ (wpAny_truthy_bool c))
theorem Ei{a:Type}[DecidableEq a]:∀{l:List (a×Value)}{j:Nat}{q:a}{t:Value},(l.map (·.1)).Nodup->l[j]?=some (q,t)->valueAt l q=some t
 |[],j,q,t=>fun _ h=>by simp at h
 |p::r,0,q,t=>fun _ h=>by
  simp at h;subst h;simp[valueAt]
 |p::r,j+1,q,t=>fun c h=>by
  rw[List.map_cons]at c;obtain⟨g,i⟩:=List.nodup_cons.mp c;have d:r[j]?=some (q,t):=by simpa using h
  have ne:¬p.1=q:=fun e=>g (by rw[e];exact List.mem_map.mpr ⟨_,mu d,rfl⟩);have f:=Ei i d;unfold valueAt at f⊢;rw[List.find?_cons_of_neg (by simpa using ne)];exact f
theorem RU{P:Type}[DecidableEq P]{knd:PySem.KeyKind prog w P}{y m:List (P×Value)}(ha:(a==sysModules)=false)(hb:(b==sysModules)=false)(O:s.heap.DictOf knd a y)(R:s.heap.DictOf knd b m)(hk:y.map (·.1)=m.map (·.1))(hu:A.units<cLine)(he:∀(j:Nat) k u v,y[j]?=some (k,u)->m[j]?=some (k,v)->Wa prog w A.in1 s u v):fz prog w A s (.ref a) (.ref b):=fun E Q h=>by
 have ll:y.length=m.length:=by have:=congrArg List.length hk;simpa using this
 refine wpAny_richCompare_same_room (op:=.Eq) O.typeIs R.typeIs PySem.F.slot_dict_eq (wpAny_call_entry PySem.F.slot_dict_eq O.typeIs PySem.F.entry_dict_eq ?_ (PySem.F.args_dict_eq_2 _ _)) hu;show wpAny _ _ (Builtin.Dict.dictSlotArgs "__eq__" ⟨[.ref a,.ref b],[]⟩>>=_) _ _ s;refine wpAny_bind ?_;unfold Builtin.Dict.dictSlotArgs;refine wpAny_bind (wpAny_notOrdered_dict O.typeIs ?_);show wpAny _ _ (pure (Value.ref a,Value.ref b)) _ _ s;refine wpAny_pure ?_;refine wpAny_bind (wpAny_isInstance (T:="dict") R.typeIs PySem.F.sub_dict_dict ?_);simp only[Bool.not_true,Bool.false_eq_true,if_false];refine wpAny_bind (wpAny_pure (wpAny_bind (wpAny_pure ?_)));obtain⟨oa,d,ep,n,_,o,S,H,kv⟩:=O;obtain⟨ob,f,kx,p,_,r,I,D,U⟩:=R;have J:y.length=d.size:=by rw[<-H.length];exact Array.length_toList
 have K:m.length=f.size:=by rw[<-D.length];exact Array.length_toList
 refine wpAny_bind ?_;unfold Builtin.Dict.samePairs Builtin.Dict.showsAll;rw[if_neg (show¬(a==sysModules)=true by rw[ha];exact Bool.false_ne_true),if_neg (show¬(b==sysModules)=true by rw[hb];exact Bool.false_ne_true)];refine wpAny_bind (wpAny_pure (wpAny_bind (wpAny_pure ?_)));refine wpAny_bind (wpAny_dictEntries n o ?_);dsimp only;refine wpAny_bind (wpAny_dictEntries p r ?_);rw[if_neg (by rw[<-J,<-K,ll];simp)];refine wpAny_bind (wpAny_dictEpoch n o ?_);refine wpAny_bind ?_;rw[Std.Legacy.Range.forIn_eq_forIn_range'];simp only[Std.Legacy.Range.size,Nat.sub_zero,Nat.add_sub_cancel,Nat.div_one];have fin:∃v,Fin.done (Flow.ret (Value.bool (true==true)))=.done (.ret v)/\v≠.notImplemented/\Q v s:=⟨_,rfl,(fun x=>nomatch x),h⟩;refine wpAny_forIn_list _ (fun rest q V=>V=s/\q=(none,())/\∃i,rest=List.range' i (d.size-i)/\i<=d.size) _ ?_ ?_ _ _ ⟨rfl,rfl,0,by simp,Nat.zero_le _⟩
 ·rintro x rest q V ⟨rfl,rfl,i,L,hi⟩;have g:i<d.size:=by
   rcases Nat.lt_or_ge i d.size with h|h
   ·exact h
   ·rw[Nat.sub_eq_zero_of_le h]at L;simp at L
  obtain⟨rfl,G⟩:x=i/\rest=List.range' (i+1) (d.size-(i+1)):=by
   have e:d.size-i=(d.size-(i+1))+1:=by lia
   rw[e,List.range'_succ]at L;injection L with h1 h2;exact⟨h1,h2⟩
  have z:x<y.length:=by rw[J];exact g
  have M:x<m.length:=Nat.lt_of_lt_of_le z (Nat.le_of_eq ll);obtain⟨k,u,X⟩:∃k u,y[x]=(k,u):=⟨_,_,rfl⟩;obtain⟨t,v,Y⟩:∃k v,m[x]=(k,v):=⟨_,_,rfl⟩;have Z:y[x]?=some (k,u):=by rw[mn z,X]
  have W:m[x]?=some (t,v):=by rw[mn M,Y]
  have ek:t=k:=by
   have:=congrArg (fun l=>l[x]?) hk;simp only[List.getElem?_map,Z,W]at this;simpa using this.symm
  subst ek;have hv:=Ei U W;refine wpAny_bind (wpAny_dictEntries n o ?_);rw[Array.getElem?_eq_getElem g];obtain⟨B,N⟩:=H.get? (i:=x) (e:=d[x]) (k:=t) (v:=u) (by rw[Array.getElem?_toList];exact Array.getElem?_eq_getElem g) Z;obtain⟨k2,jI,hh⟩:=S d[x] (Array.getElem_mem g);have jJ:k2=t:=knd.inj _ _ _ jI B;rw[jJ]at hh;show wpAny _ _ (holding [d[x].key,d[x].val] _>>=_) _ _ _;rw[hh];refine wpAny_bind (wpAny_holding (wpAny_bind (wpAny_dictFind_of B p r I ?_)));have c:findBy knd.is f t=valueAt m t:=by
   rw[<-D.find t];clear K D I r p;obtain⟨l⟩:=f;simp[findBy]
  cases hj:f.findIdx? fun e=>knd.is t e.key with
  |none=>
   rw[findBy_of_findIdx?,hj,hv]at c;exact nomatch c
  |some j=>
   obtain⟨C,_,_⟩:=Array.findIdx?_eq_some_iff_getElem.mp hj;have jK:f[j].val=v:=by
    rw[findBy_of_findIdx?,hj,hv]at c;simpa[Array.getElem?_eq_getElem C]using c
   refine wpAny_bind (wpAny_dictEntries p r ?_);rw[Array.getElem?_eq_getElem C];refine wpAny_holding ?_;rw[jK,N];refine he x t u v Z W _ _ ?_;show wpAny _ _ (if(!true)=true then _ else _) _ _ _;rw[if_neg (by decide)];refine wpAny_bind (wpAny_dictEpoch n o ?_);rw[if_neg (by simp)];exact wpAny_pure ⟨rfl,rfl,x+1,G,g⟩
 ·rintro q V ⟨rfl,rfl,i,L,hi⟩;exact wpAny_pure (wpAny_pure fin)
end
open PySem.AutoSeq1 (wpAny_loadPart')
open PySem.MeetsSeq3
inductive TK where
 |s (x:Str)
 |o
 |e
inductive Dy(H:Hp):V->TK->Prop
 |str {x:Str} (l:Fp x=true):Dy H (.str x) (.s x)
 |one {a:Addr} (h:H a=some (.lst [.int 1])):Dy H (.ref a) .o
 |emp {a:Addr} (h:H a=some (.dK [])):Dy H (.ref a) .e
theorem Dy.up{a:Hp}{k:TK}(h:Dy H v k)(s:AJ H a):Dy a v k:=by
 cases h with
 |str l=>exact .str l
 |one h=>exact .one (s _ _ h)
 |emp h=>exact .emp (s _ _ h)
theorem Dy.tr{k:TK}(h:Dy H v k):∃n,n<=900/\Tr H true n 2 v:=by
 cases h with
 |str l=>exact⟨_,by decide,Tr.node (.leaf (.inr ⟨_,rfl,l⟩)) (.nil (k:=1))⟩
 |one h=>exact⟨_,by decide,Tr.node (.row (.inl h)) (B_.cons (Tr.node (k:=0) (.leaf (.inl ⟨1,rfl,by decide⟩)) .nil) .nil)⟩
 |emp h=>exact⟨_,by decide,Tr.node (.tab (kvs:=[]) (ks:=[]) (.inl h) rfl .nil (fun _ z=>nomatch z) (by decide)) (.nil (k:=1))⟩
def eT(H:Hp)(v:V):Prop:=∀a,v=.ref a->H a=none
inductive FG(vs:List V)(H:Hp)(Q:VK):Prop
 |int (c:vs=[.int 1]) (q:Q (.int 1) H):FG vs H Q
 |f_ (v:V) (k:TK) (c:vs=[v]) (h:Dy H v k) (q:∀(a:V)(b:Hp),AJ H b->eT H a->Dy b a k->Q a b):FG vs H Q
def RV:Sp:=fun a H Q _=>FG a H Q
inductive RW(vs:List V)(H:Hp)(Q:VK):Prop
 |mk(v:V)(k:TK)(c:vs=[v])(h:Dy H v k)(q:∀(b:V) (a:Hp),AJ H a->Dy a b k->Q b a)
def Cg:Sp:=fun a H Q _=>RW a H Q
def eU:List Str:=["put","take","change","move","copy","ask","has","lacks","is"]
def HQ(j:Nat):Str:=eU.getD j ""
def NU(j:Nat):Nat:=[2,0,2,1,1,2,0,0,1].getD j 0
def bJ(j:Nat):Str:=["Put","Take","Change","Move","Copy","Ask","Has","Lacks","Is"].getD j ""
def Uh(j:Nat):Str:=if j=8 then "kind"else "to"
def cg(a:Addr)(H c:Hp):Prop:=∀b o,b≠a->H b=some o->c b=some o
section
variable(C:Addr) (w f:Str) (vs:List V) (H:Hp) (Q:VK)
inductive RX:Prop
 |mk(a c:Addr)(y:V)(d:vs=[.ref a,y])(h:H a=some (.ins C c []))(q:∀b (fs:List (Str×V)),cg a H b->b a=some (.ins C c fs)->fs.lookup ("path":Str)=some y->fs.lookup ("told":Str)=none->Q .Aj b):RX
inductive RY:Prop
 |mk(a c:Addr)(y z:V)(d:vs=[.ref a,y,z])(h:H a=some (.ins C c []))(q:∀b (fs:List (Str×V)),cg a H b->b a=some (.ins C c fs)->fs.lookup ("path":Str)=some y->fs.lookup f=some z->fs.lookup ("told":Str)=none->Q .Aj b):RY
inductive RZ:Prop
 |mk(a c:Addr)(y z:V)(k:TK)(e:vs=[.ref a,y,z])(h:H a=some (.ins C c []))(t:Dy H z k)(q:∀b (fs:List (Str×V)) d,cg a H b->b a=some (.ins C c fs)->fs.lookup ("path":Str)=some y->fs.lookup ("value":Str)=some d->Dy b d k->fs.lookup ("told":Str)=none->Q .Aj b):RZ
inductive Ra:Prop
 |mk(a d:Addr)(fs:List (Str×V))(y:V)(e:vs=[.ref a])(h:H a=some (.ins C d fs))(p:fs.lookup ("path":Str)=some y)(q:∀b c,AJ H c->c b=some (.tup [.str w,y])->Q (.ref b) c):Ra
inductive Rb:Prop
 |mk(a d:Addr)(fs:List (Str×V))(y z:V)(e:vs=[.ref a])(h:H a=some (.ins C d fs))(p:fs.lookup ("path":Str)=some y)(t:fs.lookup f=some z)(q:∀b c,AJ H c->c b=some (.tup [.str w,y,z])->Q (.ref b) c):Rb
inductive Rc:Prop
 |mk(a e:Addr)(fs:List (Str×V))(y z:V)(k:TK)(g:vs=[.ref a])(h:H a=some (.ins C e fs))(p:fs.lookup ("path":Str)=some y)(t:fs.lookup ("value":Str)=some z)(i:Dy H z k)(q:∀b d c,AJ H c->Dy c d k->c b=some (.tup [.str w,y,d])->Q (.ref b) c):Rc
end
def F'(C:Addr):Sp:=fun a H Q _=>RX C a H Q
def GI(C:Addr)(f:Str):Sp:=fun a H Q _=>RY C f a H Q
def GJ(C:Addr):Sp:=fun a H Q _=>RZ C a H Q
def NV(C:Addr)(w:Str):Sp:=fun a H Q _=>Ra C w a H Q
def NW(C:Addr)(w f:Str):Sp:=fun a H Q _=>Rb C w f a H Q
def NX(C:Addr)(w:Str):Sp:=fun a H Q _=>Rc C w a H Q
def PD(cl:Nat->Addr)(j:Nat):Sp:=match NU j with|0=>NV (cl j) (HQ j)|1=>NW (cl j) (HQ j) (Uh j)|_=>NX (cl j) (HQ j)
def Ui(cl:Nat->Addr)(j:Nat):Sp:=match NU j with|0=>F' (cl j)|1=>GI (cl j) (Uh j)|_=>GJ (cl j)
def f'(j:Nat):List Str:=match NU j with|0=>["self","path"]|1=>["self","path",Uh j]|_=>["self","path","value"]
inductive eV(P:Program)(w:World)(K:mw)(mg:Str->Option Value)(base:Heap)(k:Nat)(C:Addr)(m:Str)(sp:Sp):Prop
 |mk(f:Addr)(a:FuncData)(c:EA K C)(b:Meth K C m f)(F:AX P w K mg base BN k f a ["self"] sp)(d:Binds K a ["self"] [])
inductive Rf(P:Program)(w:World)(K:mw)(mg:Str->Option Value)(base:Heap)(k:Nat)(x:Str)(C:Addr)(ps:List Str)(sp:Sp):Prop
 |mk(f:Addr)(a:FuncData)(M:Mk K C f)(F:AX P w K mg base BN k f a ps sp)(b:Binds K a ps [])(m:mg x=some (.ref C))
inductive Wb(cl:Nat->Addr)(n:Nat)(m:Str)(sp:Nat->Sp)(x:V)(H:Hp)(Q:VK):Prop
 |mk(j:Nat)(a b:Addr)(fs:List (Str×V))(c:j<n)(e:x=.ref a)(h:H a=some (.ins (cl j) b fs))(l:fs.lookup m=none)(q:sp j [x] H Q E0)
def YG(cl:Nat->Addr)(n:Nat)(m:Str)(sp:Nat->Sp)(a:TE):TE:=fun b H Q=>a b H fun x c=>Wb cl n m sp x c Q
variable{cl:Nat->Addr}
theorem Rg{n:Nat}{m:Str}{sp:Nat->Sp}{d:TE}{pos apos:Pos}{pl:Sem Bool}(i:PE X o d)(D:∀j,j<n->eV X.prog X.w X.K X.mg X.base k (cl j) m (sp j))(p:Av k X.A)(r:eval (.Call (.Attribute o m apos) [] [] pos) X.env=(do
   let e<-eval o X.env
   standAt apos.atName
   let(f,first)<-holding [e] (getMethod e m pl)
   callWith pos f first (backTo pos (starEach [] X.env)) (backToKw pos (keywordEach [] X.env))):=by rfl):
  PE X (.Call (.Attribute o m apos) [] [] pos) (YG cl n m sp d):=by
 intro pins s t H Q I h;refine PySem.W.methodCall_KW (pl:=pl) (Ap (i pins s t H _ I h) fun u E ⟨x,G,b,v,j,a,J,fs,y,z,B,l,q⟩=>?_) r;subst z;obtain rfl:u=Value.ref a:=v;obtain⟨f,L,c,g,F,C⟩:=D j y;refine LA b B c g l ?_;exact PySem.W.callWith_K0 (first:=[.ref a]) b.Ck g.kp (QK (us:=[.ref a]) (vs:=[.ref a]) F p C .nil Cw b (.cons rfl .nil) q)
def Rh(K:mw)(C b a:Addr):Bool:=
 PySem.W.makesIn K C&&(PySem.W.findIn K (.ref C) "__init__"==some (some (.ref b))&&(PySem.W.isFn K (.ref b)&&(PySem.W.keepIn K (.ref C)&&(PySem.W.findIn K (.ref C) "told"==some (some (.ref a))&&(PySem.W.isFn K (.ref a)&&(PySem.W.keepIn K (.ref a)&&
 (PySem.W.plainGet K C Str.empty&&(PySem.W.hasDictIn K C&&(PySem.W.plainOver K C&&(PySem.W.findIn K (.ref C) "__setattr__"==some (some (.builtin "object.__setattr__"))&&(PySem.W.findIn K (.ref C) "path"==some none&&(PySem.W.findIn K (.ref C) "value"==some none&&
 (PySem.W.findIn K (.ref C) "to"==some none&&PySem.W.findIn K (.ref C) "kind"==some none)))))))))))))
structure Dk(K:mw)(C fI fT:Addr):Prop where
 M:Mk K C fI
 hm:Meth K C "told" fT
 c:EA K C
 n1:AW K C "path"
 n2:AW K C "value"
 n3:AW K C "to"
 n4:AW K C "kind"
theorem Dk.of{g i:Addr}(h:Rh K C g i=true):Dk K C g i:=by
 simp only[Rh,Bool.and_eq_true,beq_iff_eq]at h;obtain⟨j,k,l,m,n,o,p,q,r,a,b,c,d,e,f⟩:=h;exact⟨⟨j,k,l,m⟩,⟨n,o,p⟩,⟨q,r,a,b⟩,c,d,e,f⟩
inductive ES(H:Hp)(a:Addr)(j:Nat)(y:V):List V->Prop
 |one (t:NU j=0) (h:H a=some (.tup [.str (HQ j),y])):ES H a j y []
 |two {z:V} (t:NU j=1) (h:H a=some (.tup [.str (HQ j),y,z])):ES H a j y [z]
 |val {z:V} {k:TK} (t:NU j=2) (h:H a=some (.tup [.str (HQ j),y,z])) (b:Dy H z k):ES H a j y [z]
inductive HR(cl:Nat->Addr)(H:Hp)(v:V)(j:Nat)(y:V):List V->Prop
 |one {a b:Addr} {fs:List (Str×V)} (e:v=.ref a) (h:H a=some (.ins (cl j) b fs)) (n:fs.lookup ("told":Str)=none) (p:fs.lookup ("path":Str)=some y) (t:NU j=0):HR cl H v j y []
 |two {a b:Addr} {fs:List (Str×V)} {z:V} (e:v=.ref a) (h:H a=some (.ins (cl j) b fs)) (n:fs.lookup ("told":Str)=none) (p:fs.lookup ("path":Str)=some y) (t:NU j=1) (f:fs.lookup (Uh j)=some z):HR cl H v j y [z]
 |val {a b:Addr} {fs:List (Str×V)} {z c:V} {k:TK} (e:v=.ref a) (h:H a=some (.ins (cl j) b fs)) (n:fs.lookup ("told":Str)=none) (p:fs.lookup ("path":Str)=some y) (t:NU j=2) (f:fs.lookup ("value":Str)=some c) (d:Dy H z k) (g:Dy H c k):HR cl H v j y [z]
inductive FH(c cl:Nat->Addr)(vs:List V)(H:Hp)(Q:VK)(E:XK):Prop
 |bad (v:V) (i:Int) (e:vs=[v]) (f:DQ H v (some i)) (h:∀d b,AJ H b->bE 2 i 0 d b->E (.ref (c 2)) d b):FH c cl vs H Q E
 |good (a:Addr) (j:Nat) (y:V) (r:List V) (e:vs=[.ref a]) (f:DQ H (.ref a) none) (k:j<9) (g:ES H a j y r) (q:∀v b,AJ H b->HR cl b v j y r->Q v b):FH c cl vs H Q E
def IW(c cl:Nat->Addr):Sp:=fun a H Q E=>FH c cl a H Q E
section
theorem eW{l:Addr}{items a:Array Value}(G:s.heap.IsTuple l items)(H:s.heap.IsTuple b a)(hsz:items.size=a.size)(I:A.units<cLine)(J:∀j (r:j<items.size) (z:j<a.size),Wa prog w A.in1 s items[j] a[j]){Q:Value->Shared->Prop}(h:Q (.bool false) s):wpAny (model prog w) A (richCompare .NotEq (.ref l) (.ref b)) Q E s:=by
 obtain⟨⟨K,S,data,T⟩,t,B,n,C⟩:=id G;obtain⟨⟨D,L,data2,M⟩,k,m,U,o⟩:=id H;simp only at B C m o;subst B C m o;refine wpAny_richCompare_same_room (op:=.NotEq) ⟨_,t,rfl⟩ ⟨_,k,rfl⟩ F.slot_tuple_ne (wpAny_call_entry F.slot_tuple_ne ⟨_,t,rfl⟩ F.entry_tuple_ne ?_ (F.args_tuple_ne_2 _ _)) I;obtain⟨N,g,d,O,os⟩:=s;have V:=AutoSeq1.sub_tuple_tuple;wp_walk using wpAny_loadPart' t,wpAny_loadPart' k,wpAny_forIn_list _ (fun rest b u=>b.1=none/\u=⟨N,g,d,O,os⟩/\∃i,rest=(items.toList.zip a.toList).drop i) _
 case turn=>
  rintro⟨y,x⟩ rest b u ⟨c,rfl,i,p⟩;have e:i<(items.toList.zip a.toList).length:=by
   rcases Nat.lt_or_ge i (items.toList.zip a.toList).length with v|v
   ·exact v
   ·rw[List.drop_of_length_le v]at p;cases p
  have r:i<items.size:=by simp at e;exact Nat.lt_of_lt_of_le e (Nat.min_le_left _ _)
  have z:i<a.size:=Nat.lt_of_lt_of_le r (Nat.le_of_eq hsz);rw[List.drop_eq_getElem_cons e]at p;injection p with q f;have P:y=items[i]:=by have:=congrArg Prod.fst q;simpa using this
  have R:x=a[i]:=by have:=congrArg Prod.snd q;simpa using this
  subst P R;refine wpAny_bind (J i r z _ _ ?_);wp_walk;exact⟨rfl,rfl,i+1,f⟩
 case fin=>
  rintro⟨X,Y⟩ u ⟨c,rfl,i,p⟩;simp only at c;subst c;wp_walk;exact⟨_,rfl,(fun x=>nomatch x),by simpa[Builtin.Tuple.tupleCompareSizes,hsz]using h⟩
 case h=>
  exact⟨rfl,rfl,0,rfl⟩
end
inductive Wc(K:mw)(H:Hp):V->V->Prop
 |x {u v:V} (h:Qu K H 20 u v):Wc K H u v
 |e {a b:Addr} (c:H a=some (.dK [])) (d:H b=some (.dK [])):Wc K H (.ref a) (.ref b)
inductive Gp(K:mw)(H:Hp):List V->List V->Prop
 |nil:Gp K H [] []
 |cons {u v:V} {us vs:List V} (h:Wc K H u v) (t:Gp K H us vs):Gp K H (u::us) (v::vs)
variable{ys:List V}
theorem Gp.length(h:Gp K H xs ys):xs.length=ys.length:=by
 induction h with
 |nil=>rfl
 |cons _ _ a=>rw[List.length_cons,List.length_cons,a]
theorem Gp.get(h:Gp K H xs ys):∀(i:Nat) u v,xs[i]?=some u->ys[i]?=some v->Wc K H u v:=by
 induction h with
 |nil=>intro i u v a;cases a
 |cons h _ c=>
  intro i u v a b;cases i with
  |zero=>cases a;cases b;exact h
  |succ i=>exact c i u v a b
theorem Wc.at{X:Cx}{pins:List (Addr×Obj)}{o:St}{H:Hp}{s:Shared}{x y:V}(I:Inv X pins o H s)(h:Wc X.K H x y){A:Around}{u v:Value}(l:A.units+20<cLine)(m:RelV x u)(n:RelV y v):Wa X.prog X.w A s u v:=by
 cases h with
 |x h=>exact .of (h.at I l m n)
 |@e a b p q=>
  cases(show u=Value.ref a from m);cases(show v=Value.ref b from n);obtain⟨z,r,C,d,t⟩:=Ef I.As (.inl p);obtain⟨D,f,B,c,i⟩:=Ef I.As (.inl q);cases d;cases c;exact Wa.refs fun _=>RU r f t i rfl (Nat.lt_of_le_of_lt (Nat.le_add_right _ _) l) fun j k u E g F=>by cases g
theorem YH{u:V}{k:TK}(h:Dy H u k)(g:Dy H v k):Wc K H u v:=by
 cases h with
 |str l=>cases g;exact .x (.self rfl)
 |one h=>cases g with|one g=>exact .x (.lst (n:=19) (BC.of h) (BC.of g) rfl fun i x y e f=>by
   cases i with
   |zero=>cases e;cases f;exact .self rfl
   |succ i=>cases e)
 |emp h=>cases g with|emp g=>exact .e h g
inductive eX(K:mw)(x y:V)(H:Hp)(Q:VK):Prop
 |mk(a b:Addr)(xs ys:List V)(c:x=.ref a)(d:y=.ref b)(e:BA K H a xs)(f:BA K H b ys)(h:Gp K H xs ys)(q:Q (.bl false) H)
theorem YI(k:X.A.units+64<cLine):Cq X (compareOp .NotEq) (eX X.K):=by
 intro pins s C H x y v u Q I d e h;obtain⟨a,b,l,m,rfl,rfl,n,o,h,q⟩:=h;cases d;cases e;obtain⟨f,g,p,_⟩:=I.tuple n;obtain⟨c,i,r,_⟩:=I.tuple o;have e1:f.toArray.size=l.length:=by rw[List.size_toArray];exact g.length.symm
 have e2:c.toArray.size=m.length:=by rw[List.size_toArray];exact i.length.symm
 refine eW (A:=X.A) p r (by rw[e1,e2,h.length]) (Nat.lt_of_le_of_lt (Nat.le_add_right _ _) k) (fun j t w=>?_) ⟨.bl false,H,I,rfl,q⟩;obtain⟨x,z,d⟩:=DO g t;obtain⟨y,B,e⟩:=DO i w;exact(h.get j x y z B).at I (A:=X.A.in1) (by show X.A.units+1+20<cLine;lia) d e
theorem Dy.ins{H:Hp}{z:V}{k:TK}{a C b:Addr}{fs:List (Str×V)}{o:HO}(t:Dy H z k)(h:H a=some (.ins C b fs)):Dy (upd H a o) z k:=by
 cases t with
 |str l=>exact .str l
 |one g=>exact .one (by rw[AK (fun e=>by rw[e,h]at g;cases g)];exact g)
 |emp g=>exact .emp (by rw[AK (fun e=>by rw[e,h]at g;cases g)];exact g)
theorem ES.row{H:Hp}{a:Addr}{j:Nat}{y:V}{r:List V}(g:ES H a j y r):H a=some (.tup (.str (HQ j)::y::r)):=by
 cases g with
 |one _ h=>exact h
 |two _ h=>exact h
 |val _ h _=>exact h
variable{r:List V}
theorem ES.len(g:ES H a j y r):(NU j=0->r=[])/\(NU j≠0->∃z,r=[z]):=by
 cases g with
 |one t h=>exact⟨fun _=>rfl,fun n=>absurd t n⟩
 |two t h=>exact⟨fun z=>(by rw[t]at z;cases z),fun _=>⟨_,rfl⟩⟩
 |val t h _=>exact⟨fun z=>(by rw[t]at z;cases z),fun _=>⟨_,rfl⟩⟩
theorem jL{i:Hp}{Q:VK}(s:AJ H i)(g:ES H a j y r)(q:∀v d,AJ H d->HR cl d v j y r->Q v d):
  ∀x c,i x=none->i c=none->c≠x->Ui cl j (.ref x::y::r) (upd (upd i c (.own x)) x (.ins (cl j) c [])) (fun v l=>v=.Aj/\Q (.ref x) l) E0:=by
 intro x c w z ne;have k:∀{l:Hp},cg x (upd (upd i c (.own x)) x (.ins (cl j) c [])) l->AJ H l:=fun B b o e=>by
  have e1:=s _ _ e;have m:b≠x:=Ak e1 w;exact B b o m (by rw[AK m,AK (Ak e1 z)];exact e1)
 unfold Ui;cases g with
 |one t h=>
  rw[t];exact⟨x,c,y,rfl,AG,fun d fs B e p n=>⟨rfl,q _ _ (k B) (.one rfl e n p t)⟩⟩
 |two t h=>
  rw[t];exact⟨x,c,y,_,rfl,AG,fun d fs B e p f n=>⟨rfl,q _ _ (k B) (.two rfl e n p t f)⟩⟩
 |val t h u=>
  rw[t];exact⟨x,c,y,_,_,rfl,AG,u.up (k fun b o _ e=>e),fun d fs C B e p f A n=>⟨rfl,q _ _ (k B) (.val rfl e n p t f (u.up (k B)) A)⟩⟩
theorem j9(h:j<9):j=0∨j=1∨j=2∨j=3∨j=4∨j=5∨j=6∨j=7∨j=8:=by lia
theorem Dz{X:Cx}{pos:Pos}{k v:Expr}{tk a:TE}(h:aX X pos [some k] [v] [(tk,a)]):PE X (.Dict [some k] [v] pos) (WQ [(tk,a)]):=M_ h rfl rfl (by simp) (by simp)
theorem Uj{c:Hp}{p:Addr}(k:Key)(v:V)(d:H p=none)(s:AJ (upd H p (.dK [])) c):∃a,upd c p (.dK (Cv [] [(k,v)]))=a/\AJ H a/\(∀b o,b≠p->c b=some o->a b=some o)/\a p=some (.dK [(k,v)]):=
 ⟨_,rfl,((AJ.new d).trans s).put d,fun b o e h=>by rw[AK e];exact h,AG⟩
theorem kS{b:Nat}(h:∀z∈sgn x,z<16 ^ 8)(l:x.length<=b):∃D,UM (Sum.inr x)=D/\D.showable=true/\D.leavesShort 2000=true/\D.bulk<=b/\D.depth<=k:=
 ⟨.str x,rfl,rfl,by simp only[PyData.leavesShort,List.all_eq_true,decide_eq_true_eq];exact h,l,Nat.zero_le _⟩
theorem PF(h:BD x=true):Fp x=true:=by
 unfold Fp;rw[EN h,Bool.and_true,decide_eq_true_eq];exact Nat.le_trans (CK h).2 (by decide)
inductive Uk(vs:List V)(H:Hp)(Q:VK):Prop
 |mk(c:Int)(n:Addr)(ys:List Str)(b:vs=[.int c,.ref n])(d:H n=some (.lst (ys.map V.str)))(e:ys.length=6)(f:∀y∈ys,BD y=true)(g:∀(v:V) (p:Option (List V)) (a:Hp),AJ H a->P_ a v p->Br p=false->Q v a)
def Ri:Sp:=fun a H Q _=>Uk a H Q
inductive YJ(H:Hp)(v:V):Prop
 |mk(p:Option (List V))(h:P_ H v p)(n:Br p=false)
theorem P_.up{a:Hp}(h:P_ H v p)(s:AJ H a):P_ a v p:=by
 cases h with
 |no t n=>exact .no (t.same s) n
 |tup h l b=>exact .tup (s _ _ h) l fun x e=>let⟨T,t⟩:=b x e;⟨T,t.same s⟩
theorem YJ.up{H a:Hp}{v:V}(h:YJ H v)(s:AJ H a):YJ a v:=by
 obtain⟨p,h,n⟩:=h;exact⟨p,h.up s,n⟩
theorem YJ.tup{H:Hp}{a:Addr}{x:V}{r:List V}{T:String}(h:H a=some (.tup (x::r)))(t:DY H x T)(l:r.length<=99)(f:Br (some (x::r))=false):YJ H (.ref a):=⟨_,.tup h (Nat.succ_le_succ l) fun y e=>by cases e;exact⟨T,t⟩,f⟩
def DA(H:Hp)(xs:List V):Prop:=∀x∈xs,YJ H x
theorem DA.up{H a:Hp}{xs:List V}(h:DA H xs)(s:AJ H a):DA a xs:=fun x b=>(h x b).up s
theorem DA.nil:DA H []:=fun _ h=>nomatch h
theorem DA.cons{H:Hp}{x:V}{xs:List V}(h:YJ H x)(t:DA H xs):DA H (x::xs):=fun y a=>by
 rcases List.mem_cons.mp a with rfl|a
 ·exact h
 ·exact t y a
theorem DA.app(h:DA H xs)(t:DA H ys):DA H (xs++ys):=fun y a=>(List.mem_append.mp a).elim (h y) (t y)
def GK(x:V):Prop:=(∃s,x=.str s/\BD s=true)∨∃i:Int,x=.int i/\0<=i/\i<=20
theorem Rj(h:∀x∈xs,GK x)(l:xs.length<=12):Co (some xs)=true:=by
 simp only[Co,Bool.and_eq_true,List.all_eq_true,decide_eq_true_eq];refine⟨⟨fun x a=>?_,l⟩,fun x a=>?_⟩
 ·rcases h x a with⟨s,rfl,e⟩|⟨i,rfl,e,_⟩
  ·exact e
  ·exact decide_eq_true e
 ·rcases h x a with⟨s,rfl,e⟩|⟨i,rfl,_,e⟩
  ·rfl
  ·exact decide_eq_true e
theorem Lp(h:Co (some xs)=true):xs.length<=12:=by
 simp only[Co,Bool.and_eq_true,decide_eq_true_eq]at h;exact h.1.2
theorem Ej(e:H a=some (.tup xs))(h:∀x∈xs,GK x)(l:xs.length<=100):NR H (.ref a) (some xs):=.tup e l fun x b=>by
 rcases h x b with⟨s,rfl,n⟩|⟨i,rfl,_⟩
 ·exact⟨⟨_,.str s⟩,fun y e=>by cases e;exact Nat.le_trans (CK n).2 (by decide)⟩
 ·exact⟨⟨_,.int i⟩,fun y e=>by cases e⟩
theorem HS{a:List V}{s:Str}:Cm (a++[.str s])=true:=by unfold Cm;rw[List.getLast?_concat]
theorem PJ{a:List V}{i:Int}:Cm (a++[.int i])=false:=by unfold Cm;rw[List.getLast?_concat]
theorem Ci{w:Str}(h:Co (some xs)=true)(n:xs≠[])(e:w≠"lacks"∨Cm xs=true):Ey w (some xs)=true:=by
 have e1:xs.isEmpty=false:=by cases xs with
  |nil=>exact absurd rfl n
  |cons _ _=>rfl
 simp only[Ey,h,e1,Bool.and_false,Bool.not_false,Bool.and_true,Bool.true_and];rcases e with e|e
 ·rw[decide_eq_false e];rfl
 ·rw[e,Bool.or_true]
theorem GK.flat{x:V}(h:GK x):BI x=true:=by
 rcases h with⟨s,rfl,_⟩|⟨i,rfl,_⟩<;>rfl
theorem NY{a:List V}{s:Str}(h:∀x∈a,GK x)(n:ys≠[]):BY (a++[.str s]) (a++[.str s]++ys)=true:=by
 unfold BY;rw[HS,List.take_left];have:decide ((a++[V.str s]).length<(a++[V.str s]++ys).length)=true:=by
  refine decide_eq_true ?_;rw[List.length_append (as:=a++[V.str s])];have:0<ys.length:=List.length_pos_iff.mpr n;exact Nat.lt_add_of_pos_right this
 rw[this,Oj]
 ·rfl
 ·intro x b;rcases List.mem_append.mp b with b|b
  ·exact(h x b).flat
  ·rw[List.mem_singleton.mp b];rfl
inductive Lq(vs:List V)(H:Hp)(Q:VK):Prop
 |mk(c:Int)(pv:V)(xs:List V)(n:Addr)(ys:List Str)(b:vs=[.int c,pv,.ref n])(g:fw H pv xs)(d:H n=some (.lst (ys.map V.str)))(e:ys.length=6)(f:∀y∈ys,BD y=true)(h:∀(t:Addr) (v:V) (i:Int) (a:Hp),AJ H a->a t=some (.tup [v,.int i])->DQ a v (some i)->Q (.ref t) a)
def HU:Sp:=fun a H Q _=>Lq a H Q
theorem Rk{lo a:Option Int}{x:V}(h:x∈EG xs lo a):x∈xs:=List.mem_of_mem_drop (List.mem_of_mem_take h)
theorem Rl{w:Str}(h:H a=some (.tup (.str w::.ref b::r)))(l:r.length<=1)(f:Br (some (.str w::.ref b::r))=true)(c:H b=some (.tup xs))(st:∀x∈xs,GK x)(d:xs.length<=100)(m:Ey w (some xs)=false):DQ H (.ref a) (some 1):=.first h l f (Ej c st d) m
variable{z:V}
theorem PK{w:Str}(h:H a=some (.tup [.str w,.ref b,z]))(f:Br (some [.str w,.ref b,z])=true)(c:H b=some (.tup xs))(st:∀x∈xs,GK x)(d:xs.length<=100)(m:Ey w (some xs)=true)(t:HP H xs w z false):DQ H (.ref a) (some 2):=.three h f c (Ej c st d) m t
theorem IX{w:Str}(hw:w="copy"∨w="move")(h:H b=some (.tup [])):HP H xs w (.ref b) false:=by
 have:=HP.WY (H:=H) (xs:=xs) (w:=w) (v:=.ref b) (p:=some []) hw (Ej h (fun _ z=>nomatch z) (Nat.zero_le _));have e:(Co (some [])&& !decide ((some ([]:List V))=some [])&&(decide (w="copy")|| !BY xs ((some ([]:List V)).getD [])))=false:=by rw[decide_eq_true (rfl:some ([]:List V)=some []),Bool.not_true,Bool.and_false,Bool.false_and]
 rw[e]at this;exact this
theorem KP(h:H b=some (.tup ys))(st:∀x∈ys,GK x)(l:ys.length<=100)(e:BY xs ys=true):HP H xs "move" (.ref b) false:=by
 have:=HP.WY (H:=H) (xs:=xs) (w:="move") (v:=.ref b) (p:=some ys) (.inr rfl) (Ej h st l);have e:(Co (some ys)&& !decide (some ys=some [])&&(decide (("move":Str)="copy")|| !BY xs ((some ys).getD [])))=false:=by
  show(_&&(decide (("move":Str)="copy")|| !BY xs ys))=false;rw[e,decide_eq_false (by decide+kernel:¬("move":Str)="copy"),Bool.not_true,Bool.or_false,Bool.and_false]
 rw[e]at this;exact this
inductive bK(K:mw)(x y:V)(H:Hp)(Q:VK):Prop
 |mk(a b:Addr)(xs:List V)(c:x=.ref a)(d:y=.ref b)(e:BA K H a xs)(f:BA K H b [])(g:Q (.bl (!xs.isEmpty)) H)
theorem Na(g:X.A.units<cLine):Cq X (compareOp .NotEq) (bK X.K):=by
 intro pins s w H x y v u Q I i k h;obtain⟨a,b,d,rfl,rfl,l,m,q⟩:=h;cases i;cases k;obtain⟨c,n,o,_⟩:=I.tuple l;obtain⟨f,p,r,_⟩:=I.tuple m;cases p;have l1:=n.length;refine SeqAt.RcNeAt.tuples (e:=fun _=>true) o r g (fun j z t=>absurd t (by simp)) _ _ _ _ ?_;have e:(!(((List.range (min c.toArray.size (#[]:Array Value).size)).all fun _=>true)&&c.toArray.size==(#[]:Array Value).size))= !d.isEmpty:=by
  rw[List.size_toArray,<-l1];cases d<;>simp
 rw[e];exact⟨.bl (!d.isEmpty),H,I,rfl,q⟩
def W3(w:Str):Prop:=w∈BQ∨w="is"∨w="copy"∨w="move"
def W2(w:Str):Prop:=w="take"∨w="has"∨w="lacks"
theorem W3.IU{w:Str}(h:W3 w)(y z:V):Br (some [.str w,y,z])=true:=by
 rcases h with h|rfl|rfl|rfl
 ·simp only[BQ,List.mem_cons,List.not_mem_nil,or_false]at h;rcases h with rfl|rfl|rfl<;>rfl
 all_goals rfl
theorem W2.IU{w:Str}(h:W2 w)(y:V):Br (some [.str w,y])=true:=by
 rcases h with rfl|rfl|rfl<;>rfl
theorem W3.ne{w:Str}(h:W3 w):w≠"lacks":=by
 rcases h with h|rfl|rfl|rfl
 ·simp only[BQ,List.mem_cons,List.not_mem_nil,or_false]at h;rcases h with rfl|rfl|rfl<;>decide+kernel
 all_goals decide+kernel
theorem YK{w:Str}(h:Co p=false):Ey w p=false:=by
 cases p with
 |none=>rfl
 |some a=>simp only[Ey,h,Bool.false_and]
inductive Lr(vs:List V)(H:Hp)(Q:VK):Prop
 |mk(c:Int)(n:Addr)(ys:List Str)(b:vs=[.int c,.ref n])(d:H n=some (.lst (ys.map V.str)))(e:ys.length=6)(f:∀y∈ys,BD y=true)(g:∀(t:Addr) (v:V) (i:Int) (a:Hp),AJ H a->a t=some (.tup [v,.int i])->DQ a v (some i)->Q (.ref t) a)
def HV:Sp:=fun a H Q _=>Lr a H Q
inductive PL(vs:List V)(H:Hp)(Q:VK):Prop
 |mk(v:V)(i:Int)(b:vs=[v])(h:DQ H v (some i))(q:∀a,AJ H a->Q (.int i) a)
def KQ:Sp:=fun a H Q _=>PL a H Q
theorem YL:Passes (KJ P w) X E0:=fun _ _ _ _ _ _ _ h=>by
 obtain⟨_,_,_,_,_,_,_,_,_,_,q⟩:=h;exact False.elim q
theorem DQ.up{H b:Hp}{v:V}{i:Option Int}(h:DQ H v i)(s:AJ H b):DQ b v i:=by
 cases h with
 |IU h n=>exact .IU (h.up s) n
 |first h l f a m=>exact .first (s _ _ h) l f (a.up s) m
 |two h f a m=>exact .two (s _ _ h) f (a.up s) m
 |three h f c a m t=>exact .three (s _ _ h) f (s _ _ c) (a.up s) m (t.up s)
theorem ES.up{H b:Hp}{a:Addr}{j:Nat}{y:V}{r:List V}(g:ES H a j y r)(s:AJ H b):ES b a j y r:=by
 cases g with
 |one t h=>exact .one t (s _ _ h)
 |two t h=>exact .two t (s _ _ h)
 |val t h c=>exact .val t (s _ _ h) (c.up s)
inductive bL(H:Hp):List V->List V->Prop
 |same {r:List V}:bL H r r
 |val {z a:V} {k:TK} (b:Dy H z k) (c:Dy H a k):bL H [z] [a]
theorem Ul{Q:VK}(i:j<9)(d:HR cl H v j y r)(q:∀b l c,AJ H c->c b=some (.tup (.str (HQ j)::y::l))->bL c l r->Q (.ref b) c):Wb cl 9 "told" (PD cl) v H Q:=by
 cases d with
 |@one a g fs e h n p t=>
  subst e;refine⟨j,a,g,fs,i,rfl,h,n,?_⟩;unfold PD;rw[t];exact⟨a,g,fs,y,rfl,h,p,fun b c s f=>q b _ c s f .same⟩
 |@two a g fs z e h n p t f=>
  subst e;refine⟨j,a,g,fs,i,rfl,h,n,?_⟩;unfold PD;rw[t];exact⟨a,g,fs,y,z,rfl,h,p,f,fun b c s f=>q b _ c s f .same⟩
 |@val a g fs z m k e h n p t f o u=>
  subst e;refine⟨j,a,g,fs,i,rfl,h,n,?_⟩;unfold PD;rw[t];exact⟨a,g,fs,y,m,k,rfl,h,p,f,u,fun b z2 c s w f=>q b _ c s f (.val w (o.up s))⟩
def Um(v:V):Prop:=BI v=true∨∃a,v=.ref a
theorem Um.eq(h:Um v):Wc K H v v:=by
 rcases h with h|⟨a,rfl⟩
 ·exact .x (.self h)
 ·exact .x .same
theorem Um.eqs{K:mw}{H:Hp}:∀{r:List V},(∀z∈r,Um z)->Gp K H r r
 |[],_=>.nil
 |x::r,h=>.cons (h x List.mem_cons_self).eq (Um.eqs fun z a=>h z (List.mem_cons_of_mem _ a))
theorem bL.eqs{K:mw}{H:Hp}{r a:List V}(h:bL H a r)(f:∀z∈r,Um z):Gp K H a r:=by
 cases h with
 |same=>exact Um.eqs f
 |val b c=>exact .cons (YH b c) .nil
inductive GR(H:Hp)(v:V):Prop
 |mk(a b:Addr)(j:Nat)(r:List V)(e:v=.ref a)(x:DQ H (.ref a) none)(c:j<9)(g:ES H a j (.ref b) r)(f:∀z∈r,Um z)
theorem GR.up{H c:Hp}{v:V}(h:GR H v)(s:AJ H c):GR c v:=by
 obtain⟨a,b,j,r,e,x,d,g,f⟩:=h;exact⟨a,b,j,r,e,x.up s,d,g.up s,f⟩
theorem eY(j:Nat)(h:H a=some (.tup [.str (HQ j),.ref b]))(c:j<9)(t:NU j=0)(f:Br (some [.str (HQ j),.ref b])=true)(d:H b=some (.tup xs))(st:∀x∈xs,GK x)(l:xs.length<=100)(m:Ey (HQ j) (some xs)=true):GR H (.ref a):=
 ⟨a,b,j,[],rfl,.two h f (Ej d st l) m,c,.one t h,fun _ z=>nomatch z⟩
theorem cj(j:Nat)(h:H a=some (.tup [.str (HQ j),.ref b,z]))(e:j<9)(t:NU j=1)(f:Br (some [.str (HQ j),.ref b,z])=true)(d:H b=some (.tup xs))(st:∀x∈xs,GK x)(l:xs.length<=100)(m:Ey (HQ j) (some xs)=true)(g:HP H xs (HQ j) z true)(i:Um z):GR H (.ref a):=
 ⟨a,b,j,[z],rfl,.three (c:=true) h f d (Ej d st l) m g,e,.two t h,fun y k=>by rw[List.mem_singleton.mp k];exact i⟩
theorem eZ{k:TK}(j:Nat)(h:H a=some (.tup [.str (HQ j),.ref b,z]))(g:j<9)(t:NU j=2)(f:Br (some [.str (HQ j),.ref b,z])=true)(e:H b=some (.tup xs))(st:∀x∈xs,GK x)(l:xs.length<=100)(m:Ey (HQ j) (some xs)=true)(hw:HQ j∈BQ)(d:Dy H z k):GR H (.ref a):=by
 obtain⟨n,i,tr⟩:=d.tr;refine⟨a,b,j,[z],rfl,.three (c:=true) h f e (Ej e st l) m (.val hw tr i),g,.val t h d,fun y o=>?_⟩;rw[List.mem_singleton.mp o];cases d with
 |str _=>exact .inl rfl
 |one _=>exact .inr ⟨_,rfl⟩
 |emp _=>exact .inr ⟨_,rfl⟩
theorem IY{w:Str}(hw:w="copy"∨w="move")(h:H b=some (.tup ys))(st:∀x∈ys,GK x)(l:ys.length<=12)(n:ys≠[])(e:w="copy"∨BY xs ys=false):HP H xs w (.ref b) true:=by
 have:=HP.WY (H:=H) (xs:=xs) (w:=w) (v:=.ref b) (p:=some ys) hw (Ej h st (Nat.le_trans l (by decide)));have e:(Co (some ys)&& !decide (some ys=some [])&&(decide (w="copy")|| !BY xs ((some ys).getD [])))=true:=by
  rw[Rj st l,decide_eq_false (by simpa using n)];rcases e with rfl|e
  ·rfl
  ·show(_&&(_|| !BY xs ys))=true;rw[e,Bool.not_false,Bool.or_true];rfl
 rw[e]at this;exact this
theorem Av.mm(r:Av k A)(h:j<=k:=by first|decide|lia):Av j A:=r.mono h
theorem FI(K:mw){j:Int}(i:Nat){y:_}{b c pos:Pos}(d:X.N[i]?=some x:=by rfl)(f:Zr X.env.scope x:=by first|exact Or.inl rfl|exact Or.inr (Or.inl rfl)|exact Or.inr (Or.inr rfl))(g:(x==("__debug__":Str))=false:=by decide)(a:(x==("__classdict__":Str))=false:=by decide)(e:X.K=K:=by rfl):PE X (.Subscript (.Name x b) (.Constant (.int j) y c) pos) (Zj (Ts K) (Wu i) (tC (.int j))):=by
 subst e;exact BH LI (pv i d f g a) AD (fun _ _=>rfl)
theorem BZ(i:Nat){a:TE}{pos:Pos}(b:X.N.Nodup)(c:PE X e a)(d:X.N[i]?=some x:=by rfl)(f:Loc X.env.scope x:=by exact Or.inl rfl)(g:swapsWith e (some (.Name x pos')) pos.line X.env=pure false:=by rfl)(h:X.fn x=true∨X.env.scope.names.lookup x=some .local:=by first|exact .inl rfl|exact .inr rfl|assumption):
  PS X (.Assign [.Name x pos'] e pos) (XA a (Eb i)):=Ae b d f c g h
theorem Aw{x:V}:[x,y,z].length<=sizeLine:=AR (show 3<=1000 by decide)
theorem HW(i:Nat){pos:Pos}(a:X.N.Nodup)(b:X.N[i]?=some x:=by rfl)(c:Loc X.env.scope x:=by exact Or.inl rfl)(d:X.fn x=true∨X.env.scope.names.lookup x=some .local:=by first|exact .inl rfl|exact .inr rfl|assumption):PG X (.Name x pos) (Eb i):=Hl a b c d
section
theorem Cy.oq{c:FuncData}(F:Cy K x qual st f c)(N:List Str)(a:∀{b:Value} {A:Around} {outer:List Env} {s:Shared} {vs:List V} {E:XK} (H:Hp) (e:Ends),(∀{g H},e.rt .Aj H->e.nx g H)->N.Nodup->(A.deeper (envOfC qual (AO st) s.heap.objs.size f b)).units+1<cLine->Av k (A.deeper (envOfC qual (AO st) s.heap.objs.size f b))->sp vs H e.rt E->
   ∃t,Hk (Eo BN P w K mg base N qual (AO st) f b A outer s H E).Zh (AZ st) t/\t e (start N vs) H)(S:B' N ps (AO st):=by exact{})(len:∀vs H Q E,sp vs H Q E->vs.length=ps.length:=by intro _ _ _ _ h;first|(obtain⟨⟩:=h;subst_vars;rfl)|(obtain⟨_,⟨⟩⟩:=h;subst_vars;rfl)|(obtain⟨_,_,_,_,_,_,rfl,_⟩:=h;rfl)|(repeat obtain⟨_,h⟩:=h);subst_vars;rfl):AX P w K mg base BN (k+1) f c ps sp:=F.ok S len fun _ _ _ _ H _ e _ i d h=>a H e i S.nd (M' d) d h
end
theorem BW{p pos:Pos}{a:List Expr}{t:TA}(D:Df X.prog X.w X.K X.mg X.base x ps k sp)(g:Av j X.A)(h:PA X (e::a) t)(i:Gl X x:=by rfl)(c:(x==("__debug__":Str))=false:=by decide)(l:starEach (e::a) X.env=(false,eval e X.env)::starEach a X.env:=by rfl)(d:(backTo pos (starEach a X.env)).any (·.1)=false:=by rfl)(n:k<=j:=by first|decide|lia):PE X (.Call (.Name x p) (e::a) [] pos) (WK sp [] E0 t):=by
 obtain⟨f,o,k,b,m,G⟩:=D.ex;exact Hr G (g.mono n) i m k b .nil Cw h c l d
theorem Au{a:TE}(h:PE X e a)(b:starEach [e] X.env=(false,eval e X.env)::starEach [] X.env:=by rfl):PA X [e] (FV a OR):=AA h AB b
theorem PM(K:mw){a b:Expr}{c d:TE}{pos:Pos}(f:PE X a c)(g:PE X b d)(h:Mu b:=by exact fun _ _=>rfl)(e:X.K=K:=by rfl):PE X (.Subscript a b pos) (Zj (Cn K) c d):=by
 subst e;exact BH Az f g h
theorem bM{i:Expr}{a ty:TE}{pos:Pos}(b:X.A.units+1<cLine)(c:PE X o a)(d:PE X i ty)(e:Tu i:=by exact fun _ _=>rfl):PE X (.Subscript o i pos) (WO a ty):=Tv b c d e
theorem cmp{b pos:Pos}{iter a:Expr}{c:TI}{d:TE}(fv:List Str)(fs:List Nat)(e:PI X (.Name x b) iter c)(f:∀C g h i,PE (Jn X (x::fv) scope C g h i) a d)(j:X.calm=true:=by rfl)(ok:Bf X scope x fv fs:=by exact .of (by rfl))(k:∀x,foldedSetIterable iter X.env x=pure x:=by intro _;rfl):PE X (.ListComp a [⟨.Name x b,iter,[],0⟩] scope pos) (Jo c XX d fs):=Tz j ok e (fun _ _ _ _=>NB) f k
theorem HX{r:List V->Hp->VK->Prop}{a:TE}{p q pos:Pos}{y:Str}{U:String}(c:BF X (.builtin "isinstance") r)(T:Txt X.mg)(d:PE X e a)(f:X.mg y=none)(g:bootBuiltins y=some (.type U))(h:Gl X "isinstance":=by rfl)(i:Gl X y:=by rfl)(j:y≠"__name__":=by decide)(k:(y==("__debug__":Str))=false:=by decide)(b:starEach [e,.Name y q] X.env=(false,eval e X.env)::starEach [.Name y q] X.env:=by rfl):PE X (.Call (.Name "isinstance" p) [e,.Name y q] [] pos) (cV r (FV a (FV (tC (.ty U)) OR))):=Aq c h T.isinstance A_ (AA d (AA (Tc i f g rfl j k) AB) b) (by decide) (by decide) b
theorem Ax{j:Int}(h:0<j:=by decide):0<j:=h
theorem Bm{A B:Prop}(h:A:=by decide)(a:B:=by decide):A/\B:=⟨h,a⟩
theorem ck{a iter:Expr}{body:List Stmt}{b:TI}{g:TG}{c:TS}{pos:Pos}(d:PI X a iter b)(e:PG X a g)(f:Hk X body c)(h:PassesOwn (model X.prog X.w) X.A X.env X.xe:=by exact PassesOwn.never)(i:X.calm=true:=by rfl)(j:∀x,foldedSetIterable iter X.env x=pure x:=by intro _;rfl):PS X (.For a iter body [] pos) (aB b g c):=XC h i d e f j
theorem ed{c:Bool}{A B:Prop}(h:B)(a:c=false:=by decide+kernel):if c=true then A else B:=Af a h
inductive FA(K:mw)(x:Str)(st:Stmt):Prop
 |mk(f:Addr)(b:FuncData)(F:Cy K x x st f b)(a:PySem.W.nsIn K mainGlobals x=some (some (.ref f)))
theorem fa{g:Value}{od h:Option Addr}{d:Array (Option Value)}{kV e i b ct:Value}(a:PySem.W.nsIn K mainGlobals x=some (some (.ref f)))(l:K.lookup f=some ⟨g,od,.func (PySem.W.fnOf x x (Ab st) (AZ st) (AO st) .none kV e i h b ct),d⟩)(c:PySem.W.codeIn K b x=true)(k:PySem.W.keepIn K (.ref f)=true):FA K x st:=⟨_,_,BB l c k,a⟩
end L2
namespace Ba
open PySem L2
def top(i:Nat):Stmt:=PySem.Challenge.pw_patchbough_k27_rows_refused.main.body.getD i (.Pass ⟨0,0,0,0⟩)
abbrev Fq(K:mw)(x:Str)(i:Nat)(f:Addr)(d:FuncData):Prop:=Cy K x x (top i) f d
abbrev Fb(K:mw)(x:Str)(i:Nat):Prop:=FA K x (top i)
abbrev Ls:Stmt:=top 15
abbrev IZ:Stmt:=top 62
abbrev Uo:Stmt:=top 63
abbrev Lu:Stmt:=top 76
abbrev Bx:Stmt:=inClass (top 20) 0
abbrev DB:Stmt:=inClass (top 47) 0
abbrev DC:Stmt:=inClass (top 47) 2
abbrev CL:Stmt:=inClass (top 48) 0
abbrev CM:Stmt:=inClass (top 48) 2
abbrev Bn:Stmt:=inClass (top 49) 0
abbrev Bo:Stmt:=inClass (top 49) 2
abbrev CN:Stmt:=inClass (top 50) 0
abbrev CO:Stmt:=inClass (top 50) 2
abbrev CP:Stmt:=inClass (top 51) 0
abbrev CQ:Stmt:=inClass (top 51) 2
abbrev DD:Stmt:=inClass (top 52) 0
abbrev DE:Stmt:=inClass (top 52) 2
abbrev DF:Stmt:=inClass (top 53) 0
abbrev DG:Stmt:=inClass (top 53) 2
abbrev By:Stmt:=inClass (top 54) 0
abbrev Bz:Stmt:=inClass (top 54) 2
abbrev D_:Stmt:=inClass (top 55) 0
abbrev D':Stmt:=inClass (top 55) 2
def bN(a c1 c2 c3 c4 c5 c6 c7 c8:Nat):Nat->Nat:=fun j=>[a,c1,c2,c3,c4,c5,c6,c7,c8].getD j 0
end Ba
namespace Ba
open PySem L2
section
variable{P:Program} {w:World} {K:mw} {mg:Str->Option Value} {base:Heap}
theorem Ia{C f:Addr}{a:FuncData}(F:Cy K "__init__" "NoRow.__init__" Bx f a)(k:Lj K C "at"):AX P w K mg base BN 1 f a ["self","at"] (FD C):=by
 refine F.oq ["self","at"] fun H _ b _ _ l h=>?_;obtain⟨c,i,rfl,d,q⟩:=h;refine⟨_,(AE (RJ rfl (pv 0) (pv 1) rfl)),?_⟩;exact⟨_,rfl,_,rfl,c,C,rfl,d,k,fun e g j=>b (q e g j)⟩
end
end Ba
namespace Ba
open PySem L2
end Ba
namespace Ba
open PySem L2
variable{f:Addr}
section
variable{P:Program} {w:World} {K:mw} {mg:Str->Option Value} {base:Heap}
theorem Lv{a:FuncData}(F:Fq K "is_whole" 5 f a)(T:Txt mg):AX P w K mg base BN 1 f a ["thing"] IF:=by
 refine F.oq ["thing"] fun H _ _ _ _ b h=>?_;obtain⟨v,Ty,rfl,ty,k⟩:=h;refine⟨_,(AE (AL (Bp (HX Ai T (pv 0) T.int Qg) (Bd (Ku (HX Ai T (pv 0) T.bool Qh)))))),?_⟩;refine⟨v,rfl,v,"int",Ty,rfl,rfl,ty,_,rfl,?_⟩;have e:Le v=(H_ Ty "int"&& !H_ Ty "bool"):=by cases ty<;>simp[Le,H_]
 rw[e]at k;refine Jl (fun h=>?_) (fun h=>?_)
 ·refine⟨v,rfl,v,"bool",Ty,rfl,rfl,ty,_,rfl,?_⟩;rw[h]at k;exact k
 ·rw[Bool.not_eq_true _|>.mp h]at k;exact k
theorem De{j:FuncData}(F:Fq K "has_letters_alone" 6 f j)(T:Txt mg)(l:∃t,mg "LETTERS"=some (.str "abcdefghijklmnopqrstuvwxyz" t)):AX P w K mg base BN 1 f j ["text"] EM:=by
 obtain⟨m,p⟩:=l;refine F.oq ["text"] fun H _ _ _ _ z h=>?_;obtain⟨x,rfl,q,k⟩:=h;refine⟨_,(AE (AL (Aq (Dt rfl) rfl T.all NF (Au (cmp [] [] (XY (pv 0)) fun _ _ _ _=>(Bh ON (pv 0) (Ay (v:=.str "abcdefghijklmnopqrstuvwxyz") rfl p ⟨m,rfl⟩) rfl)))))),?_⟩;refine⟨.str x,rfl,x,rfl,?_⟩;refine HD (n:=x.cps.size) (fun i=>.str ⟨#[x.cps.getD i 0]⟩) (fun i=>.bl (Fj (x.cps.getD i 0))) (fun _=>true) ?_ (fun i D g a d=>a) (fun i D g v A a d y=>?_) (fun D g d=>rfl) (fun i D g R a d r=>by exact r) (fun i D g R a d _ r=>?_) (fun D d=>?_)
 ·have:x.cps.size<=1000:=q;exact Nat.le_of_lt (BK this)
 ·obtain⟨e,c,s,e2⟩:=y;subst e e2;have:x.cps.getD i 0=c:=by rw[Array.getD_eq_getD_getElem?,s];rfl
  exact⟨by rw[this],rfl⟩
 ·refine⟨_,rfl,_,_,rfl,rfl,?_⟩;rw[StrLaws.found_one];exact r
 ·refine⟨D,(sgn x).map Fj,rfl,?_,?_⟩
  ·have e:List.map (fun i=>V.bl (Fj (x.cps.getD i 0))) (List.filter (fun _=>true) (List.range x.cps.size))=List.map V.bl (List.map Fj (sgn x)):=by
    rw[List.filter_eq_self.mpr fun _ _=>rfl,List.map_map];refine List.ext_getElem (by simp) fun i u B=>?_;simp only[List.getElem_map,List.getElem_range,Function.comp];congr 2;have a:i<x.cps.size:=by simpa using u
    rw[Array.getD_eq_getD_getElem?,Array.getElem?_eq_getElem a];simp
   rw[e];exact BC.of AG
  ·rw[List.all_map];exact k _ fun b o e=>by rw[AK (Ak e d)];exact e
theorem PN{g:FuncData}(F:Fq K "is_name" 7 f g)(T:Txt mg)(a:Df P w K mg base "has_letters_alone" ["text"] 1 EM)(l:∃t,mg "LONGEST_NAME"=some (.int 8 t)):AX P w K mg base BN 2 f g ["thing"] Lg:=by
 obtain⟨m,n⟩:=l;refine F.oq ["thing"] fun H _ _ _ _ o h=>?_;obtain⟨v,Ty,rfl,ty,p,k⟩:=h;refine⟨_,(AE (AL (Bp (HX Ai T (pv 0) T.str Fn) (Bp (QH Mr Mr AD (Aq Dp rfl T.len PySem.boot_len (Au (pv 0))) (Ay (v:=.int 8) rfl n ⟨m,rfl⟩)) (Bd (BW a o (Au (pv 0)))))))),?_⟩;refine⟨v,rfl,v,"str",Ty,rfl,rfl,ty,_,rfl,?_⟩;cases ty with
 |str x=>
  refine Cc ?_;have j:=p x rfl;have q:x.length<=sizeLine:=Nat.le_of_lt (BK j);refine⟨.str x,rfl,x,rfl,q,1,_,rfl,rfl,_,rfl,?_⟩;have k:=k;have e:Jz (.str x)=(decide (1<=x.length)&&decide (x.length<=8)&&(sgn x).all Fj):=by
   show DS (sgn x)=_;unfold DS;rw[Ce]
  rw[e]at k;have r:decide ((1:Int)<=(x.length:Int))=decide (1<=x.length):=by rw[Bool.eq_iff_iff];simp;lia
  have s:decide ((x.length:Int)<=8)=decide (x.length<=8):=by rw[Bool.eq_iff_iff];simp;lia
  rw[r];refine Jl (fun c=>?_) (fun c=>?_)
  ·rw[c]at k;refine⟨_,_,rfl,rfl,_,rfl,?_⟩;rw[s];refine Jl (fun d=>?_) (fun d=>?_)
   ·rw[d]at k;exact⟨.str x,rfl,x,rfl,j,k⟩
   ·rw[Bool.not_eq_true _|>.mp d]at k;exact k H (AJ.refl H)
  ·rw[Bool.not_eq_true _|>.mp c]at k;exact⟨_,rfl,Ac (k H (AJ.refl H))⟩
 |Aj=>exact Ac (k H (AJ.refl H))
 |bl b=>exact Ac (k H (AJ.refl H))
 |int i=>exact Ac (k H (AJ.refl H))
 |lst e=>exact Ac (k H (AJ.refl H))
 |tup e=>exact Ac (k H (AJ.refl H))
 |dK e=>exact Ac (k H (AJ.refl H))
theorem Lw{X:FuncData}(F:Fq K "is_sound" 8 f X)(T:Txt mg)(p:Df P w K mg base "is_whole" ["thing"] 1 IF)(c:Df P w K mg base "has_letters_alone" ["text"] 1 EM)(m:Df P w K mg base "is_name" ["thing"] 2 Lg)(hT:∃t,mg "LONGEST_TEXT"=some (.int 12 t)):AX P w K mg base BN 3 f X ["thing"] KD:=by
 obtain⟨tl,L⟩:=hT;refine F.oq ["thing"] fun H _ _ _ _ M h=>?_;obtain⟨v,rfl,h⟩:=h;refine⟨_,(AI (Am (BG (HX (DZ:BF _ _ IH) T (pv 0) T.list Fo)) (AE (AL Bb)) AU) (AI (Am (BG (HX (DZ:BF _ _ IH) T (pv 0) T.dict IC)) (AE (AL (Aq (Dt rfl) rfl T.all NF (Au (Ft (UK (cmp [] [] (UH (pv 0)) fun _ _ _ _=>(BW m M (Au (pv 0))))) (cmp [] [] (Xm (pv 0)) fun _ _ _ _=>(BW m M (Au (pv 0))))))))) AU) (AI (Am (BG (HX (DZ:BF _ _ IH) T (pv 0) T.str Fn)) (AE (AL (Bp (Bh Mr (Aq Dp rfl T.len PySem.boot_len (Au (pv 0))) (Ay (v:=.int 12) rfl L ⟨tl,rfl⟩) (AY _)) (Bd (BW c M (Au (pv 0))))))) AU) (AE (AL (BW p M (Au (pv 0)))))))),?_⟩;rcases h with⟨u,q⟩|⟨its,node,L,q⟩
 ·cases u with
  |bl b=>exact⟨_,rfl,.inl ⟨_,"list","bool",rfl,rfl,.bl b,_,rfl,Ac ⟨_,rfl,.inl ⟨_,"dict","bool",rfl,rfl,.bl b,_,rfl,Ac ⟨_,rfl,.inl ⟨_,"str","bool",rfl,rfl,.bl b,_,rfl,Ac ⟨_,rfl,_,_,rfl,.bl b,q H (AJ.refl H)⟩⟩⟩⟩⟩⟩⟩
  |Aj=>exact⟨_,rfl,.inl ⟨_,"list","NoneType",rfl,rfl,.Aj,_,rfl,Ac ⟨_,rfl,.inl ⟨_,"dict","NoneType",rfl,rfl,.Aj,_,rfl,Ac ⟨_,rfl,.inl ⟨_,"str","NoneType",rfl,rfl,.Aj,_,rfl,Ac ⟨_,rfl,_,_,rfl,.Aj,q H (AJ.refl H)⟩⟩⟩⟩⟩⟩⟩
  |tup h=>exact⟨_,rfl,.inl ⟨_,"list","tuple",rfl,rfl,.tup h,_,rfl,Ac ⟨_,rfl,.inl ⟨_,"dict","tuple",rfl,rfl,.tup h,_,rfl,Ac ⟨_,rfl,.inl ⟨_,"str","tuple",rfl,rfl,.tup h,_,rfl,Ac ⟨_,rfl,_,_,rfl,.tup h,q H (AJ.refl H)⟩⟩⟩⟩⟩⟩⟩
  |@txt x l h=>
   refine⟨_,rfl,.inl ⟨_,"list","str",rfl,rfl,.str x,_,rfl,Ac ⟨_,rfl,.inl ⟨_,"dict","str",rfl,rfl,.str x,_,rfl,Ac ⟨_,rfl,.inl ⟨_,"str","str",rfl,rfl,.str x,_,rfl,Cc ?_⟩⟩⟩⟩⟩⟩;refine⟨_,rfl,x,rfl,AR (by lia),_,_,rfl,rfl,_,rfl,?_⟩;by_cases Q:x.length<=12
   ·refine Ag (decide_eq_true (by lia)) ⟨_,rfl,x,rfl,by lia,fun C s=>?_⟩;have e:(sgn x).all Fj=false:=by
     unfold Fp at h;rw[decide_eq_true Q,Bool.true_and]at h;exact h
    rw[e];exact q C s
   ·have e:decide ((x.length:Int)<=12)=false:=decide_eq_false (by lia);rw[e];exact Ac (q H (AJ.refl H))
  |@key a k v h n S=>
   refine⟨_,rfl,.inl ⟨_,"list","dict",rfl,rfl,.dK h,_,rfl,Ac ?_⟩⟩;refine⟨_,rfl,.inl ⟨_,"dict","dict",rfl,rfl,.dK h,_,rfl,Cc ?_⟩⟩;refine .inl ⟨a,_,h,fun o Hf F=>⟨_,rfl,a,o,_,rfl,F.at_,?_⟩⟩;refine EJ (n:=1) (fun _=>kV k) (fun _=>.bl false) (fun _=>true) (AR (show 1<=1000 by decide)) (fun i g j d=>⟨d _ _ F.at_,j⟩) (fun i g v' C j d y=>?_) (fun g d=>⟨d _ _ F.at_,rfl⟩) (fun i g R j d r=>by exact r g (AJ.refl g)) (fun i g R j d _ r=>?_) (fun D g N d E=>?_)
   ·obtain⟨e,k',U,e1,e2⟩:=y;have z:i=0:=by lia
    subst z;cases(show some (k,v)=some (k',U)from e1);exact⟨e2,e⟩
   ·obtain⟨Y,ty⟩:=au g k;refine⟨_,rfl,_,Y,rfl,ty,S,fun G I=>?_⟩;rw[n];exact r G I
   ·refine⟨d _ _ F.at_,?_⟩;refine⟨D,[false],rfl,BC.of ?_,q _ (F.back d)⟩;rw[IE (F.free N).2,E];rfl
  |@odd a o k v Y h t n S=>
   refine⟨_,rfl,.inr ⟨a,o,k,v,"list",rfl,rfl,h,_,rfl,Ac ?_⟩⟩;refine⟨_,rfl,.inr ⟨a,o,k,v,"dict",rfl,rfl,h,_,rfl,Cc ?_⟩⟩;refine .inr ⟨_,rfl,a,o,k,v,rfl,h,?_⟩;refine EJ (n:=1) (fun _=>k) (fun _=>.bl false) (fun _=>true) (AR (show 1<=1000 by decide)) (fun i g j d=>⟨d _ _ h,by lia⟩) (fun i g v' C j d y=>⟨y.2,y.1⟩) (fun g d=>⟨d _ _ h,rfl⟩) (fun i g R j d r=>by exact r g (AJ.refl g)) (fun i g R j d _ r=>?_) (fun D g N d E=>?_)
   ·refine⟨_,rfl,_,_,rfl,t.same d,S,fun G I=>?_⟩;rw[n];exact r G I
   ·exact⟨D,[false],rfl,BC.of (by rw[E];rfl),q _ d⟩
 ·cases node with
  |leaf h=>
   rcases h with⟨i,rfl,j⟩|⟨x,rfl,O⟩
   ·exact⟨_,rfl,.inl ⟨_,"list","int",rfl,rfl,.int i,_,rfl,Ac ⟨_,rfl,.inl ⟨_,"dict","int",rfl,rfl,.int i,_,rfl,Ac ⟨_,rfl,.inl ⟨_,"str","int",rfl,rfl,.int i,_,rfl,Ac ⟨_,rfl,_,_,rfl,.int i,q H (AJ.refl H)⟩⟩⟩⟩⟩⟩⟩
   ·refine⟨_,rfl,.inl ⟨_,"list","str",rfl,rfl,.str x,_,rfl,Ac ⟨_,rfl,.inl ⟨_,"dict","str",rfl,rfl,.str x,_,rfl,Ac ⟨_,rfl,.inl ⟨_,"str","str",rfl,rfl,.str x,_,rfl,Cc ?_⟩⟩⟩⟩⟩⟩;have l12:=Qj O;have L:(sgn x).all Fj=true:=by
     unfold Fp at O;simp only[Bool.and_eq_true]at O;exact O.2
    refine⟨_,rfl,x,rfl,AR (by lia),_,_,rfl,rfl,_,rfl,Ag (decide_eq_true (by lia)) ⟨_,rfl,x,rfl,by lia,fun C s=>?_⟩⟩;rw[L];exact q C s
  |row h=>exact⟨_,rfl,.inl ⟨_,"list","list",rfl,rfl,.lst h,_,rfl,Cc (q H (AJ.refl H))⟩⟩
  |@tab a J A h Z ky nm l=>
   refine⟨_,rfl,.inl ⟨_,"list","dict",rfl,rfl,.dK h,_,rfl,Ac ?_⟩⟩;refine⟨_,rfl,.inl ⟨_,"dict","dict",rfl,rfl,.dK h,_,rfl,Cc ?_⟩⟩;have V:J.length=A.length:=by
    have:=congrArg List.length Z;simpa using this
   have B:∀(i:Nat) k v,J[i]?=some (k,v)->i<A.length/\k=Sum.inr (A.getD i ""):=fun i k v e=>by
    have j:=(mq e).1;rw[V]at j;refine⟨j,?_⟩;have e2:=congrArg (fun z=>z[i]?) Z;simp only[List.getElem?_map,e,mn j]at e2;have e2:k=Sum.inr A[i]:=by simpa using e2
    rw[e2,List.getD_eq_getElem?_getD,mn j];rfl
   refine .inl ⟨a,_,h,fun o Hf F=>⟨_,rfl,a,o,_,rfl,F.at_,?_⟩⟩;refine EJ (n:=A.length) (fun i=>.str (A.getD i "")) (fun _=>.bl true) (fun _=>true) (AR (by lia)) (fun i g j d=>⟨d _ _ F.at_,by rw[V];exact j⟩) (fun i g v C j d y=>?_) (fun g d=>⟨d _ _ F.at_,V.symm⟩) (fun i g R j d r=>by exact r g (AJ.refl g)) (fun i g R j d _ r=>?_) (fun D g N d E=>?_)
   ·obtain⟨e,k,U,e1,e2⟩:=y;rw[(B i k U e1).2]at e2;exact⟨e2,e⟩
   ·have hm:A.getD i ""∈A:=by
     rw[List.getD_eq_getElem?_getD,mn j];exact List.getElem_mem j
    have hn:=nm _ hm;refine⟨_,rfl,_,"str",rfl,.str _,fun x e=>?_,fun G I=>?_⟩
    ·cases e;have:=(CK hn).2;lia
    ·have e:Jz (.str (A.getD i ""))=true:=hn;rw[e];exact r G I
   ·refine⟨d _ _ F.at_,?_⟩;have Da:D≠a:=(F.free N).2;have sb:=F.back d;refine⟨D,List.replicate A.length true,rfl,BC.of ?_,?_⟩
    ·rw[IE Da,E];congr 2;rw[List.filter_eq_self.mpr fun _ _=>rfl,List.map_replicate];refine List.ext_getElem (by simp) fun i h1 h2=>by simp
    ·have e:(List.replicate A.length true).all id=true:=by simp
     rw[e];exact q _ sb
theorem Rm{E:FuncData}(F:Fq K "is_doc" 9 f E)(T:Txt mg)(a:Df P w K mg base "is_sound" ["thing"] 3 KD)(c:Df P w K mg base "inner_of" ["doc"] 2 KG):AX P w K mg base BN 4 f E ["thing"] KH:=by
 refine F.oq ["thing","waiting","part"] fun H _ _ s u G h=>?_;obtain⟨v,b,n,k,rfl,tr,hn,q⟩:=h;refine⟨_,(AI (BZ 1 s (Aa (Au (pv 0)))) (AI (JZ PassesOwn.never (Jc (pv 1) (fun _=>rfl)) (AI (BZ 2 s (QQ PySem.F.plainAttrs_list PySem.F.slot_list_pop PySem.F.type_list_pop QU (pv 1))) (AI (Am (CD (BG (BW a G (Au (pv 2))))) (AE (AL Bb)) AU) (AE (Di (ip K (pv 1) (BW c G (Au (pv 2))))))))) (AE (AL Bb)))),?_⟩;refine⟨_,rfl,AN,fun L C=>?_⟩;have X:=AJ.new (o:=.lst [v]) C;dsimp only[Eb,OK];refine NI (fun m D y=>∃(g:List V)(I:Option V),D=[some v,some (.ref L),I]/\AJ H y/\y L=some (.lst g)/\B_ H b m k g/\m<=n)
  n ⟨[v],none,rfl,X,AG,B_.one tr,Nat.le_refl _⟩ ?_ (fun D H Q Q' h ⟨v,e,k,t,q⟩=>⟨v,e,k,t,h _ _ q⟩)
 rintro m D y _ go ⟨g,I,rfl,J,i,M,hm⟩;refine⟨_,rfl,_,.inl ⟨_,BC.of i,rfl⟩,?_⟩;by_cases j:g=[]
 ·subst j;cases M;exact Ac (q y J)
 ·obtain⟨l,x,rfl⟩:∃l x,g=l++[x]:=⟨g.dropLast,g.getLast j,(List.dropLast_concat_getLast j).symm⟩;refine Ag (by simp) ?_;obtain⟨c1,Y,c2,m2,N,O,e1,e2⟩:=M.split;have Z:=B_.eG O;have lu:=N.len;refine⟨_,rfl,.inl ⟨rfl,_,BC.of i⟩,L,_,x,rfl,rfl,i,by simp,?_⟩;have dl:(l++[x]).dropLast=l:=by simp
  rw[dl];have z:AJ H (upd y L (.lst l)):=J.put C;clear O;cases Z with
  |odd u f=>
   have hb:b=false:=by rw[e1];simp
   rw[hb]at q;exact⟨_,rfl,x,rfl,.inl ⟨u.up z,fun R d=>⟨_,rfl,Ag rfl (go.r (q R (z.trans d)))⟩⟩⟩
  |@node _ n' k' _ A B S=>
   have li:=S.len;refine⟨_,rfl,x,rfl,.inr ⟨A,B.up z,by lia,fun R d=>⟨_,rfl,Af rfl ?_⟩⟩⟩;refine⟨_,rfl,.inl ⟨rfl,_,BC.of (d _ _ AG)⟩,_,rfl,x,A,rfl,(B.up z).up d,by lia,fun p es H2 U np hp perm=>?_⟩;have te:=(B_.perm perm.symm (S.deeper (Nat.le_succ _)));have le:=perm.length_eq;refine⟨L,p,_,_,rfl,rfl,U _ _ (d _ _ AG),hp,AR (by lia),go.n ⟨Y+n',by lia,l++es,_,rfl,((z.trans d).trans U).put C,AG,(N.append te).cast e1.symm rfl,by lia⟩⟩
end
end Ba
namespace Ba
open PySem L2
end Ba
namespace Ba
open PySem L2
section
variable{P:Program} {w:World} {K:mw} {mg:Str->Option Value} {base:Heap}
theorem Lx{f:Addr}{n:FuncData}(F:Fq K "steps_of" 11 f n)(T:Txt mg):AX P w K mg base BN 1 f n ["doc"] Fv:=by
 refine F.oq ["doc"] fun H _ _ _ _ g h=>?_;obtain⟨v,c,rfl,node,C,q⟩:=h;refine⟨_,(AI (Am (BG (HX Ai T (pv 0) T.list Fo)) (AE (AL (DI (Gk rfl) rfl T.list Fo (Au (Qq rfl T.range (Au (J' K T (pv 0)))))))) AU) (AI (Am (BG (HX Ai T (pv 0) T.dict IC)) (AE (AL (Aq (IB rfl) rfl T.sorted Qi (Au (pv 0))))) AU) (AE (AL (Aa AB))))),?_⟩;cases node with
 |leaf h=>
  rcases h with⟨i,rfl,_⟩|⟨x,rfl,_⟩
  ·refine⟨_,rfl,_,"list","int",rfl,rfl,.int i,_,rfl,Ac ⟨_,rfl,_,"dict","int",rfl,rfl,.int i,_,rfl,Ac ?_⟩⟩;exact⟨Nat.zero_le _,fun p b=>q p [] [] _ (AJ.new b) b AG (.refl _) rfl (fun i e h=>by simp at h)⟩
  ·refine⟨_,rfl,_,"list","str",rfl,rfl,.str x,_,rfl,Ac ⟨_,rfl,_,"dict","str",rfl,rfl,.str x,_,rfl,Ac ?_⟩⟩;exact⟨Nat.zero_le _,fun p b=>q p [] [] _ (AJ.new b) b AG (.refl _) rfl (fun i e h=>by simp at h)⟩
 |@row a D h=>
  refine⟨_,rfl,_,"list","list",rfl,rfl,.lst h,_,rfl,Cc ?_⟩;refine⟨_,rfl,a,_,rfl,.inl (.inl h),_,rfl,fun r g=>?_⟩;refine⟨r,c.length,rfl,AG,by lia,fun p b=>?_⟩;exact q p _ c _ ((AJ.new g).trans (AJ.new b)) ((AJ.new g).free b) AG (.refl _) (by simp) (fun i e d=>⟨_,by rw[List.getElem?_map,List.getElem?_range (mq d).1];rfl,.inl ⟨a,c,i,rfl,h,rfl,d⟩⟩)
 |@tab a j t h o m E l=>
  refine⟨_,rfl,_,"list","dict",rfl,rfl,.dK h,_,rfl,Ac ?_⟩;refine⟨_,rfl,_,"dict","dict",rfl,rfl,.dK h,_,rfl,Cc ?_⟩;refine⟨_,rfl,a,_,t,rfl,h,o,l,fun p u y z s b perm A=>?_⟩;obtain⟨B,e1,e2,e3⟩:=Qz o m perm;exact q p _ B y s z b e1 (by rw[List.length_map];exact e2) (fun i e d=>by
   obtain⟨k,k1,k2⟩:=e3 i e d;exact⟨.str k,by rw[List.getElem?_map,k1];rfl,.inr ⟨a,j,k,rfl,h,rfl,k2⟩⟩)
theorem Ly{f:Addr}{E:FuncData}(F:Fq K "inner_of" 12 f E)(T:Txt mg)(b:Df P w K mg base "steps_of" ["doc"] 1 Fv):AX P w K mg base BN 2 f E ["doc"] KG:=by
 refine F.oq ["doc"] fun H _ _ _ u N h=>?_;obtain⟨v,z,rfl,node,G,q⟩:=h;refine⟨_,(AE (AL (cmp ["doc"] [0] (Hm (BW b N (Au (pv 0)))) fun _ _ _ _=>(Ft (PM K (pv 1) (pv 0)) (bM u (pv 1) (pv 0)))))),?_⟩;refine⟨_,rfl,v,z,rfl,node,G,fun p l s Y A Z t I B O=>?_⟩;have Q:l.length<=900:=by rw[<-B,I.length_eq];exact G
 have J:∀{i:Nat}{x:V},l[i]?=some x->l.getD i .Aj=x:=fun h=>by rw[List.getD_eq_getElem?_getD,h];rfl
 refine⟨p,rfl,⟨_,BC.of t⟩,?_⟩;refine HD (n:=l.length) (fun i=>l.getD i .Aj) (fun i=>s.getD i .Aj) (fun _=>true) (AR (by lia)) (fun i D d m c=>⟨_,_,(AJ.new c).seq (BC.of t),mn m⟩) (fun i D d v H' m c y=>?_) (fun D d c=>⟨_,(AJ.new c).seq (BC.of t),Nat.le_refl _⟩) (fun i D d R m c r=>by exact r) (fun i D d R m c _ r=>?_) (fun D c=>?_)
 ·obtain⟨e,y⟩:=y;exact⟨(J (y _ ((AJ.new c).seq (BC.of t)))).symm,e⟩
 ·obtain⟨x,L⟩:∃x,s[i]?=some x:=⟨_,mn (by rw[B];exact m)⟩;have S:s.getD i .Aj=x:=by rw[List.getD_eq_getElem?_getD,L];rfl
  rw[S]at r;have M:=A.trans (AJ.new (o:=.lst d) c);obtain⟨st,C,g⟩:=O i x L;rw[J C];rcases g with⟨a,xs,j,rfl,h,rfl,e2⟩|⟨a,U,k,rfl,h,rfl,e2⟩
  ·exact .inl ⟨_,rfl,_,rfl,a,_,_,_,rfl,rfl,.inl (h.up (M _)),BJ e2,r⟩
  ·refine .inr ⟨_,rfl,_,rfl,a,x,rfl,?_,r⟩;rw[<-e2];exact .inl ⟨_,Sum.inr k,h.up (M _),rfl,rfl⟩
 ·refine q D s _ (A.trans (AJ.new c)) (A.free c) ?_ I;rw[AG];congr 2;rw[List.filter_eq_self.mpr fun _ _=>rfl];refine List.ext_getElem (by simp[B]) fun i h1 X=>?_;simp only[List.getElem_map,List.getElem_range];rw[List.getD_eq_getElem?_getD,mn X];rfl
end
end Ba
namespace Ba
open PySem L2
end Ba
namespace Ba
open PySem L2
end Ba
namespace Ba
open PySem L2
variable{f:Addr}
section
variable{P:Program} {w:World} {K:mw} {mg:Str->Option Value} {base:Heap}
theorem Ek:B' ["doc"] ["doc"] (AO Ls):={}
theorem Ib{e:FuncData}(F:Fq K "outer_copy" 15 f e)(T:Txt mg):AX P w K mg base BN 1 f e ["doc"] RV:=by
 refine F.ok Ek (fun g H Q E h=>?_) (fun i A outer s H g j E r m h=>?_)
 ·cases h<;>(subst_vars;rfl)
 ·have nd:=Ek.nd;have t:=M' m;refine⟨_,(AI (Am (BG (HX Ai T (pv 0) T.list Fo)) (AE (AL (DI Hw rfl T.list Fo (Au (pv 0))))) AU) (AI (Am (BG (HX Ai T (pv 0) T.dict IC)) (AE (AL (DI Fu rfl T.dict IC (Au (pv 0))))) AU) (AE (AL (pv 0))))),?_⟩;have n:FG g H j.rt:=h;clear h;cases n with
  |int b q=>
   subst b;exact⟨_,rfl,_,"list","int",rfl,rfl,.int 1,_,rfl,Ac ⟨_,rfl,_,"dict","int",rfl,rfl,.int 1,_,rfl,Ac ⟨_,rfl,q⟩⟩⟩
  |f_ v k b o q=>
   subst b;cases o with
   |@str x l=>exact⟨_,rfl,_,"list","str",rfl,rfl,.str x,_,rfl,Ac ⟨_,rfl,_,"dict","str",rfl,rfl,.str x,_,rfl,Ac ⟨_,rfl,q _ H (AJ.refl H) (fun _ z=>nomatch z) (.str l)⟩⟩⟩
   |@one a h=>exact⟨_,rfl,_,"list","list",rfl,rfl,.lst (.inl h),_,rfl,Cc ⟨_,rfl,a,_,rfl,.inl (.inl (.inl h)),.mk fun p c d s f=>q _ c s (fun _ z=>by cases z;exact d) (.one f)⟩⟩
   |@emp a h=>exact⟨_,rfl,_,"list","dict",rfl,rfl,.dK (.inl h),_,rfl,Ac ⟨_,rfl,_,"dict","dict",rfl,rfl,.dK (.inl h),_,rfl,Cc ⟨_,rfl,a,_,rfl,.inl h,.mk fun p c d s f=>q _ c s (fun _ z=>by cases z;exact d) (.emp f)⟩⟩⟩
theorem PQ{fd:FuncData}(F:Fq K "copy_of" 16 f fd)(T:Txt mg)(c:Df P w K mg base "steps_of" ["doc"] 1 Fv)(b:Df P w K mg base "outer_copy" ["doc"] 1 RV):AX P w K mg base BN 2 f fd ["doc"] Cg:=by
 refine F.oq ["doc","told","waiting","part","steps","step"] fun H _ _ y B E h=>?_;obtain⟨v,k,rfl,hv,q⟩:=h;refine⟨_,(AI (BZ 1 y (BW b E (Au (pv 0)))) (AI (BZ 2 y (Aa (Au (pv 1)))) (AI (JZ PassesOwn.never (Jc (pv 2) (fun _=>rfl)) (AI (BZ 3 y (QQ PySem.F.plainAttrs_list PySem.F.slot_list_pop PySem.F.type_list_pop QU (pv 2))) (AI (BZ 4 y (BW c E (Au (pv 3)))) (AE (ck (Hm (pv 4)) (HW 5 y) (AI (Xg (QC (BW b E (Au (Ft (PM K (pv 3) (pv 5)) (bM B (pv 3) (pv 5))))) (W' (pv 3) (pv 5) set_list)) (Tw B (pv 3) (pv 5) (BW b E (Au (Ft (PM K (pv 3) (pv 5)) (bM B (pv 3) (pv 5))))) rfl)) (AE (Di (fZ K (pv 2) (Ft (PM K (pv 3) (pv 5)) (bM B (pv 3) (pv 5)))))))))))) (AE (AL (pv 1)))))),?_⟩;refine⟨_,rfl,.f_ v k rfl hv fun C H1 s1 n1 t1=>⟨_,rfl,AN,.mk fun L H2 hL s2 fL=>?_⟩⟩;have nL:H L=none:=s1.free hL;have Y:C≠.ref L:=fun z=>by cases t1<;>cases z<;>(rw[hL]at*;contradiction)
 dsimp only[Eb,OK];refine NI (fun m d r=>∃(G:List V)(o3 o4 D:Option V),d=[some v,some C,some (.ref L),o3,o4,D]/\AJ H r/\Dy r C k/\r L=some (.lst G)/\((G=[]/\m=0)∨(G=[.int 1]/\m=1)∨(G=[C]/\m=2)))
  2 ⟨[C],none,none,none,rfl,s1.trans s2,t1.up s2,fL,.inr (.inr ⟨rfl,rfl⟩)⟩ ?_ (fun d H Q Q' h ⟨v,e,k,t,q⟩=>⟨v,e,k,t,h _ _ q⟩)
 rintro m d r _ I ⟨G,o3,o4,D,rfl,sw,Z,eL,O⟩;refine⟨_,rfl,_,.inl ⟨_,BC.of eL,rfl⟩,?_⟩;rcases O with⟨rfl,rfl⟩|O
 ·exact Ac ⟨_,rfl,q C r sw Z⟩
 have J:AJ H (upd r L (.lst [])):=sw.put nL;have M:Dy (upd r L (.lst [])) C k:=by
  cases Z with
  |str l=>exact .str l
  |one h=>exact .one (by rw[AK (fun z=>Y (by rw[z]))];exact h)
  |emp h=>exact .emp (by rw[AK (fun z=>Y (by rw[z]))];exact h)
 obtain⟨pv,A,rfl,jM,hc⟩:∃pv A,G=[pv]/\Node (upd r L (.lst [])) pv A/\((A=[]/\0<m)∨(∃a,pv=.ref a/\C=.ref a/\k=.o/\m=2/\A=[.int 1]/\upd r L (.lst []) a=some (.lst [.int 1]))):=by
  rcases O with⟨rfl,rfl⟩|⟨rfl,rfl⟩
  ·exact⟨.int 1,[],rfl,.leaf (.inl ⟨1,rfl,by decide⟩),.inl ⟨rfl,by decide⟩⟩
  ·cases M with
   |str l=>exact⟨_,_,rfl,.leaf (.inr ⟨_,rfl,l⟩),.inl ⟨rfl,by decide⟩⟩
   |one h=>exact⟨_,_,rfl,.row (.inl h),.inr ⟨_,rfl,rfl,rfl,rfl,rfl,h⟩⟩
   |emp h=>exact⟨_,_,rfl,.tab (ks:=[]) (.inl h) rfl .nil (fun _ z=>nomatch z) (by decide),.inl ⟨rfl,by decide⟩⟩
 clear O Z;refine Ag rfl ⟨_,rfl,.inl ⟨rfl,_,BC.of eL⟩,L,_,pv,rfl,rfl,eL,rfl,?_⟩;refine⟨_,rfl,pv,A,rfl,jM,by rcases hc with⟨rfl,_⟩|⟨_,_,_,_,_,rfl,_⟩<;>decide,fun p l es H3 N np R pm ll gt=>?_⟩;have e3:=N _ _ (AG (H:=r) (a:=L) (o:=.lst []));rcases hc with⟨rfl,hm⟩|⟨a,rfl,rfl,rfl,rfl,rfl,ha⟩
 ·cases List.perm_nil.mp pm;cases List.eq_nil_of_length_eq_zero ll.symm;refine⟨_,rfl,p,rfl,⟨_,BC.of R⟩,Ja (xs:=[]) (fun i d s=>∃D,d=[some v,some C,some (.ref L),some pv,some (.ref p),D]/\s=H3) ⟨_,rfl,rfl⟩ (fun i d s _ ⟨_,_,e⟩=>by rw[e];exact BC.of R) (fun i x d s _ go S=>by simp at S) ?_⟩;rintro d s ⟨D,rfl,rfl⟩;exact I.n ⟨0,hm,[],_,_,_,rfl,J.trans N,M.up N,e3,.inl ⟨rfl,rfl⟩⟩
 ·cases List.perm_singleton.mp pm;obtain⟨z,rfl⟩:∃z,l=[z]:=by
   rcases l with _|⟨z,l⟩
   ·cases ll
   ·exact⟨z,by rw[List.eq_nil_of_length_eq_zero (Nat.succ.inj ll.symm)]⟩
  obtain⟨_,hz,g⟩:=gt 0 _ rfl;cases hz;have hz:z=.int 0:=by
   have E:∀{u:HO},Rd (upd r L (.lst [])) a u->u=.lst [.int 1]:=fun h=>by
    rcases h with h|⟨_,h⟩<;>rw[ha]at h<;>cases h;rfl
   rcases g with⟨a',xs,j,e,h,rfl,hj⟩|⟨a',kvs,k,e,h,_⟩
   ·cases e;cases E h;rcases j with _|j
    ·rfl
    ·cases hj
   ·cases e;cases E h
  subst hz;have a3:=N _ _ ha;have aL:a≠L:=fun z=>Y (by rw[z]);have pa:p≠a:=Ne.symm (Ak ha np);have pL:p≠L:=Ne.symm (Ak (AG (H:=r) (a:=L) (o:=.lst [])) np);have nA:H a=none:=n1 a rfl;refine⟨_,rfl,p,rfl,⟨_,BC.of R⟩,Ja (xs:=[.int 0]) (fun i d s=>∃D,d=[some v,some (.ref a),some (.ref L),some (.ref a),some (.ref p),D]/\AJ H s/\s a=some (.lst [.int 1])/\s L=some (.lst (List.replicate i (.int 1)))/\s p=some (.lst [.int 0]))
   ⟨_,rfl,J.trans N,a3,e3,R⟩ (fun i d s _ ⟨_,_,_,_,_,e⟩=>BC.of e) ?_ ?_⟩
  ·rintro i x d s _ go S ⟨D,rfl,si,U,X,pi⟩;rcases i with _|i
   ·cases S;refine .inl (.inl ⟨_,rfl,_,rfl,a,_,_,_,rfl,rfl,BC.of U,rfl,.int rfl ⟨_,rfl,_,rfl,a,_,_,0,rfl,rfl,U,rfl,?_⟩⟩);refine⟨_,rfl,.inl ⟨rfl,_,BC.of (by rw[AK (Ne.symm aL)];exact X)⟩,.inl ⟨_,rfl,_,rfl,a,_,_,.int 1,rfl,rfl,BC.of AG,rfl,L,_,_,rfl,rfl,by rw[AK (Ne.symm aL)];exact X,BK (by decide),?_⟩⟩;exact go.n ⟨_,rfl,(si.put nA).put nL,by rw[AK aL];exact AG,AG,by rw[AK pL,AK pa];exact pi⟩
   ·cases i<;>cases S
  ·rintro d s ⟨D,rfl,si,U,X,pi⟩;exact I.n ⟨1,by decide,[.int 1],_,_,_,rfl,si,.one U,X,.inr (.inl ⟨rfl,rfl⟩)⟩
theorem PR{j:FuncData}(F:Fq K "is_step" 27 f j)(T:Txt mg)(c:Df P w K mg base "is_whole" ["thing"] 1 IF)(d:Df P w K mg base "is_name" ["thing"] 2 Lg):AX P w K mg base BN 3 f j ["thing"] WU:=by
 refine F.oq ["thing"] fun H _ _ _ _ k h=>?_;obtain⟨v,T,rfl,ty,m,q⟩:=h;refine⟨_,(AE (AL (Mm (BW d k (Au (pv 0))) (Bd (Bp (BW c k (Au (pv 0))) (Bd (Bh WJ (pv 0) AD (AY _)))))))),?_⟩;refine⟨v,rfl,v,T,rfl,ty,m,fun n l=>⟨_,rfl,?_⟩⟩;have a:=ty.same l;have g:=q n l;cases ty with
 |str x=>
  refine Jl (fun h=>by rw[show BP (.str x)=true from h]at g;exact g) fun h=>⟨_,rfl,_,_,rfl,a,_,rfl,Ac ?_⟩;have e:BP (.str x)=false:=Bool.not_eq_true _|>.mp h;rw[e]at g;exact g
 |int i=>exact Ac ⟨_,rfl,_,_,rfl,a,_,rfl,Cc ⟨_,rfl,_,_,rfl,rfl,g⟩⟩
 |Aj=>exact Ac ⟨_,rfl,_,_,rfl,a,_,rfl,Ac g⟩
 |bl b=>exact Ac ⟨_,rfl,_,_,rfl,a,_,rfl,Ac g⟩
 |lst e=>exact Ac ⟨_,rfl,_,_,rfl,a,_,rfl,Ac g⟩
 |tup e=>exact Ac ⟨_,rfl,_,_,rfl,a,_,rfl,Ac g⟩
 |dK e=>exact Ac ⟨_,rfl,_,_,rfl,a,_,rfl,Ac g⟩
theorem PU{k:FuncData}(F:Fq K "is_path" 28 f k)(T:Txt mg)(b:Df P w K mg base "is_step" ["thing"] 3 WU):AX P w K mg base BN 4 f k ["thing"] WV:=by
 refine F.oq ["thing"] fun H _ _ _ _ s h=>?_;obtain⟨v,p,rfl,u,q⟩:=h;refine⟨_,(AE (AL (Bp (HX Ai T (pv 0) T.tuple ND) (Bd (Aq (Dt rfl) rfl T.all NF (Au (cmp [] [] (QE (pv 0)) fun _ _ _ _=>(BW b s (Au (pv 0)))))))))),?_⟩;cases u with
 |@no _ T t n=>exact⟨_,rfl,_,"tuple",T,rfl,rfl,t,_,rfl,by rw[n];exact Ac (q H (AJ.refl H))⟩
 |@tup a d h l z=>
  refine⟨_,rfl,_,"tuple",_,rfl,rfl,.tup h,_,rfl,Cc ⟨_,rfl,a,rfl,⟨_,BA.of h⟩,?_⟩⟩;refine Cz (n:=d.length) (fun i=>d.getD i .Aj) (fun i v=>∃x,d[i]?=some x/\v=.bl (BP x)) (AR (Nat.le_trans l (by decide))) (fun i g j c=>⟨_,_,BA.of (c _ _ h),mn j⟩) (fun i g v I j c y=>?_) (fun g c=>⟨_,BA.of (c _ _ h),Nat.le_refl _⟩) (fun i g R j c r=>?_) (fun A g J B c m C or=>?_)
  ·obtain⟨e,y⟩:=y;have:=y _ (BA.of (c _ _ h));exact⟨by rw[List.getD_eq_getElem?_getD,this];rfl,e⟩
  ·have o:d[i]?=some (d.getD i .Aj):=by rw[List.getD_eq_getElem?_getD,mn j];rfl
   obtain⟨⟨T,t⟩,D⟩:=z _ (mu o);exact⟨_,rfl,_,T,rfl,t.same c,D,fun E G=>r _ E G ⟨_,o,rfl⟩⟩
  ·rw[KO (ps:=d) (f:=BP) C or]at m;have e:(d.map BP).all id=d.all BP:=by rw[List.all_map];rfl
   exact⟨A,_,rfl,BC.of m,by rw[e];exact q g c⟩
end
end Ba
namespace Ba
open PySem L2
end Ba
namespace Ba
open PySem L2
end Ba
namespace Ba
open PySem L2
section
variable{P:Program} {w:World} {K:mw} {mg:Str->Option Value} {base:Heap}
def KR:Sp:=fun f H Q _=>∃(a b:Addr)(c d:List V),f=[.ref a,.ref b]/\H a=some (.tup c)/\H b=some (.tup d)/\(∀z∈c,BI z=true)/\(∀z∈d,BI z=true)/\∀e,AJ H e->Q (.bl (Gj (d.take c.length) c)) e
theorem PV{f:Addr}{c:FuncData}(F:Fq K "begins" 31 f c)(T:Txt mg):AX P w K mg base BN 1 f c ["one","other"] KR:=by
 refine F.oq ["one","other"] fun H _ _ _ _ i h=>?_;obtain⟨a,b,r,j,rfl,d,k,l,m,q⟩:=h;refine⟨_,(AE (AL (Bh (Lb (Av.EF i)) (Bt E_ (pv 1) DJ (CA (J' K T (pv 0)))) (pv 0) (AY _)))),?_⟩;refine⟨_,rfl,_,rfl,a,_,rfl,.inr (BA.of d),_,rfl,b,j,rfl,k,fun p n e g=>?_⟩;rw[Hz]at g;exact⟨_,rfl,p,a,_,_,rfl,rfl,BA.of g,BA.of (e _ _ d),fun z o=>m z (List.mem_of_mem_take o),l,q n e⟩
end
end Ba
namespace Ba
open PySem L2
end Ba
namespace Ba
open PySem L2
end Ba
namespace Ba
open PySem L2
end Ba
namespace Ba
open PySem L2
end Ba
namespace Ba
open PySem L2
end Ba
namespace Ba
open PySem L2
end Ba
namespace Ba
open PySem L2
end Ba
namespace Ba
open PySem L2
variable{f C:Addr}{c fd i d B:FuncData}{cl:Nat->Addr}
section
variable{P:Program} {w:World} {K:mw} {mg:Str->Option Value} {base:Heap}
theorem Lz{d:Addr}{A:FuncData}(F:Fq K "has_form" 57 f A)(T:Txt mg)(g:mg "LENGTHS"=some (.ref d))(j:O_ P w K d Lo):AX P w K mg base BN 2 f A ["thing"] RS:=by
 refine F.oq ["thing"] fun H _ _ _ _ E h=>?_;obtain⟨v,p,rfl,B,q⟩:=h;refine⟨_,(AI (Am (PW.pt (pw_or (CD (BG (HX Ai T (pv 0) T.tuple ND))) (pw_or1 (AV (Uc (Av.EF E)) (pv 0) (AF AB) (AY _))))) (AE (AL Bb)) AU) (AE (AL (Bp (HX Ai T (FI K 0) T.str Fn) (Bp (Ww (Ud j (FI K 0) (Ay (v:=.ref d) rfl g rfl))) (Bd (Bh Bk (J' K T (pv 0)) (RP j (Ay (v:=.ref d) rfl g rfl) (FI K 0) (fun _ _=>rfl)) (AY _)))))))),?_⟩;refine Ld (t:=Td _ _ _) (fun G=>AJ H G/\∃a x r,v=.ref a/\H a=some (.tup (x::r))/\p=some (x::r)) (fun s ⟨u,a,x,r,I,J,e⟩=>?_) (fun key=>?_);rotate_left
 ·cases B with
  |@no _ T t n=>exact⟨_,rfl,_,"tuple",T,rfl,rfl,t,_,rfl,Ag (by rw[n];rfl) (Ag rfl (q H (AJ.refl H)))⟩
  |@tup a C h l D=>
   refine⟨_,rfl,_,"tuple",_,rfl,rfl,.tup h,_,rfl,Af rfl ⟨_,rfl,Nat.zero_le _,.mk fun y s M z L=>⟨a,y,C,rfl,rfl,BA.of (z _ _ h),BA.of L,_,rfl,?_⟩⟩⟩;cases C with
   |nil=>exact Ag rfl (q s z)
   |cons x r=>exact Af rfl (key _ ⟨z,a,x,r,rfl,h,rfl⟩)
 ·subst I e;cases B with
  |@tup _ _ h l D=>
   obtain⟨T,t⟩:=D x rfl;have m:=u _ _ J;have c:=q s u;refine⟨_,rfl,a,_,0,_,rfl,rfl,BA.of m,WR,_,"str",T,rfl,rfl,t.same u,_,rfl,?_⟩;cases t with
   |str w=>
    refine Cc ⟨_,rfl,a,_,0,_,rfl,rfl,BA.of m,WR,.inr w,_,rfl,rfl,rfl,_,rfl,?_⟩;have y:Br (some (.str w::r))=(match Be Lo (.inr w)with|some (.int k)=>decide (((r.length+1:Nat):Int)=k)|_=>false):=rfl;rw[y]at c;cases o:Be Lo (.inr w)with
    |none=>
     rw[o]at c;exact Af rfl c
    |some k=>
     rw[o]at c;refine Ag rfl ⟨_,rfl,a,_,rfl,.inr (BA.of m),_,rfl,a,_,0,_,rfl,rfl,BA.of m,WR,.inr w,k,rfl,rfl,o,?_⟩;obtain⟨i,rfl⟩:=RQ o;refine⟨rfl,?_⟩;have e1:decide (V.int ((V.str w::r).length:Int)=V.int i)=decide (((r.length+1:Nat):Int)=i):=by rw[Bool.eq_iff_iff];simp
     rw[e1];exact c
   |int i=>exact Ac c
   |Aj=>exact Ac c
   |bl b=>exact Ac c
   |lst e=>exact Ac c
   |tup e=>exact Ac c
   |dK e=>exact Ac c
theorem Ic{C:FuncData}(F:Fq K "is_row_path" 58 f C)(T:Txt mg)(d:Df P w K mg base "is_path" ["thing"] 4 WV)(G:∃t,mg "LONGEST_PATH"=some (.int 12 t))(I:∃t,mg "GREATEST_PLACE"=some (.int 20 t)):AX P w K mg base BN 5 f C ["thing"] X':=by
 obtain⟨J,u⟩:=G;obtain⟨L,M⟩:=I;refine F.oq ["thing"] fun H _ _ _ _ N h=>?_;obtain⟨v,p,rfl,D,q⟩:=h;refine⟨_,(AI (Am (PW.pt (pw_or (CD (BG (BW d N (Au (pv 0))))) (pw_or1 (AV WI (J' K T (pv 0)) (Ay (v:=.int 12) rfl u ⟨J,rfl⟩) (AY _))))) (AE (AL Bb)) AU) (AE (AL (Aq (Dt rfl) rfl T.all NF (Au (cmp [] [] (QE (pv 0)) fun _ _ _ _=>(Mm (HX Ai T (pv 0) T.str Fn) (Bd (Bh Mr (pv 0) (Ay (v:=.int 20) rfl M ⟨L,rfl⟩) (AY _)))))))))),?_⟩;refine⟨v,rfl,v,p,rfl,D,fun B k=>?_⟩;cases D with
 |@no _ T t n=>exact⟨_,rfl,Ag rfl (Ag rfl (q B k))⟩
 |@tup a c h l O=>
  have m:=k _ _ h;have Q:Co (some c)=(c.all BP&&decide (c.length<=12)&&c.all Bg):=rfl;rw[Q]at q;cases o:c.all BP with
  |false=>
   rw[o]at q;exact⟨_,rfl,Ag (by show(!c.all BP)=true;rw[o];rfl) (Ag rfl (q B k))⟩
  |true=>
   rw[o]at q;refine⟨_,rfl,Af (by show(!c.all BP)=false;rw[o];rfl) ⟨_,rfl,a,c,rfl,.inr (BA.of m),_,_,rfl,rfl,_,rfl,?_⟩⟩;by_cases u:c.length<=12
   ·rw[decide_eq_true u]at q;refine Af (decide_eq_false (by lia)) ⟨_,rfl,a,rfl,⟨_,BA.of m⟩,?_⟩;refine Cz (n:=c.length) (fun i=>c.getD i .Aj) (fun i v=>∃x,c[i]?=some x/\v=.bl (Bg x)) (AR (Nat.le_trans l (by decide))) (fun i j z g=>⟨_,_,BA.of (g _ _ m),mn z⟩) (fun i j v Y z g y=>?_) (fun j g=>⟨_,BA.of (g _ _ m),Nat.le_refl _⟩) (fun i j R z g r=>?_) (fun S j Z U g E V or=>?_)
    ·obtain⟨e,y⟩:=y;have:=y _ (BA.of (g _ _ m));exact⟨by rw[List.getD_eq_getElem?_getD,this];rfl,e⟩
    ·have A:c[i]?=some (c.getD i .Aj):=by rw[List.getD_eq_getElem?_getD,mn z];rfl
     have s:=List.all_eq_true.mp o _ (mu A);obtain⟨⟨T,t⟩,sh⟩:=O _ (mu A);generalize c.getD i .Aj=x at*;have X:=(t.same k).same g;refine⟨_,rfl,_,"str",T,rfl,rfl,X,_,rfl,?_⟩;cases t with
     |str x=>exact Cc (r _ j (AJ.refl _) ⟨_,A,rfl⟩)
     |int i=>exact Ac ⟨_,rfl,_,_,rfl,rfl,r _ j (AJ.refl _) ⟨_,A,rfl⟩⟩
     |Aj=>cases s
     |bl b=>cases s
     |lst e=>cases s
     |tup e=>cases s
     |dK e=>cases s
    ·rw[KO (ps:=c) (f:=Bg) V or]at E;have e:(c.map Bg).all id=c.all Bg:=by rw[List.all_map];rfl
     exact⟨S,_,rfl,BC.of E,by rw[e];exact q j (k.trans g)⟩
   ·rw[decide_eq_false u]at q;exact Ag (decide_eq_true (by lia)) (q B k)
theorem Gq{g:Addr}{J:FuncData}(F:Fq K "may_be_first" 59 f J)(T:Txt mg)(b:Df P w K mg base "is_row_path" ["thing"] 5 X')(B:mg "WORDS_WITHIN"=some (.ref g))(bO:KC K g Cf=true):AX P w K mg base BN 6 f J ["word","thing"] WW:=by
 refine F.oq ["word","thing"] fun H _ _ _ _ L h=>?_;obtain⟨j,v,p,rfl,C,q⟩:=h;refine⟨_,(AI (Am (PW.pt (pw_or (CD (BG (BW b L (Au (pv 1))))) (pw_or1 (PW.pt (pw_and (AV (DK:Cq _ _ (aQ K false)) (pv 0) (Ay (v:=.ref g) rfl B rfl) rfl) (pw_and1 (AV (Lb (Av.EF L)) (pv 1) (AF AB) (AY _)))))))) (AE (AL Bb)) AU) (AE (AL (Mm (Bh WH (pv 0) AH (AY _)) (Bd (HX Ai T (BH (r:=Ts K) LI (pv 1) (Mn Hn AD) (fun _ _=>rfl)) T.str Fn)))))),?_⟩;refine Ld (t:=Td _ _ _) (fun N=>AJ H N/\∃c,p=some c/\Co p=true/\(Pz (.str j) (Cf.map V.str)&&c.isEmpty)=false) (fun m ⟨u,c,e,d,D⟩=>?_) (fun key=>?_);rotate_left
 ·refine⟨v,rfl,v,p,rfl,C,fun M k=>?_⟩;cases C with
  |@no _ T t n=>exact⟨_,rfl,Ag rfl (Ag rfl (q M k))⟩
  |@tup a c h l O=>
   have Q:=k _ _ h;cases d:Co (some c)with
   |false=>
    have e:Ey j (some c)=false:=by simp[Ey,d]
    rw[e]at q;exact⟨_,rfl,Ag rfl (Ag rfl (q M k))⟩
   |true=>
    refine⟨_,rfl,Af rfl ⟨_,rfl,g,_,rfl,.inr (BA.aq bO _),rfl,rfl,_,rfl,?_⟩⟩;show if Pz (.str j) (Cf.map V.str)=true then _ else _;have R:∀z∈c,BI z=true:=fun z E=>FE d z E;cases hw:Pz (.str j) (Cf.map V.str)with
    |false=>exact Af rfl (Af rfl (key _ ⟨k,c,rfl,d,by rw[hw];rfl⟩))
    |true=>
     refine Ag rfl ⟨_,rfl,Nat.zero_le _,.mk fun G m Y I S=>⟨a,G,c,[],rfl,rfl,BA.of (I _ _ Q),BA.of S,R,fun z E=>(nomatch E),_,rfl,?_⟩⟩;cases c with
     |nil=>
      have e:Ey j (some [])=false:=by simp[Ey,hw]
      rw[e]at q;exact Ag rfl (q m (k.trans I))
     |cons x r=>exact Af (by unfold Gj;simp) (key _ ⟨k.trans I,x::r,rfl,d,by rw[hw];rfl⟩)
 ·subst e;cases C with
  |@tup a _ h l O=>
   have G:Ey j (some c)=(!decide (j="lacks")||Cm c):=by simp[Ey,d,D]
   rw[G]at q;refine⟨_,rfl,rfl,_,rfl,?_⟩;by_cases hw:j="lacks"
   ·subst hw;have o:c≠[]:=fun z=>by rw[z]at D;cases D
    obtain⟨A,x,rfl⟩:∃A x,c=A++[x]:=⟨c.dropLast,c.getLast o,(List.dropLast_concat_getLast o).symm⟩;have U:∀y,Cm (A++[y])=(match y with| .str _=>true|_=>false):=fun y=>by unfold Cm;rw[List.getLast?_concat];cases y<;>rfl
    rw[U]at q;have X:=DP d x (List.mem_append_right _ (List.mem_singleton.mpr rfl));refine Af rfl ⟨_,rfl,1,rfl,a,_,-1,x,rfl,rfl,BA.of (u _ _ h),Jg A x,?_⟩;rcases X with⟨s,rfl,_⟩|⟨i,rfl,_⟩
    ·exact⟨_,"str",_,rfl,rfl,.str s,q m u⟩
    ·exact⟨_,"str",_,rfl,rfl,.int i,q m u⟩
   ·have e1:decide (j="lacks")=false:=decide_eq_false hw;rw[e1]at q;exact Ag (by rw[decide_eq_false fun z=>hw (V.str.inj z)];rfl) (q m u)
theorem GL{m u:Addr}{R:FuncData}(F:Fq K "may_be_second" 60 f R)(T:Txt mg)(y:Df P w K mg base "is_doc" ["thing"] 4 KH)(d:Df P w K mg base "is_row_path" ["thing"] 5 X')(o:Df P w K mg base "is_lost" ["path","to"] 2 RL)(I:mg "WORDS_WITH_VALUE"=some (.ref m))(YM:KC K m BQ=true)(J:mg "KINDS"=some (.ref u))(bP:KC K u IQ=true):AX P w K mg base BN 12 f R ["word","path","thing"] WZ:=by
 refine F.oq ["word","path","thing"] fun H _ _ _ _ E h=>?_;obtain⟨B,a,L,v,b,rfl,X,A,Y,Z,q⟩:=h;refine⟨_,(AI (Am (AV (DK:Cq _ _ (aQ K false)) (pv 0) (Ay (v:=.ref m) rfl I rfl) rfl) (AE (AL (BW y E (Au (pv 2))))) AU) (AI (Am (AV Bk (pv 0) AH (AY _)) (AE (AL (Bp (HX Ai T (pv 2) T.str Fn) (Bd (Bh (DK:Cq _ _ (aQ K false)) (pv 2) (Ay (v:=.ref u) rfl J rfl) rfl))))) AU) (AI (Am (PW.pt (pw_or (CD (BG (BW d E (Au (pv 2))))) (pw_or1 (AV (Lb (Av.EF E)) (pv 2) (AF AB) (AY _))))) (AE (AL Bb)) AU) (AE (AL (Mm (Bh Bk (pv 0) AH (AY _)) (Bd (Ku (BW o E (AA (pv 1) (Au (pv 2)))))))))))),?_⟩;cases Z with
 |@val _ _ _ n k hw t M=>
  have e:Pz (.str B) (BQ.map V.str)=true:=by
   simp only[BQ,List.mem_cons,List.not_mem_nil,or_false]at hw;rcases hw with rfl|rfl|rfl<;>decide+kernel
  exact⟨_,rfl,m,_,rfl,.inr (BA.aq YM _),rfl,rfl,_,rfl,Ag e ⟨_,rfl,v,b,n,k,rfl,t,M,q⟩⟩
 |@kind _ T t=>
  refine⟨_,rfl,m,_,rfl,.inr (BA.aq YM _),rfl,rfl,_,rfl,ed ⟨_,rfl,rfl,_,rfl,Ag rfl ⟨_,rfl,_,"str",T,rfl,rfl,t,_,rfl,?_⟩⟩⟩;cases t with
  |str s=>exact Cc ⟨_,rfl,u,_,rfl,.inr (BA.aq bP _),rfl,rfl,q H (AJ.refl H)⟩
  |int i=>exact Ac (q H (AJ.refl H))
  |Aj=>exact Ac (q H (AJ.refl H))
  |bl b=>exact Ac (q H (AJ.refl H))
  |lst e=>exact Ac (q H (AJ.refl H))
  |tup e=>exact Ac (q H (AJ.refl H))
  |dK e=>exact Ac (q H (AJ.refl H))
 |@WY _ _ p hw S=>
  have n1:Pz (.str B) (BQ.map V.str)=false:=by rcases hw with rfl|rfl<;>decide+kernel
  have n2:decide (V.str B=V.str "is")=false:=by rcases hw with rfl|rfl<;>decide+kernel
  refine⟨_,rfl,m,_,rfl,.inr (BA.aq YM _),rfl,rfl,_,rfl,Af n1 ⟨_,rfl,rfl,_,rfl,Af n2 ?_⟩⟩;dsimp only[QB];refine Ld (t:=Td _ _ _) (fun H'=>AJ H H'/\∃c j,v=.ref c/\H c=some (.tup j)/\p=some j/\Co p=true/\j≠[]/\j.length<=100) (fun N ⟨G,c,j,ev,hc,e,g,M,ly⟩=>?_) (fun key=>?_);rotate_left
  ·refine⟨v,rfl,v,p,rfl,S,fun U C=>?_⟩;cases S with
   |@no _ T t n=>exact⟨_,rfl,Ag rfl (Ag rfl (q U C))⟩
   |@tup c j h l ts=>
    cases g:Co (some j)with
    |false=>
     rw[g]at q;exact⟨_,rfl,Ag rfl (Ag rfl (q U C))⟩
    |true=>
     refine⟨_,rfl,Af rfl ⟨_,rfl,Nat.zero_le _,.mk fun O N he Q fe=>⟨c,O,j,[],rfl,rfl,BA.of (Q _ _ (C _ _ h)),BA.of fe,fun z D=>FE g z D,fun z D=>(nomatch D),_,rfl,?_⟩⟩⟩;cases j with
     |nil=>
      rw[g]at q;exact Ag rfl (q N (C.trans Q))
     |cons x r=>exact Af (by unfold Gj;simp) (key _ ⟨C.trans Q,c,x::r,rfl,h,rfl,g,List.cons_ne_nil _ _,l⟩)
  ·subst e ev;have O:(Co (some j)&& !decide (some j=some [])&&(decide (B="copy")|| !BY L ((some j).getD [])))=(decide (B="copy")|| !BY L j):=by
    rw[g,decide_eq_false fun z=>M (mr z)];rfl
   rw[O]at q;refine⟨_,rfl,rfl,_,rfl,?_⟩;rcases hw with rfl|rfl
   ·exact Ag rfl (q N G)
   ·have fx:=DP A;refine Af rfl ⟨_,rfl,_,rfl,a,c,L,j,rfl,G _ _ X,G _ _ hc,Y rfl,FE A,FE g,fun z D=>(fx z D).elim (fun⟨s,e,_⟩=>.inl ⟨s,e⟩) fun⟨i,e,_⟩=>.inr ⟨i,e⟩,?_,ly,fun H3 s3=>⟨_,rfl,q H3 (G.trans s3)⟩⟩;simp only[Co,Bool.and_eq_true,decide_eq_true_eq]at A;exact Nat.le_trans A.1.2 (by decide)
theorem PX{n:FuncData}(F:Fq K "is_lost" 61 f n)(T:Txt mg)(d:Df P w K mg base "begins" ["one","other"] 1 KR):AX P w K mg base BN 2 f n ["path","to"] RL:=by
 refine F.oq ["path","to"] fun H _ _ _ _ v h=>?_;obtain⟨a,b,l,g,rfl,m,o,p,z,A,B,E,G,q⟩:=h;refine⟨_,(AE (AL (Bp (HX Ai T (BH (r:=Ts K) LI (pv 0) (Mn Hn AD) (fun _ _=>rfl)) T.str Fn) (Bp (BW d v (AA (pv 0) (Au (pv 1)))) (Bd (Bh Gx (J' K T (pv 0)) (J' K T (pv 1)) (AY _))))))),?_⟩;obtain⟨c,x,rfl⟩:∃c x,l=c++[x]:=⟨l.dropLast,l.getLast p,(List.dropLast_concat_getLast p).symm⟩;have C:∀y,Cm (c++[y])=(match y with| .str _=>true|_=>false):=fun y=>by unfold Cm;rw[List.getLast?_concat];cases y<;>rfl
 have t:=C x;have D:=B x (List.mem_append_right _ (List.mem_singleton.mpr rfl));refine⟨_,rfl,1,rfl,a,_,-1,x,rfl,rfl,BA.of m,Jg c x,?_⟩;rcases D with⟨s,rfl⟩|⟨i,rfl⟩
 ·refine⟨_,"str",_,rfl,rfl,.str s,_,rfl,Cc ?_⟩;refine⟨_,rfl,_,rfl,a,b,_,g,rfl,m,o,z,A,fun u k=>⟨_,rfl,?_⟩⟩;cases j:Gj (g.take (c++[V.str s]).length) (c++[V.str s])with
  |false=>
   have e:BY (c++[.str s]) g=false:=by unfold BY;rw[j,Bool.and_false];rfl
   rw[e]at q;exact Af rfl (q u k)
  |true=>
   have e:BY (c++[.str s]) g=decide ((c++[V.str s]).length<g.length):=by unfold BY;rw[j,t];rfl
   rw[e]at q;refine Ag rfl ⟨_,rfl,a,_,rfl,.inr (BA.of (k _ _ m)),_,rfl,b,_,rfl,.inr (BA.of (k _ _ o)),_,_,rfl,rfl,?_⟩;have e2:decide (((c++[V.str s]).length:Int)<(g.length:Int))=decide ((c++[V.str s]).length<g.length):=by rw[Bool.eq_iff_iff];simp only[decide_eq_true_eq];lia
   rw[e2];exact q u k
 ·have e:BY (c++[.int i]) g=false:=by unfold BY;rw[t];rfl
  rw[e]at q;exact⟨_,"str",_,rfl,rfl,.int i,_,rfl,Ac (q H (AJ.refl H))⟩
theorem DU:B' ["thing"] ["thing"] (AO IZ):={}
theorem GN{c Y:Nat->Addr}{cB:Addr}(F:Fq K "refuse_no_row" 62 f fd)(T:Txt mg)(B:Df P w K mg base "has_form" ["thing"] 2 RS)(u:Df P w K mg base "may_be_first" ["word","thing"] 6 WW)(o:Df P w K mg base "may_be_second" ["word","path","thing"] 12 WZ)(N:Nm mg c cB)(kn:Kn K c cB Y)(I2:fu P w K mg base (Y 2) ["self","at"] (FD (c 2))):AX P w K mg base (KJ P w) 13 f fd ["thing"] (F_ c):=by
 obtain⟨R,d,g,j⟩:=I2;refine F.ft DU (fun vs H Q E h=>?_) (fun cY A outer s H vs Q E S h=>?_)
 ·obtain⟨v,i,rfl,hx,q,X⟩:=h;rfl
 ·obtain⟨v,i,rfl,hx,q,X⟩:=h;have nd:=DU.nd;have hu:=M' S;have L:Av 2 _:=S.mono (by decide);have k:Fz K (c 2) (Y 2)=true:=kn.own 0 (by decide);refine⟨_,(AI (Am (CD (BG (BW B S (Au (pv 0))))) (AE (EO rfl rfl rfl N.NQ k d L g j IM (Au AD))) AU) (AI (Am (CD (BG (BW u S (AA (FI K 0) (Au (FI K 0)))))) (AE (EO rfl rfl rfl N.NQ k d L g j IM (Au AD))) AU) (AE (Am (PW.pt (pw_and (AV WI (J' K T (pv 0)) AD (AY _)) (pw_and1 (CD (BG (BW o S (AA (FI K 0) (AA (FI K 0) (Au (FI K 0)))))))))) (AE (EO rfl rfl rfl N.NQ k d L g j IM (Au AD))) AU)))),?_⟩;cases hx with
  |@IU _ p h n=>
   exact⟨v,rfl,v,p,rfl,h,fun Z C=>⟨_,rfl,Ag (by rw[n];rfl) (Xy AN fun J U=>X 0 rfl (some J) _ (C.trans (AJ.new U)) (.inr ⟨by decide,J,rfl,AG⟩))⟩⟩
  |@first a w y r p h l f V m=>
   have D:P_ H (.ref a) (some (.str w::y::r)):=.tup h (by simp only[List.length_cons];lia) fun x e=>by cases e;exact⟨_,.str w⟩
   refine⟨_,rfl,_,_,rfl,D,fun Z C=>⟨_,rfl,Af (by rw[f];rfl) ?_⟩⟩;have G:=C _ _ h;exact⟨_,rfl,a,_,0,_,rfl,rfl,BA.of G,WR,_,rfl,a,_,1,_,rfl,rfl,BA.of G,IG,w,y,p,rfl,V.up C,fun H2 M=>⟨_,rfl,Ag (by rw[m];rfl) (Xy AN fun J U=>X 1 rfl (some J) _ ((C.trans M).trans (AJ.new U)) (.inr ⟨by decide,J,rfl,AG⟩))⟩⟩
  |@two a w y p h f V m=>
   have D:P_ H (.ref a) (some [.str w,y]):=.tup h (by simp) fun x e=>by cases e;exact⟨_,.str w⟩
   refine⟨_,rfl,_,_,rfl,D,fun Z C=>⟨_,rfl,Af (by rw[f];rfl) ?_⟩⟩;have G:=C _ _ h;refine⟨_,rfl,a,_,0,_,rfl,rfl,BA.of G,WR,_,rfl,a,_,1,_,rfl,rfl,BA.of G,IG,w,y,p,rfl,V.up C,fun H2 M=>⟨_,rfl,Af (by rw[m];rfl) ?_⟩⟩;have O:=M _ _ G;exact⟨_,rfl,a,_,rfl,.inr (BA.of O),_,_,rfl,rfl,_,rfl,Af rfl (Af rfl (q rfl H2 (C.trans M)))⟩
  |@three a b w xs z cc h f hb V m t=>
   have D:P_ H (.ref a) (some [.str w,.ref b,z]):=.tup h (by simp) fun x e=>by cases e;exact⟨_,.str w⟩
   refine⟨_,rfl,_,_,rfl,D,fun Z C=>⟨_,rfl,Af (by rw[f];rfl) ?_⟩⟩;have G:=C _ _ h;refine⟨_,rfl,a,_,0,_,rfl,rfl,BA.of G,WR,_,rfl,a,_,1,_,rfl,rfl,BA.of G,IG,w,_,_,rfl,V.up C,fun H2 M=>⟨_,rfl,Af (by rw[m];rfl) ?_⟩⟩;have O:=M _ _ G;have I:=C.trans M;refine⟨_,rfl,a,_,rfl,.inr (BA.of O),_,_,rfl,rfl,_,rfl,Ag rfl ?_⟩;refine⟨_,rfl,a,_,0,_,rfl,rfl,BA.of O,WR,_,rfl,a,_,1,_,rfl,rfl,BA.of O,IG,_,rfl,a,_,2,_,rfl,rfl,BA.of O,at2,w,b,xs,z,cc,rfl,I _ _ hb,?_,?_,t.up I,fun H3 s3=>⟨_,rfl,?_⟩⟩
   ·exact YE m
   ·exact fun e=>YF (e▸m)
   ·cases cc with
    |true=>exact Af rfl (q rfl H3 (I.trans s3))
    |false=>exact Ag rfl (Xy AN fun J U=>X 2 rfl (some J) _ ((I.trans s3).trans (AJ.new U)) (.inr ⟨by decide,J,rfl,AG⟩))
theorem KS:B' ["row","word"] ["row"] (AO Uo):={}
theorem PY{c:Nat->Addr}(F:Fq K "deed_of" 63 f fd)(T:Txt mg)(k:UX P w K mg base "refuse_no_row" ["thing"] 13 (F_ c))(x:∀j,j<9->Rf P w K mg base 3 (bJ j) (cl j) (f' j) (Ui cl j)):AX P w K mg base (KJ P w) 14 f fd ["row"] (IW c cl):=by
 obtain⟨t,u,l,m,n,o⟩:=k.ex;obtain⟨kz,k_,C,D,G,I⟩:=(x 0 (by decide):Rf P w K mg base 3 "Put" (cl 0) ["self","path","value"] (GJ (cl 0)));obtain⟨lA,lB,J,L,M,N⟩:=(x 1 (by decide):Rf P w K mg base 3 "Take" (cl 1) ["self","path"] (F' (cl 1)));obtain⟨lC,lD,O,R,S,U⟩:=(x 2 (by decide):Rf P w K mg base 3 "Change" (cl 2) ["self","path","value"] (GJ (cl 2)));obtain⟨lE,lF,X,Y,Z,jN⟩:=(x 3 (by decide):Rf P w K mg base 3 "Move" (cl 3) ["self","path","to"] (GI (cl 3) "to"));obtain⟨lG,lH,jO,jP,jQ,jR⟩:=(x 4 (by decide):Rf P w K mg base 3 "Copy" (cl 4) ["self","path","to"] (GI (cl 4) "to"));obtain⟨lI,lJ,jS,jT,jU,jV⟩:=(x 5 (by decide):Rf P w K mg base 3 "Ask" (cl 5) ["self","path","value"] (GJ (cl 5)));obtain⟨lK,lL,jW,jX,jY,jZ⟩:=(x 6 (by decide):Rf P w K mg base 3 "Has" (cl 6) ["self","path"] (F' (cl 6)));obtain⟨lM,lN,ja,jb,jc,jd⟩:=(x 7 (by decide):Rf P w K mg base 3 "Lacks" (cl 7) ["self","path"] (F' (cl 7)));obtain⟨lO,lP,je,jf,jg,jh⟩:=(x 8 (by decide):Rf P w K mg base 3 "Is" (cl 8) ["self","path","kind"] (GI (cl 8) "kind"));refine F.ft KS (fun vs H Q E h=>?_) (fun cY A outer s H vs Q E hr h=>?_)
 ·cases h<;>(subst_vars;rfl)
 ·have nd:=KS.nd;have hu:=M' hr;have b:Av 13 _:=hr.mm;have p:Av 4 _:=hr.mono (by decide);refine⟨_,(AI (Di (Hr o b rfl n l m .nil aw (Au (pv 0)))) (AI (BZ 1 nd (FI K 0)) (AI (Am (AV Bk (pv 1) AH (AY _)) (AE (AL (Bs C D p rfl I G .nil Cw (AA (FI K 0) (Au (FI K 0)))))) AU) (AI (Am (AV Bk (pv 1) AH (AY _)) (AE (AL (Bs J L p rfl N M .nil Cw (Au (FI K 0))))) AU) (AI (Am (AV Bk (pv 1) AH (AY _)) (AE (AL (Bs O R p rfl U S .nil Cw (AA (FI K 0) (Au (FI K 0)))))) AU) (AI (Am (AV Bk (pv 1) AH (AY _)) (AE (AL (Bs X Y p rfl jN Z .nil Cw (AA (FI K 0) (Au (FI K 0)))))) AU) (AI (Am (AV Bk (pv 1) AH (AY _)) (AE (AL (Bs jO jP p rfl jR jQ .nil Cw (AA (FI K 0) (Au (FI K 0)))))) AU) (AI (Am (AV Bk (pv 1) AH (AY _)) (AE (AL (Bs jS jT p rfl jV jU .nil Cw (AA (FI K 0) (Au (FI K 0)))))) AU) (AI (Am (AV Bk (pv 1) AH (AY _)) (AE (AL (Bs jW jX p rfl jZ jY .nil Cw (Au (FI K 0))))) AU) (AI (Am (AV Bk (pv 1) AH (AY _)) (AE (AL (Bs ja jb p rfl jd jc .nil Cw (Au (FI K 0))))) AU) (AE (AL (Bs je jf p rfl jh jg .nil Cw (AA (FI K 0) (Au (FI K 0)))))))))))))))),?_⟩;have h1:FH c cl vs H Q E:=h;clear h;cases h1 with
  |bad v i x0 x1 x3=>
   subst x0;exact⟨_,rfl,v,some i,rfl,x1,(fun z=>nomatch z),fun i' e d H' s hf=>by cases e;exact x3 d H' s hf⟩
  |good a j y r x0 x1 hj g q=>
   subst x0;refine⟨_,rfl,.ref a,none,rfl,x1,(fun _ H1 s1=>?_),fun i' e=>nomatch e⟩;have B:=BA.of (s1 _ _ g.row) (K:=K);have hl:=g.len;have fin:=jL s1 g q;refine⟨_,rfl,a,_,0,_,rfl,rfl,B,WR,?_⟩;have A1:Hs (V.str (HQ j)::y::r) 1=some y:=IG;rcases j9 hj with rfl|rfl|rfl|rfl|rfl|rfl|rfl|rfl|rfl
   all_goals first|(obtain rfl:=hl.1 rfl)|(obtain⟨z,rfl⟩:=hl.2 (by decide))
   all_goals repeat (first|refine⟨_,rfl,rfl,_,rfl,Ag rfl ?_⟩|refine⟨_,rfl,rfl,_,rfl,Af rfl ?_⟩)
   all_goals first|exact⟨_,rfl,a,_,1,_,rfl,rfl,B,IG,fin⟩|exact⟨_,rfl,a,_,1,_,rfl,rfl,B,IG,_,rfl,a,_,2,_,rfl,rfl,B,at2,fin⟩
theorem Up(F:Fq K "_law_cell" 65 f c)(T:Txt mg):AX P w K mg base BN 1 f c ["_law_script","_law_k"] (Ql K):=by
 refine F.oq ["_law_script","_law_k"] fun H _ _ _ _ j h=>?_;obtain⟨a,b,k,rfl,d,q⟩:=h;refine⟨_,(AI (Am (AV Gx (pv 1) (J' K T (pv 0)) (AY _)) (AE (AL (AQ An (PM K (pv 0) (pv 1)) (AQ Cr AD (AQ Ky AD AD))))) AU) (AE (AL (AQ Bq AD (AQ Cr AD (pv 1)))))),?_⟩;refine⟨_,rfl,_,rfl,a,_,rfl,.inl d,_,_,rfl,rfl,_,rfl,?_⟩;refine Jl (fun e=>?_) (fun e=>?_)
 ·have g:k<b.length:=by
   have:=of_decide_eq_true e;rw[List.length_map]at this;lia
  have i:(b.map V.int)[k]?=some (.int b[k]):=by rw[List.getElem?_map,mn g];rfl
  exact⟨_,rfl,_,rfl,a,_,_,_,rfl,rfl,d,BJ i,_,_,rfl,rfl,⟨by decide,by decide,by decide⟩,_,_,rfl,rfl,.inl Bm,_,_,rfl,rfl,Ax,q _ (Int.emod_nonneg _ (by decide))⟩
 ·exact⟨_,rfl,_,_,rfl,rfl,.inl Bm,_,_,rfl,rfl,q _ (by lia)⟩
theorem YN{p:FuncData}(F:Fq K "_law_mix" 66 f p)(T:Txt mg):AX P w K mg base BN 1 f p ["_law_cell_here","_law_k"] Qo:=by
 refine F.oq ["_law_cell_here","_law_k","_law_number","_law_j"] fun H s _ a _ u h=>?_;obtain⟨c,k,rfl,t,q⟩:=h;refine⟨_,(AI (Am (PW.pt (pw_and (AV Bk (AQ An (pv 0) AD) AD (AY _)) (pw_and1 (AV WJ (pv 0) (AQ Cr AD (AQ Ky AD AD)) (AY _))))) (AI (BZ 2 a (AQ CY (pv 0) AD)) (AI (ck (CF rfl T.range (Au (pv 1))) (HW 3 a) (AE (BZ 2 a (AQ CY (pv 2) AD)))) (AE (AL (AQ An (pv 2) AD))))) AU) (AI (BZ 2 a (AQ An (AQ Cr (AQ Bq (pv 0) AD) AD) AD)) (AI (BZ 2 a (AQ An (AQ Bq (pv 2) (AQ Cr (AQ Bq (pv 1) AD) AD)) AD)) (AI (BZ 2 a (AQ An (AQ Cr (pv 2) (pv 2)) AD)) (AI (BZ 2 a (AQ An (AQ Cr (AQ Bq (pv 2) AD) (AQ Bq (AQ CY (pv 2) AD) AD)) AD)) (AE (AL (AQ CY (pv 2) AD)))))))),?_⟩;have lo:∀x:Int,-(2 ^ 64)<x % 2305843009213693951/\x % 2305843009213693951<2 ^ 64:=fun x=>by
  have d:=Int.emod_nonneg x (show(2305843009213693951:Int)≠0 by decide);have g:=Int.emod_lt_of_pos x (show(0:Int)<2305843009213693951 by decide);constructor<;>lia
 have lo1:∀x:Int,-(2 ^ 64)<x % 999999999999999989+1/\x % 999999999999999989+1<2 ^ 64:=fun x=>by
  have d:=Int.emod_nonneg x (show(999999999999999989:Int)≠0 by decide);have g:=Int.emod_lt_of_pos x (show(0:Int)<999999999999999989 by decide);constructor<;>lia
 have r:¬(c % 4=0/\4*10 ^ 60<=c)->s.rt (.int ((Jv c k+1)*(Jv c k/1000003+7) % 2305843009213693951/7919)) H:=fun h=>by
  have e:Oh c k=_:=if_neg h;rw[e]at q;exact q
 refine⟨_,rfl,_,_,rfl,rfl,Ax,rfl,_,rfl,?_⟩;refine Jl (fun d=>?_) (fun d=>?_)
 ·refine⟨_,rfl,_,_,rfl,rfl,⟨by decide,by decide,by decide⟩,_,_,rfl,rfl,.inl Bm,_,_,rfl,rfl,_,rfl,?_⟩;have c4:c % 4=0:=V.int.inj (of_decide_eq_true d);refine Jl (fun g=>?_) (fun g=>?_)
  ·have j:4*10 ^ 60<=c:=of_decide_eq_true g;have e:Oh c k=_:=if_pos ⟨c4,j⟩;rw[e]at q;refine⟨_,rfl,_,_,rfl,rfl,Bm,_,rfl,_,rfl,Int.le_trans (by decide) (Int.natCast_nonneg _),Int.lt_of_le_of_lt (Int.ofNat_le.mpr t) (by decide),ED (lo:=0) (fun i l m=>∃(o:Option V),l=[some (.int c),some (.int (k:Int)),some (.int (Qm i (c/4))),o]/\m=H) ⟨none,rfl,rfl⟩ ?_ ?_⟩
   ·rintro i l m _ go v ⟨o,rfl,rfl⟩;exact⟨_,rfl,_,_,rfl,rfl,Bm,go.n ⟨_,rfl,rfl⟩⟩
   ·rintro l m ⟨o,rfl,rfl⟩;rw[Int.toNat_natCast];exact⟨_,rfl,_,_,rfl,rfl,Ax,q⟩
  ·have b:¬(c % 4=0/\4*10 ^ 60<=c):=fun z=>g (decide_eq_true z.2);exact⟨_,rfl,_,_,rfl,rfl,_,_,rfl,rfl,.inr Bm,_,_,rfl,rfl,Ax,_,rfl,_,rfl,_,_,rfl,rfl,_,_,rfl,rfl,.inr Bm,_,_,rfl,rfl,_,_,rfl,rfl,Ax,_,rfl,_,rfl,_,_,rfl,rfl,.inl (lo _),_,_,rfl,rfl,Ax,_,rfl,_,_,rfl,rfl,_,rfl,_,_,rfl,rfl,Bm,_,_,rfl,rfl,_,_,rfl,rfl,.inl (lo1 _),_,_,rfl,rfl,Ax,_,rfl,_,_,rfl,rfl,Bm,r b⟩
 ·refine Ac ?_;have b:¬(c % 4=0/\4*10 ^ 60<=c):=fun z=>d (decide_eq_true (congrArg V.int z.1));exact⟨_,rfl,_,_,rfl,rfl,_,_,rfl,rfl,.inr Bm,_,_,rfl,rfl,Ax,_,rfl,_,rfl,_,_,rfl,rfl,_,_,rfl,rfl,.inr Bm,_,_,rfl,rfl,_,_,rfl,rfl,Ax,_,rfl,_,rfl,_,_,rfl,rfl,.inl (lo _),_,_,rfl,rfl,Ax,_,rfl,_,_,rfl,rfl,_,rfl,_,_,rfl,rfl,Bm,_,_,rfl,rfl,_,_,rfl,rfl,.inl (lo1 _),_,_,rfl,rfl,Ax,_,rfl,_,_,rfl,rfl,Bm,r b⟩
theorem Uq{a:FuncData}(F:Fq K "_law_mix" 66 f a)(T:Txt mg):AX P w K mg base BN 1 f a ["_law_cell_here","_law_k"] DT:=(YN F T).imp fun _ _ _ _ h=>Qp h
theorem Rn(F:Fq K "_law_names" 67 f fd)(T:Txt mg)(l:Df P w K mg base "_law_mix" ["_law_cell_here","_law_k"] 1 DT):AX P w K mg base BN 2 f fd ["_law_cell_here"] J_:=by
 refine F.oq ["_law_cell_here","_law_letters","_law_pairs","_law_word","_law_size","_law_at","_law_more","_law_names_here","_law_k","_law_one"] fun H _ _ d _ Z h=>?_;obtain⟨c,rfl,q⟩:=h;refine⟨_,(AI (Ae (i:=1) d rfl (Or.inr rfl) AH) (AI (LS (i:=2) (fv:=["_law_cell_here"]) (fs:=[0]) rfl (.of (by rfl)) d rfl (Or.inl rfl) (CF rfl T.range (Au AD)) (fun _ _ _ _=>NB) (fun C s0 H0 fp=>(AQ An (BW l Z (AA (pv 1) (Au (pv 0)))) AD))) (AI (Ae (i:=3) d rfl (Or.inr rfl) (Mv PySem.F.plainAttrs_str PySem.F.slot_str_join PySem.F.type_str_join UA AH (Au (cmp ["_law_letters"] [1] (Hm (pv 2)) fun _ _ _ _=>(AQ CZ (BH LJ (pv 1) (AQ An (pv 0) AD) (fun _ _=>rfl)) (BH LJ (pv 1) (AQ CY (pv 0) AD) (fun _ _=>rfl))))))) (AI (BZ 4 d (AQ Bq AD (AQ An (BW l Z (AA (pv 0) (Au AD))) AD))) (AI (BZ 5 d (AQ An (BW l Z (AA (pv 0) (Au AD))) (pv 4))) (AI (Ae (i:=6) d rfl (Or.inr rfl) (BW l Z (AA (pv 0) (Au AD)))) (AI (Am (AV Bk (AQ An (BW l Z (AA (pv 0) (Au AD))) AD) AD (AY _)) (AE (AL (cmp ["_law_word","_law_more"] [3,6] (CF rfl T.range (Au AD)) fun _ _ _ _=>(Bt LX (pv 1) DJ (CA (AQ Bq (AQ Bq (pv 0) AD) (AQ An (pv 2) AD))))))) AU) (AI (BZ 7 d (Aa AB)) (AI (ck (CF rfl T.range (Au AD)) (HW 8 d) (AI (BZ 9 d (BH LJ (pv 1) (AQ An (AQ Bq (pv 6) (AQ Cr AD (pv 8))) AD) (fun _ _=>rfl))) (AE (Di (fZ K (pv 7) (AQ CZ (AQ CZ (Bt LX (pv 3) DJ (CA (pv 5))) (pv 9)) (Bt LX (pv 3) (CA (AQ Bq (pv 5) AD)) (CA (pv 4))))))))) (AE (AL (pv 7)))))))))))),?_⟩;refine⟨4,rfl,by decide,by decide,Cz (n:=4) (fun i=>.int (0+(i:Int))) (fun _ v=>∃n:Int,v=.int n/\0<=n/\n<676) (by decide) (fun i o E s=>E) (fun i o v H' E s y=>⟨y.2,y.1⟩) (fun o s=>Nat.le_refl _) (fun i o R E s r=>?_) (fun D1 H1 ps lQ s1 d1 lp op=>?_)⟩
 ·refine⟨_,rfl,_,rfl,c,i,by simp,by lia,fun x _ _=>⟨_,_,rfl,rfl,Ax,r _ o (AJ.refl o) ⟨_,rfl,?_⟩⟩⟩;exact CB x (by decide)
 obtain⟨PP,ji⟩:∃PP,PP=V.ref D1:=⟨_,rfl⟩;refine⟨rfl,_,rfl,D1,rfl,⟨_,BC.of d1⟩,Cz (n:=4) (fun i=>ps.getD i .Aj) (fun _ v=>ao 2 v) (by decide) (fun i o E s=>⟨_,_,BC.of (s _ _ d1),mn (by lia)⟩) (fun i o v H' E s y=>?_) (fun o s=>⟨_,BC.of (s _ _ d1),by lia⟩) (fun i o R E s r=>?_) (fun D o g hD s d2 ly oy=>?_)⟩
 ·obtain⟨e,y⟩:=y;refine⟨?_,e⟩;rw[List.getD_eq_getElem?_getD,y _ (BC.of (s _ _ d1))];rfl
 ·obtain⟨n,en,n0,n1⟩:=op i (ps.getD i .Aj) (by rw[List.getD_eq_getElem?_getD,mn (show i<ps.length by lia)];rfl);rw[en];obtain⟨G,I,hl⟩:=Lc (n % 26) (Fs n).1 (Fs n).2;obtain⟨gI,ef,jj⟩:=Lc (n/26) (by lia) (by lia);refine⟨_,rfl,_,rfl,_,_,rfl,rfl,Ax,Qk,_,G,rfl,rfl,by rw[NG];decide,I,_,rfl,_,rfl,_,_,rfl,rfl,Bm,Qk,_,gI,rfl,rfl,by rw[NG];decide,ef,_,_,rfl,rfl,AR (show 1+1<=1000 by decide),r _ o (AJ.refl o) ⟨_,rfl,rfl,?_⟩⟩;rw[BE];show([G]++[gI]).all Fj=true;simp[hl,jj]
 obtain⟨zs,e1,S,h2,h3⟩:=HE g fun y J=>by
  obtain⟨j,k,e⟩:=List.mem_iff_getElem.mp J;exact oy j y (by rw[mn k,e])
 subst e1;rw[ly]at S h2;have lz:zs.length=4:=by rw[<-ly,List.length_map]
 refine⟨_,D,zs,rfl,rfl,BC.of d2,by rw[S,lz];decide,?_⟩;obtain⟨W,hW⟩:∃W,W=Txt.join "" zs:=⟨_,rfl⟩;have O:(sgn W).length=8:=by rw[hW,Jt,h2]
 have wL:(sgn W).all Fj=true:=by rw[hW,Jt];exact h3
 have wz:W.length=8:=by rw[<-Ce];exact O
 rw[<-hW,<-ji];refine⟨_,rfl,c,4,rfl,by decide,fun x _ _=>⟨_,_,rfl,rfl,Ax,_,_,rfl,rfl,?_⟩⟩;have b1:0<=x % 8/\x % 8<8:=⟨Int.emod_nonneg _ (by decide),Int.emod_lt_of_pos _ (by decide)⟩;obtain⟨t,lR⟩:∃z:Nat,1+x % 8=(z:Int):=⟨(1+x % 8).toNat,by lia⟩;have bs:1<=t/\t<=8:=by lia
 refine⟨_,rfl,c,5,rfl,by decide,fun r2 _ _=>⟨_,rfl,_,_,rfl,rfl,(by show(0:Int)<1+x % 8;lia),?_⟩⟩;have b2:0<=r2 % (1+x % 8)/\r2 % (1+x % 8)<1+x % 8:=⟨Int.emod_nonneg _ (by lia),Int.emod_lt_of_pos _ (by lia)⟩;obtain⟨IG,lT⟩:∃z:Nat,r2 % (1+x % 8)=(z:Int):=⟨(r2 % (1+x % 8)).toNat,by lia⟩;have lU:IG<t:=by lia
 refine⟨_,rfl,c,6,rfl,by decide,fun b lV _=>?_⟩;refine⟨_,rfl,c,7,rfl,by decide,fun r4 _ _=>⟨_,_,rfl,rfl,Ax,rfl,_,rfl,?_⟩⟩;have m3:=CB b (n:=3) (by decide);have L:=s1.trans s;refine Jl (fun _=>?_) (fun _=>?_)
 ·refine⟨6,rfl,by decide,by decide,Cz (n:=6) (fun i=>.int (0+(i:Int))) (fun i v=>∃y:Str,v=.str y/\BD y=true/\((sgn y).length:Int)=(i:Int)+1+b % 3) (by decide) (fun i o E s=>E) (fun i o v H' E s y=>⟨y.2,y.1⟩) (fun o s=>Nat.le_refl _) (fun i B R E U r=>?_) (fun D3 B X jk U Y lv ov=>?_)⟩
  ·refine⟨_,rfl,_,rfl,_,_,rfl,rfl,_,rfl,_,_,rfl,rfl,Ax,_,_,rfl,rfl,_,rfl,W,rfl,by rw[wz];decide,r _ B (AJ.refl B) ⟨_,rfl,?_,?_⟩⟩
   ·obtain⟨n,hn⟩:∃n:Nat,0+(i:Int)+1+b % 3=(n:Int):=⟨(0+(i:Int)+1+b % 3).toNat,by lia⟩;show DS (sgn (Txt.slice W none (some (0+(i:Int)+1+b % 3))))=true;rw[hn,CJ,IA];refine Ju ?_ ?_ (Fl wL n)
    ·rw[List.length_take,O];lia
    ·rw[List.length_take,O];lia
   ·obtain⟨n,hn⟩:∃n:Nat,0+(i:Int)+1+b % 3=(n:Int):=⟨(0+(i:Int)+1+b % 3).toNat,by lia⟩;rw[hn,CJ,IA,List.length_take,O];lia
  ·have gen:∀(X:List V),(∀(j:Nat) v,X[j]?=some v->∃y:Str,v=.str y)->∃g:List Str,X=g.map V.str:=by
    intro X
    induction X with
    |nil=>exact fun _=>⟨[],rfl⟩
    |cons v r ih=>
     intro h;obtain⟨y,rfl⟩:=h 0 v rfl;obtain⟨g,rfl⟩:=ih fun j v k=>h (j+1) v (by simpa using k);exact⟨y::g,rfl⟩
   obtain⟨ns,rfl⟩:=gen X fun j v k=>let⟨y,e,_⟩:=ov j v k;⟨y,e⟩;have nat:∀(j:Nat) y,ns[j]?=some y->BD y=true/\((sgn y).length:Int)=(j:Int)+1+b % 3:=fun j y k=>by
    obtain⟨y',e,S,h2⟩:=ov j (.str y) (by rw[List.getElem?_map,k];rfl);cases e;exact⟨S,h2⟩
   refine q D3 ns B (L.trans U) (L.free jk) Y (by rw[<-lv,List.length_map]) (Jw (fun j y=>((sgn y).length:Int)=(j:Int)+1+b % 3) (fun j y k=>(nat j y k).2) fun i j y gJ _ p1 p2=>by lia) fun y J=>?_;obtain⟨j,k,rfl⟩:=List.mem_iff_getElem.mp J;exact(nat j _ (mn k)).1
 obtain⟨u,eg⟩:∃z:Int,z=1+x % 8:=⟨_,rfl⟩;obtain⟨a,ei⟩:∃z:Int,z=r2 % (1+x % 8):=⟨_,rfl⟩;obtain⟨A,gK⟩:∃A:Nat->Str->Prop,A=fun(j:Nat)(y:Str)=>(sgn y)[IG]?=Qc[((b+5*(j:Int)) % 26).toNat]?:=⟨_,rfl⟩;refine⟨Nat.zero_le _,fun p hp=>?_⟩;have pf:H p=none:=L.free hp;refine⟨6,rfl,by decide,by decide,ED (lo:=0) (n:=6) (fun i σ B=>∃(g:List Str)(ok os:Option V),σ=[some (.int c),some (.str Qk),some PP,some (.str W),some (.int u),some (.int a),some (.int b),some (.ref p),ok,os]/\
  AJ H B/\B p=some (.lst (g.map V.str))/\g.length=i/\(∀(j:Nat) y,g[j]?=some y->A j y)/\∀y∈g,BD y=true) ⟨[],none,none,by rw[eg,ei];rfl,L.put pf,AG,rfl,fun j y J=>(by simp at J),fun y J=>nomatch J⟩ ?_ ?_⟩
 ·rintro i σ B _ go E ⟨g,ok,os,rfl,U,Y,M,pm,ny⟩;have more:∀(y:Str)(oo Q:Option V),A i y/\BD y=true->∃(N:List Str)(ok os:Option V),[some (V.int c),some (V.str Qk),some PP,some (V.str W),some (V.int u),some (V.int a),some (V.int b),some (V.ref p),oo,Q]=
    [some (V.int c),some (V.str Qk),some PP,some (V.str W),some (V.int u),some (V.int a),some (V.int b),some (V.ref p),ok,os]/\
    AJ H (upd B p (.lst (g.map V.str++[.str y])))/\upd B p (.lst (g.map V.str++[.str y])) p=some (.lst (N.map V.str))/\N.length=i+1/\(∀(j:Nat) y,N[j]?=some y->A j y)/\∀z∈N,BD z=true:=fun y oo Q J=>
   ⟨g++[y],oo,Q,rfl,U.put pf,by rw[AG,List.map_append];rfl,by simp[M],fun j z k=>by
    by_cases jl:j<g.length
    ·rw[List.getElem?_append_left jl]at k;exact pm j z k
    ·have hl:=(mq k).1;rw[List.length_append,List.length_singleton]at hl;have e:j=i:=by lia
     subst e;rw[List.getElem?_append_right (by lia),M,Nat.sub_self]at k;have e:y=z:=by simpa using k
     rw[<-e];exact J.1,fun z hz=>(List.mem_append.mp hz).elim (ny z) fun hz=>by rw[List.mem_singleton.mp hz];exact J.2⟩
  have jm:(g.map V.str).length<sizeLine:=BK (by rw[List.length_map];lia);obtain⟨G,I,hl⟩:=Lc ((b+5*(0+(i:Int))) % 26) (Fs _).1 (Fs _).2;refine⟨_,rfl,_,rfl,_,rfl,_,_,rfl,rfl,.inl Bm,_,_,rfl,rfl,_,_,rfl,rfl,Ax,Qk,_,G,rfl,rfl,by decide,I,?_⟩;have l1:(Txt.slice W none (some a)).length<=8:=by rw[<-wz];exact Txt.slice_le W _ _
  have l2:(Txt.slice W (some (a+1)) (some u)).length<=8:=by rw[<-wz];exact Txt.slice_le W _ _
  have l3:(Txt.slice W none (some a)++(⟨#[G]⟩:Str)).length<=9:=by rw[Str.length_append];show _+1<=9;lia
  refine⟨_,rfl,.inl ⟨rfl,_,BC.of Y⟩,_,rfl,_,rfl,_,rfl,W,rfl,by rw[wz];decide,_,rfl,_,_,rfl,rfl,?_,_,rfl,_,rfl,_,_,rfl,rfl,_,rfl,_,rfl,_,rfl,W,rfl,by rw[wz];decide,_,_,rfl,rfl,?_,p,_,_,rfl,rfl,Y,jm,go.n (more _ _ _ ⟨?_,?_⟩)⟩
  ·exact Nat.le_of_lt (BK (by show(Txt.slice W none (some a)).length+1<=1000;lia))
  ·exact Nat.le_of_lt (BK (by lia))
  ·rw[gK];show(sgn (Txt.slice W none (some a)++(⟨#[G]⟩:Str)++Txt.slice W (some (a+1)) (some u)))[IG]?=Qc[((b+5*(i:Int)) % 26).toNat]?;have e0:a=(IG:Int):=by lia
   rw[BE,BE,CJ,e0,IA];have ec:sgn ⟨#[G]⟩=[G]:=rfl;rw[ec];have lt:((sgn W).take IG).length=IG:=by rw[List.length_take,O];lia
   rw[List.getElem?_append_left (by rw[List.length_append,lt,List.length_singleton];lia),List.getElem?_append_right (by rw[lt];exact Nat.le_refl _),lt,Nat.sub_self];have hb:=Fs (b+5*(0+(i:Int)));obtain⟨m,hm⟩:∃m:Nat,(b+5*(0+(i:Int))) % 26=(m:Int):=⟨((b+5*(0+(i:Int))) % 26).toNat,by lia⟩;have hz:(b+5*(i:Int)) % 26=(m:Int):=by rw[<-hm,Int.zero_add]
   rw[hz,Int.toNat_natCast];rw[hm]at I;obtain⟨j',g1,g2,g3,_⟩:=Dn I;have:j'=m:=by
    have ej:m<(sgn Qk).length:=by show m<Qc.length;rw[ID];lia
    have:=BJ (xs:=sgn Qk) (j:=m) (mn ej);obtain⟨j2,k1,_⟩:=Dn this;have q1:QN (sgn Qk).length (m:Int)=some m:=by
     unfold QN;rw[if_pos (by lia),if_pos (by lia),Int.toNat_natCast]
    have:=(Ht q1).1;rw[this]at g1;exact(mr g1).symm
   rw[this]at g2;exact g2.symm
  ·show DS (sgn (Txt.slice W none (some a)++⟨#[G]⟩++Txt.slice W (some (a+1)) (some u)))=true;have e0:a=(IG:Int):=by lia
   have e1:(IG:Int)+1=((IG+1:Nat):Int):=by lia
   have e2:u=(t:Int):=by lia
   rw[BE,BE,CJ,CJ,e0,e1,e2,IA,UC _ _ _ (by lia) (by rw[O];lia)];have ec:sgn ⟨#[G]⟩=[G]:=rfl;rw[ec];have hlen:min IG 8+1+(min t 8-(IG+1))=t:=by rw[Nat.min_eq_left (by lia),Nat.min_eq_left (by lia)];lia
   refine Ju ?_ ?_ ?_
   ·simp only[List.length_append,List.length_take,List.length_drop,O,List.length_singleton];rw[hlen];lia
   ·simp only[List.length_append,List.length_take,List.length_drop,O,List.length_singleton];rw[hlen];lia
   ·rw[List.all_append,List.all_append,Fl wL,Qe (Fl wL t)];simp[hl]
 ·rintro σ B ⟨g,ok,os,rfl,U,Y,M,pm,ny⟩;refine⟨_,rfl,q p g B U pf Y M (Jw A pm fun i j y gJ k p1 p2=>?_) ny⟩;rw[gK]at p1 p2;have hb:=(Fs (b+5*(i:Int)));have lW:=(Fs (b+5*(j:Int)));rw[p1]at p2;have nl:Qc.Nodup:=by decide+kernel
  have S:((b+5*(i:Int)) % 26).toNat<Qc.length:=by rw[ID];lia
  have:=(List.getElem?_inj S nl).mp p2;exact T' gJ (by lia) this
theorem L_(F:Fq K "_law_odd_path" 68 f B)(T:Txt mg)(d:Df P w K mg base "_law_mix" ["_law_cell_here","_law_k"] 1 DT):AX P w K mg base BN 3 f B ["_law_cell_here","_law_names_here"] Ln:=by
 refine F.oq ["_law_cell_here","_law_names_here","_law_one","_law_some"] fun H En _ g _ C h=>?_;obtain⟨c,n,ys,rfl,hn,ly,ny,q⟩:=h;refine⟨_,(@AM _ _ _ _ _ _ rfl (@Ae _ _ 2 _ _ _ _ g rfl (Or.inl rfl) (@BH _ _ _ _ _ _ (Cn K) Az (pv 1) (@AQ _ _ _ _ _ _ _ _ An (BW d C (@AA _ _ _ _ _ (pv 0) (@AA _ _ _ _ _ AD AB rfl) rfl)) AD) (fun _ _=>rfl)) rfl (Or.inl rfl)) (@AM _ _ _ _ _ _ rfl (@Ae _ _ 3 _ _ _ _ g rfl (Or.inl rfl) (@Aa _ _ _ _ (@AA _ _ _ _ _ (@Aa _ _ _ _ AB) (@AA _ _ _ _ _ (@Aa _ _ _ _ (@AA _ _ _ _ _ (pv 2) AB rfl)) (@AA _ _ _ _ _ (pv 2) (@AA _ _ _ _ _ AD (@AA _ _ _ _ _ CC (@AA _ _ _ _ _ Bb (@AA _ _ _ _ _ (@AF _ _ _ _ _ (@AA _ _ _ _ _ AH AB rfl)) (@AA _ _ _ _ _ (@AF _ _ _ _ _ (@AA _ _ _ _ _ (Mn Hn AD) AB rfl)) (@AA _ _ _ _ _ (@AF _ _ _ _ _ (@AA _ _ _ _ _ (pv 2) (@AA _ _ _ _ _ Bb AB rfl) rfl)) (@AA _ _ _ _ _ (@AF _ _ _ _ _ (@AA _ _ _ _ _ (pv 2) (@AA _ _ _ _ _ CC AB rfl) rfl)) (@AA _ _ _ _ _ (@AF _ _ _ _ _ (@AA _ _ _ _ _ AH AB rfl)) (@AA _ _ _ _ _ (@AF _ _ _ _ _ (@AA _ _ _ _ _ AD AB rfl)) AB rfl) rfl) rfl) rfl) rfl) rfl) rfl) rfl) rfl) rfl) rfl) rfl)) rfl (Or.inl rfl)) (@AM _ _ _ _ _ _ rfl (@Ae _ _ 3 _ _ _ _ g rfl (Or.inl rfl) (@AQ _ _ _ _ _ _ _ _ Cb (pv 3) (@Aa _ _ _ _ (@AA _ _ _ _ _ (@AF _ _ _ _ _ (@AA _ _ _ _ _ (pv 2) (@AA _ _ _ _ _ AD (@AA _ _ _ _ _ (@AQ _ _ _ _ _ _ _ _ Ky AD AD) AB rfl) rfl) rfl)) (@AA _ _ _ _ _ (@AQ _ _ _ _ _ _ _ _ NS (@AF _ _ _ _ _ (@AA _ _ _ _ _ (pv 2) AB rfl)) AD) (@AA _ _ _ _ _ (@AF _ _ _ _ _ (@AA _ _ _ _ _ AH AB rfl)) (@AA _ _ _ _ _ (@AF _ _ _ _ _ (@AA _ _ _ _ _ (@AF _ _ _ _ _ (@AA _ _ _ _ _ (pv 2) AB rfl)) AB rfl)) AB rfl) rfl) rfl) rfl))) rfl (Or.inl rfl)) (@AE _ _ _ (@AL _ _ _ _ (@BH _ _ _ _ _ _ (Cn K) Az (pv 3) (@AQ _ _ _ _ _ _ _ _ An (BW d C (@AA _ _ _ _ _ (pv 0) (@AA _ _ _ _ _ AD AB rfl) rfl)) AD) (fun _ _=>rfl))))))),?_⟩;refine⟨_,rfl,_,rfl,c,4,rfl,by decide,fun p _ _=>⟨_,_,rfl,rfl,Ax,?_⟩⟩;have r:=CB p (n:=6) (by decide);obtain⟨j,D⟩:∃j:Nat,p % 6=(j:Int):=⟨(p % 6).toNat,(Int.toNat_of_nonneg r.1).symm⟩;obtain⟨y,E⟩:=dn ys j (by rw[ly];exact Int.ofNat_lt.mp (D▸r.2));have s:=ny y (mu E);refine⟨n,_,_,_,rfl,rfl,BC.of hn,by rw[D];exact BJ (by rw[List.getElem?_map,E];rfl),?_⟩;refine⟨Nat.zero_le _,.mk fun p1 H1 n1 s1 f1=>⟨_,rfl,AN,.mk fun p2 H2 n2 s2 f2=>⟨_,rfl,AN,.mk fun p3 H3 n3 s3 f3=>⟨1,rfl,AN,.mk fun p4 H4 n4 s4 f4=>⟨_,rfl,AS,.mk fun p5 H5 n5 s5 f5=>⟨_,rfl,AS,.mk fun p6 H6 n6 s6 f6=>⟨AN,.mk fun p7 H7 n7 s7 f7=>⟨AN,.mk fun p8 H8 n8 s8 f8=>⟨AR (show 12<=1000 by decide),.mk fun L H9 n9 s9 f9=>?_⟩⟩⟩⟩⟩⟩⟩⟩⟩;refine⟨_,rfl,_,rfl,_,_,rfl,rfl,⟨by decide,by decide,by decide⟩,Aw,.mk fun q1 G1 m1 G g1=>⟨_,rfl,AN,.mk fun q2 G2 m2 I g2=>⟨q2,13,_,rfl,rfl,g2,List.cons_ne_nil _ _,by decide,(show 1*13<=1000 by decide),.mk fun q3 G3 m3 J g3=>⟨AN,.mk fun q4 G4 m4 O g4=>⟨_,rfl,AN,.mk fun q5 G5 m5 Q g5=>⟨AN,.mk fun q6 G6 r R g6=>⟨AR (show 4<=1000 by decide),.mk fun M G7 m7 S g7=>?_⟩⟩⟩⟩⟩⟩⟩;have tL:=((((((G.trans I).trans J).trans O).trans Q).trans R).trans S);refine⟨L,M,_,_,rfl,rfl,tL _ _ f9,g7,AR (show 16<=1000 by decide),.mk fun N b m8 t8 g8=>?_⟩;refine⟨_,rfl,_,rfl,c,3,rfl,by decide,fun r2 _ _=>?_⟩;have U:=CB r2 (n:=16) (by decide);obtain⟨v,hv,X⟩:=BO (xs:=([V.ref p1,.ref p2,.str y,.int 0,.Aj,.bl true,.ref p3,.ref p4,.ref p5,.ref p6,.ref p7,.ref p8]++[V.ref q1,.ref q3,.ref q4,.ref q6]:List V)) U.1 (by exact U.2);refine⟨_,_,rfl,rfl,Ax,N,_,_,_,rfl,rfl,BC.of g8,hv,?_⟩;have u8:=t8;have Y:=S.trans u8;have Z:=R.trans Y;have u5:=Q.trans Z;have u4:=O.trans u5;have u3:=J.trans u4;have u2:=I.trans u3;have z9:=G.trans u2;have z8:=s9.trans z9;have z7:=s8.trans z8;have z6:=s7.trans z7;have z5:=s6.trans z6;have z4:=s5.trans z5;have z3:=s4.trans z4;have z2:=s3.trans z3;have z1:=s2.trans z2;have z:=s1.trans z1;have m:Short (.str y):=fun x e=>by cases e;exact Nat.le_trans (CK s).2 (by decide)
 have i:∀{v:V},(∀x,v≠.str x)->Short v:=fun h x e=>absurd e (h x);have tup:∀{a:Addr}{xs:List V},b a=some (.tup xs)->xs.length<=100->(∀x∈xs,(∃T,DY b x T)/\Short x)->Co (some xs)=false->En.rt (.ref a) b:=fun h l ts e=>q _ _ b z (.tup h l ts) e;simp only[List.cons_append,List.nil_append,List.mem_cons,List.not_mem_nil,or_false]at X;have one:∀{x:V},(∃T,DY b x T)->Short x->∀z∈[x],(∃T,DY b z T)/\Short z:=fun t u z k=>by rw[List.mem_singleton.mp k];exact⟨t,u⟩
 have two:∀{x A:V},(∃T,DY b x T)/\Short x->(∃T,DY b A T)/\Short A->∀z∈[x,A],(∃T,DY b z T)/\Short z:=fun t u z k=>by
  rcases List.mem_cons.mp k with rfl|k
  ·exact t
  ·rw[List.mem_singleton.mp k];exact u
 rcases X with rfl|rfl|rfl|rfl|rfl|rfl|rfl|rfl|rfl|rfl|rfl|rfl|rfl|rfl|rfl|rfl
 ·exact q _ none b z (.no (.lst (.inl (z1 _ _ f1))) rfl) rfl
 ·exact q _ none b z (.no (.lst (.inl (z2 _ _ f2))) rfl) rfl
 ·exact q _ none b z (.no (.str y) rfl) rfl
 ·exact q _ none b z (.no (.int 0) rfl) rfl
 ·exact q _ none b z (.no .Aj rfl) rfl
 ·exact q _ none b z (.no (.bl true) rfl) rfl
 ·exact tup (z3 _ _ f3) (by simp) (one ⟨_,.str _⟩ fun x e=>by cases e;decide) (by decide+kernel)
 ·exact tup (z4 _ _ f4) (by simp) (one ⟨_,.int _⟩ (i fun _=>nofun)) (by decide+kernel)
 ·exact tup (z5 _ _ f5) (by simp) (two ⟨⟨_,.str _⟩,m⟩ ⟨⟨_,.bl _⟩,i fun _=>nofun⟩) (by simp[Co,BP])
 ·exact tup (z6 _ _ f6) (by simp) (two ⟨⟨_,.str _⟩,m⟩ ⟨⟨_,.Aj⟩,i fun _=>nofun⟩) (by simp[Co,BP])
 ·exact tup (z7 _ _ f7) (by simp) (one ⟨_,.str _⟩ fun x e=>by cases e;decide) (by decide+kernel)
 ·exact tup (z8 _ _ f8) (by simp) (one ⟨_,.int _⟩ (i fun _=>nofun)) (by decide+kernel)
 ·refine tup (u2 _ _ g1) (by simp) (fun x o=>?_) (by simp[Co,Bg]);simp only[List.mem_cons,List.not_mem_nil,or_false]at o;rcases o with rfl|rfl|rfl
  ·exact⟨⟨_,.str _⟩,m⟩
  ·exact⟨⟨_,.int _⟩,i fun _=>nofun⟩
  ·exact⟨⟨_,.int _⟩,i fun _=>nofun⟩
 ·refine tup (u4 _ _ g3) (by simp[List.replicate]) (fun x o=>?_) (by simp[Co,List.replicate]);have:x=.str y:=by simpa[List.replicate]using o
  rw[this];exact⟨⟨_,.str _⟩,m⟩
 ·exact tup (u5 _ _ g4) (by simp) (one ⟨_,.str _⟩ fun x e=>by cases e;decide) (by decide+kernel)
 ·exact tup (Y _ _ g6) (by simp) (one ⟨_,.tup (Z _ _ g5)⟩ (i fun _=>nofun)) rfl
theorem KU{S:FuncData}(F:Fq K "_law_odd_value" 69 f S)(T:Txt mg)(g:Df P w K mg base "_law_mix" ["_law_cell_here","_law_k"] 1 DT):AX P w K mg base BN 3 f S ["_law_cell_here","_law_names_here"] RN:=by
 refine F.oq ["_law_cell_here","_law_names_here","_law_one","_law_some"] fun H En _ o _ U h=>?_;obtain⟨c,n,ys,rfl,X,Y,Z,q⟩:=h;refine⟨_,(@AM _ _ _ _ _ _ rfl (@Ae _ _ 2 _ _ _ _ o rfl (Or.inl rfl) (@BH _ _ _ _ _ _ (Cn K) Az (pv 1) (@AQ _ _ _ _ _ _ _ _ An (@AQ _ _ _ _ _ _ _ _ CY (BW g U (@AA _ _ _ _ _ (pv 0) (@AA _ _ _ _ _ AD AB rfl) rfl)) AD) AD) (fun _ _=>rfl)) rfl (Or.inl rfl)) (@AM _ _ _ _ _ _ rfl (@Ae _ _ 3 _ _ _ _ o rfl (Or.inl rfl) (@Aa _ _ _ _ (@AA _ _ _ _ _ CC (@AA _ _ _ _ _ Bb (@AA _ _ _ _ _ (@AF _ _ _ _ _ (@AA _ _ _ _ _ AD AB rfl)) (@AA _ _ _ _ _ AH (@AA _ _ _ _ _ AH (@AA _ _ _ _ _ (@Dz _ _ _ _ _ _ (@BM _ _ _ _ _ _ _ _ _ AD AD Dr)) (@AA _ _ _ _ _ (@Aa _ _ _ _ (@AA _ _ _ _ _ CC AB rfl)) (@AA _ _ _ _ _ (@Dz _ _ _ _ _ _ (@BM _ _ _ _ _ _ _ _ _ (pv 2) Bb Dr)) (@AA _ _ _ _ _ (@Dz _ _ _ _ _ _ (@BM _ _ _ _ _ _ _ _ _ (pv 2) (@Aa _ _ _ _ (@AA _ _ _ _ _ (pv 2) (@AA _ _ _ _ _ (@AF _ _ _ _ _ (@AA _ _ _ _ _ (pv 2) AB rfl)) AB rfl) rfl)) Dr)) (@AA _ _ _ _ _ (@Aa _ _ _ _ (@AA _ _ _ _ _ (@Aa _ _ _ _ (@AA _ _ _ _ _ Bb AB rfl)) AB rfl)) AB rfl) rfl) rfl) rfl) rfl) rfl) rfl) rfl) rfl) rfl)) rfl (Or.inl rfl)) (@AE _ _ _ (@AL _ _ _ _ (@BH _ _ _ _ _ _ (Cn K) Az (@AQ _ _ _ _ _ _ _ _ Cb (pv 3) (@Aa _ _ _ _ (@AA _ _ _ _ _ (@Dz _ _ _ _ _ _ (@BM _ _ _ _ _ _ _ _ _ AH AD Dr)) (@AA _ _ _ _ _ (@AQ _ _ _ _ _ _ _ _ CZ (pv 2) AH) AB rfl) rfl))) (@AQ _ _ _ _ _ _ _ _ An (BW g U (@AA _ _ _ _ _ (pv 0) (@AA _ _ _ _ _ AD AB rfl) rfl)) AD) (fun _ _=>rfl)))))),?_⟩;refine⟨_,rfl,_,rfl,c,4,rfl,by decide,fun r1 _ _=>⟨_,_,rfl,rfl,Bm,_,_,rfl,rfl,Ax,?_⟩⟩;have m1:=CB (r1/6) (n:=6) (by decide);obtain⟨v1,p,r⟩:=BO (xs:=ys.map V.str) m1.1 (by rw[List.length_map,Y];exact m1.2);obtain⟨one,h1,rfl⟩:=List.mem_map.mp r;refine⟨n,_,_,_,rfl,rfl,BC.of X,p,?_⟩;have l:=Z one h1;have l1:=CK l;clear X p r h1 Z Y;refine⟨AN,.mk fun p2 H1 lX s1 f1=>?_⟩;refine fun p5 B=>⟨AG,[(Sum.inl (1:Int),V.int 2)],rfl,by simp,?_⟩;obtain⟨H2,e2,s2,_,f2⟩:=Uj (Sum.inl 1) (.int 2) B (AJ.refl _);rw[e2];clear e2;refine⟨AN,.mk fun p6 H3 lY s3 f3=>?_⟩;refine fun p7 C=>⟨_,rfl,AG,[(Sum.inr one,V.bl true)],rfl,by simp,?_⟩;obtain⟨H4,e4,s4,_,f4⟩:=Uj (Sum.inr one) (.bl true) C (AJ.refl _);rw[e4];clear e4;refine fun p8 D=>⟨_,rfl,_,rfl,_,rfl,AN,.mk fun t8 G1 E G I=>⟨AS,.mk fun l8 G2 J L M=>⟨L _ _ (G _ _ AG),[(Sum.inr one,.ref l8)],rfl,by simp,?_⟩⟩⟩;obtain⟨H5,e5,s5,k5,f5⟩:=Uj (Sum.inr one) (.ref l8) D (G.trans L);rw[e5];clear e5;have N:=k5 _ _ (Ak (G _ _ AG) J).symm M;have s:=k5 _ _ (Ak AG E).symm (L _ _ I);refine⟨AN,.mk fun i9 H6 lZ s6 f6=>⟨AN,.mk fun p9 H7 la s7 f7=>⟨AR (show 10<=1000 by decide),.mk fun L1 H8 lb s8 f8=>?_⟩⟩⟩;refine⟨_,rfl,fun O u=>⟨AG,[(Sum.inr ("":Str),V.int 1)],rfl,by simp,?_⟩⟩;obtain⟨H9,e9,s9,_,f9⟩:=Uj (Sum.inr "") (.int 1) u (AJ.refl _);rw[e9];clear e9;refine⟨_,rfl,_,_,rfl,rfl,Nat.le_of_lt (BK (by show one.length+1<=1000;lia)),AS,.mk fun L2 HA lg sA fA=>⟨L1,L2,_,_,rfl,rfl,sA _ _ (s9 _ _ f8),fA,AR (show 10+2<=1000 by decide),.mk fun L3 y lh sB fB=>?_⟩⟩;refine⟨_,rfl,c,5,rfl,by decide,fun r0 _ _=>⟨_,_,rfl,rfl,Ax,?_⟩⟩;have m0:=CB r0 (n:=12) (by decide);obtain⟨v,hv,j⟩:=BO (xs:=([V.Aj,.bl true,.ref p2,.str "A",.str "abcdefghijklm",.ref p5,.ref p6,.ref p7,.ref p8,.ref p9]++[.ref O,.str (one++" ")])) m0.1 (by exact m0.2);refine⟨L3,_,_,_,rfl,rfl,BC.of fB,hv,?_⟩;have Q:=sA.trans sB;have z9:=s9.trans Q;have z8:=s8.trans z9;have z7:=s7.trans z8;have z6:=s6.trans z7;have z5:=s5.trans z6;have z4:=s4.trans z5;have z3:=s3.trans z4;have z2:=s2.trans z3;have z:=s1.trans z2;have k:∀{v:V}{m:Nat},Tr y false m 5 v->m<=900->En.rt v y:=fun{v m} t h=>q v m 5 y z t h;have F1:∀{b k:Nat},8<=b->BL y (.str one) b k:=fun h=>BL.str (EN l) (Nat.le_trans l1.2 h);have R:∀{i:Int}{b k:Nat},i.natAbs<1000->BL y (.int i) b k:=fun h=>(BL.int (Nat.lt_of_lt_of_le h (by decide))).mono (Nat.zero_le _) (Nat.le_refl _);have d:∀z∈sgn one,z<16 ^ 8:=fun z a=>HJ (List.all_eq_true.mp (EN l) z a);rcases List.mem_append.mp j with j|j
 ·simp only[List.mem_cons,List.not_mem_nil,or_false]at j;rcases j with rfl|rfl|rfl|rfl|rfl|rfl|rfl|rfl|rfl|rfl
  ·exact k (.odd .Aj .Aj) (by decide)
  ·exact k (.odd (.bl true) .bl) (by decide)
  ·exact k (.odd (.tup (z2 _ _ f1)) ((BL.tup (n:=0) (z2 _ _ f1) (Gm.cons (b:=0) (R (by decide)) Gm.nil)).mono (by decide) (by decide))) (by decide)
  ·exact k (.odd (.txt (by decide+kernel) (by decide+kernel)) (BL.txt (by decide+kernel) (by decide+kernel))) (by decide)
  ·exact k (.odd (.txt (by decide+kernel) (by decide+kernel)) (BL.str (by decide+kernel) (by decide+kernel))) (by decide)
  ·exact k (.odd (.key (.inl (z3 _ _ f2)) rfl (fun x e=>by cases e)) ((BL.key (b:=0) (n:=0) (.inl (z3 _ _ f2)) ⟨.int 1,rfl,by decide+kernel,by decide+kernel,by decide,by decide⟩ (R (b:=0) (by decide))).mono (by decide) (by decide))) (by decide)
  ·exact k (.node (.row (.inl (z4 _ _ f3))) (.one (.odd .Aj .Aj))) (by decide)
  ·exact k (.node (.tab (ks:=[one]) (.inl (z5 _ _ f4)) rfl (by simp) (fun z a=>by rw[List.mem_singleton.mp a];exact l) (show 1<64 by decide)) (.one (.odd (.bl true) .bl))) (by decide)
  ·have fo:=(BL.tup (n:=0) (z6 _ _ s) (Gm.cons (b:=8) (F1 (Nat.le_refl _)) Gm.nil)).mono (b':=78) (n':=3) (by decide) (by decide);exact k (.node (.tab (ks:=[one]) (.inl (z6 _ _ f5)) rfl (by simp) (fun z a=>by rw[List.mem_singleton.mp a];exact l) (show 1<64 by decide)) (.one (.node (.row (.inl (z6 _ _ N))) (.cons (.node (k:=2) (.leaf (.inr ⟨one,rfl,PF l⟩)) .nil) (.one (.odd (.tup (z6 _ _ s)) fo)))))) (by decide)
  ·exact k (.node (.row (.inl (z8 _ _ f7))) (.one (.node (.row (.inl (z7 _ _ f6))) (.one (.odd (.bl false) .bl))))) (by decide)
 ·simp only[List.mem_cons,List.not_mem_nil,or_false]at j;rcases j with rfl|rfl
  ·exact k (.odd (.key (.inl (Q _ _ f9)) (by decide+kernel) (fun x e=>by cases e;decide+kernel)) ((BL.key (n:=0) (.inl (Q _ _ f9)) (kS (b:=0) (fun z a=>by rw[show sgn ("":Str)=[]from by decide+kernel]at a;cases a) (by decide+kernel)) (R (b:=0) (by decide))).mono (by decide) (by decide))) (by decide)
  ·have A:sgn (" ":Str)=[32]:=by decide+kernel
   have ln:(one++(" ":Str)).length<=9:=by rw[Str.length_append];show _+1<=9;lia
   refine k (.odd (.txt (by lia) (Q_ (c:=32) (by rw[BE,A];exact List.mem_append_right _ (List.mem_singleton.mpr rfl)) (by decide+kernel))) (BL.txt (fun z a=>?_) (by lia))) (by decide);rw[BE,A]at a;rcases List.mem_append.mp a with a|a
   ·exact d z a
   ·rw[List.mem_singleton.mp a];decide
theorem KW{k:FuncData}(F:Fq K "_law_good_path" 70 f k)(T:Txt mg):AX P w K mg base BN 2 f k ["_law_number","_law_names_here"] FF:=by
 refine F.oq ["_law_number","_law_names_here","_law_some"] fun H _ _ g _ hr h=>?_;obtain⟨c,n,l,rfl,m,o,O,q⟩:=h;refine⟨_,(AI (BZ 2 g (Aa (AA (AF (Au (PM K (pv 1) AD))) (AA (AF (Au AD)) (AA (AF (AA (PM K (pv 1) AD) (AA AD (Au (PM K (pv 1) AD))))) (AA (AF (AA AD (Au (PM K (pv 1) AD)))) (AA (AF (AA AD (AA AD (Au (PM K (pv 1) AD))))) (Au (AQ NS (AF (Au (PM K (pv 1) AD))) AD))))))))) (AE (AL (PM K (pv 2) (AQ An (pv 0) AD))))),?_⟩;have get:∀j:Nat,j<6->∃y,Hs (l.map V.str) (j:Int)=some (.str y)/\BD y=true:=fun j p=>⟨l[j]'(by rw[o];exact p),BJ (by rw[List.getElem?_map,mn (by rw[o];exact p)];rfl),O _ (List.getElem_mem _)⟩;obtain⟨y0,Q,R⟩:=get 0 (by decide);obtain⟨y1,a1,S⟩:=get 1 (by decide);obtain⟨y2,a2,U⟩:=get 2 (by decide);obtain⟨y3,a3,X⟩:=get 3 (by decide);obtain⟨y4,a4,Y⟩:=get 4 (by decide);obtain⟨y5,a5,Z⟩:=get 5 (by decide);refine⟨_,rfl,n,_,0,_,rfl,rfl,BC.of m,Q,AN,.mk fun r H0 n0 s f0=>⟨AN,.mk fun t H1 n1 u f1=>?_⟩⟩;have a:=u _ _ (s _ _ m);refine⟨_,rfl,n,_,1,_,rfl,rfl,BC.of a,a1,_,rfl,n,_,2,_,rfl,rfl,BC.of a,a2,Aw,.mk fun x H2 n2 A f2=>?_⟩;have d:=A _ _ a;refine⟨_,rfl,n,_,3,_,rfl,rfl,BC.of d,a3,AS,.mk fun B H3 n3 C f3=>?_⟩;have e:=C _ _ d;refine⟨_,rfl,n,_,5,_,rfl,rfl,BC.of e,a5,Aw,.mk fun E H4 n4 G f4=>?_⟩;have i:=G _ _ e;refine⟨_,rfl,n,_,4,_,rfl,rfl,BC.of i,a4,AN,.mk fun p5 H5 n5 s5 f5=>⟨p5,12,_,rfl,rfl,f5,List.cons_ne_nil _ _,by decide,(show 1*12<=1000 by decide),.mk fun I H6 n6 s6 f6=>⟨AR (show 6<=1000 by decide),.mk fun D b n7 J f7=>?_⟩⟩⟩;have L:=CB c (n:=6) (by decide);obtain⟨v,hv,M⟩:=BO (xs:=[V.ref r,V.ref t,V.ref x,V.ref B,V.ref E,V.ref I]) L.1 (by exact L.2);refine⟨_,rfl,_,rfl,_,_,rfl,rfl,Ax,D,_,_,_,rfl,rfl,BC.of f7,hv,?_⟩;have z6:=s6.trans J;have z5:=s5.trans z6;have z4:=z5;have z3:=G.trans z5;have z2:=C.trans z3;have z1:=A.trans z2;have N:=u.trans z1;have z:=s.trans N;simp only[List.mem_cons,List.not_mem_nil,or_false]at M;rcases M with rfl|rfl|rfl|rfl|rfl|rfl
 ·exact q _ _ b z ⟨r,rfl,N _ _ f0,by simp[Co,BP,Bg,R],by simp⟩
 ·exact q _ _ b z ⟨t,rfl,z1 _ _ f1,by simp[Co,BP,Bg],by simp⟩
 ·exact q _ _ b z ⟨x,rfl,z2 _ _ f2,by simp[Co,BP,Bg,S,U],by simp⟩
 ·exact q _ _ b z ⟨B,rfl,z3 _ _ f3,by simp[Co,BP,Bg,X],by simp⟩
 ·exact q _ _ b z ⟨E,rfl,z5 _ _ f4,by simp[Co,BP,Bg,Z],by simp⟩
 ·exact q _ _ b z ⟨I,rfl,J _ _ f6,by simp[Co,BP,Bg,Y,List.replicate],by simp[List.replicate]⟩
theorem Ro(F:Fq K "_law_third" 71 f B)(T:Txt mg)(g:Df P w K mg base "_law_mix" ["_law_cell_here","_law_k"] 1 DT)(b:Df P w K mg base "_law_odd_path" ["_law_cell_here","_law_names_here"] 3 Ln)(a:Df P w K mg base "_law_odd_value" ["_law_cell_here","_law_names_here"] 3 RN):AX P w K mg base BN 4 f B ["_law_word","_law_cell_here","_law_names_here"] NT:=by
 refine F.oq ["_law_word","_law_cell_here","_law_names_here"] fun H G _ _ _ d h=>?_;obtain⟨I,c,n,l,rfl,hw,o,u,y,q⟩:=h;refine⟨_,(@AM _ _ _ _ _ _ rfl (@Am _ _ _ _ _ _ _ _ (PW.pt (pw_or (AV Bk (pv 0) AH (AY _)) (pw_or1 (AV Bk (pv 0) AH (AY _))))) (@AE _ _ _ (@AL _ _ _ _ (BW b d (@AA _ _ _ _ _ (pv 1) (@AA _ _ _ _ _ (pv 2) AB rfl) rfl)))) AU) (@AM _ _ _ _ _ _ rfl (@Am _ _ _ _ _ _ _ _ (AV Bk (pv 0) AH (AY _)) (@AE _ _ _ (@AL _ _ _ _ (@BH _ _ _ _ _ _ (Cn K) Az (@Aa _ _ _ _ (@AA _ _ _ _ _ AH (@AA _ _ _ _ _ AH (@AA _ _ _ _ _ AH (@AA _ _ _ _ _ CC (@AA _ _ _ _ _ Bb (@AA _ _ _ _ _ (@Aa _ _ _ _ (@AA _ _ _ _ _ AH AB rfl)) (@AA _ _ _ _ _ AH (@AA _ _ _ _ _ AH AB rfl) rfl) rfl) rfl) rfl) rfl) rfl) rfl)) (@AQ _ _ _ _ _ _ _ _ An (BW g d (@AA _ _ _ _ _ (pv 1) (@AA _ _ _ _ _ AD AB rfl) rfl)) AD) (fun _ _=>rfl)))) AU) (@AE _ _ _ (@AL _ _ _ _ (BW a d (@AA _ _ _ _ _ (pv 1) (@AA _ _ _ _ _ (pv 2) AB rfl) rfl)))))),?_⟩;rcases hw with j|rfl|rfl|rfl
 ·have ne:∀x:Str,x∉BQ->decide (V.str I=V.str x)=false:=fun x J=>decide_eq_false fun e=>J (V.str.inj e▸j);exact⟨_,rfl,rfl,_,rfl,Af (ne _ (by decide+kernel)) ⟨_,rfl,rfl,_,rfl,Af (ne _ (by decide+kernel)) ⟨_,rfl,rfl,_,rfl,Af (ne _ (by decide+kernel)) ⟨_,rfl,_,rfl,c,n,l,rfl,o,u,y,fun v m k i s t M=>q v i s fun xs=>.val j t M⟩⟩⟩⟩
 ·refine⟨_,rfl,rfl,_,rfl,Af rfl ⟨_,rfl,rfl,_,rfl,Af rfl ⟨_,rfl,rfl,_,rfl,Ag rfl ⟨AN,.mk fun N S U O Q=>⟨AR (show 8<=1000 by decide),.mk fun L z X C R=>⟨_,rfl,c,5,rfl,by decide,fun r _ _=>?_⟩⟩⟩⟩⟩⟩;have D:=CB r (n:=8) (by decide);obtain⟨v,j,E⟩:=BO (xs:=[V.str "number",.str "text",.str "rows",.Aj,.bl true,.ref N,.str "Row",.str ""]) D.1 (by exact D.2);refine⟨_,_,rfl,rfl,Ax,L,_,_,_,rfl,rfl,BC.of R,j,?_⟩;have k:∀{v:V}{T:String},DY z v T->WX v=false->G.rt v z:=fun{v T} t e=>q _ z (O.trans C) fun xs=>by have:=HP.kind (xs:=xs) t;rw[e]at this;exact this
  simp only[List.mem_cons,List.not_mem_nil,or_false]at E;rcases E with rfl|rfl|rfl|rfl|rfl|rfl|rfl|rfl
  ·exact k (.str _) (by decide+kernel)
  ·exact k (.str _) (by decide+kernel)
  ·exact k (.str _) (by decide+kernel)
  ·exact k .Aj rfl
  ·exact k (.bl _) rfl
  ·exact k (.lst (.inl (C _ _ Q))) rfl
  ·exact k (.str _) (by decide+kernel)
  ·exact k (.str _) (by decide+kernel)
 ·exact⟨_,rfl,rfl,_,rfl,Af rfl ⟨_,rfl,rfl,_,rfl,Ag rfl ⟨_,rfl,_,rfl,c,n,l,rfl,o,u,y,fun v p i s A d=>q v i s fun xs=>by have:=HP.WY (xs:=xs) (w:="copy") (.inl rfl) A;rw[d]at this;exact this⟩⟩⟩
 ·exact⟨_,rfl,rfl,_,rfl,Ag rfl (Ag rfl ⟨_,rfl,_,rfl,c,n,l,rfl,o,u,y,fun v p i s A d=>q v i s fun xs=>by have:=HP.WY (xs:=xs) (w:="move") (.inr rfl) A;rw[d]at this;exact this⟩)⟩
theorem Ur(F:Fq K "_law_none" 72 f fd)(T:Txt mg)(g:Df P w K mg base "_law_mix" ["_law_cell_here","_law_k"] 1 DT)(b:Df P w K mg base "_law_good_path" ["_law_number","_law_names_here"] 2 FF):AX P w K mg base BN 3 f fd ["_law_cell_here","_law_names_here"] Ri:=by
 refine F.oq ["_law_cell_here","_law_names_here","_law_path","_law_some"] fun H _ _ d _ hr h=>?_;obtain⟨c,n,ys,rfl,hn,ly,ny,q⟩:=h;refine⟨_,(@AM _ _ _ _ _ _ rfl (@Ae _ _ 2 _ _ _ _ d rfl (Or.inl rfl) (BW b hr (@AA _ _ _ _ _ (BW g hr (@AA _ _ _ _ _ (pv 0) (@AA _ _ _ _ _ AD AB rfl) rfl)) (@AA _ _ _ _ _ (pv 1) AB rfl) rfl)) rfl (Or.inl rfl)) (@AM _ _ _ _ _ _ rfl (@Ae _ _ 3 _ _ _ _ d rfl (Or.inl rfl) (@Aa _ _ _ _ (@AA _ _ _ _ _ CC (@AA _ _ _ _ _ AD (@AA _ _ _ _ _ Bb (@AA _ _ _ _ _ AH (@AA _ _ _ _ _ (@Aa _ _ _ _ AB) (@AA _ _ _ _ _ (@AF _ _ _ _ _ AB) (@AA _ _ _ _ _ (@Aa _ _ _ _ (@AA _ _ _ _ _ AH (@AA _ _ _ _ _ (pv 2) AB rfl) rfl)) (@AA _ _ _ _ _ (@AF _ _ _ _ _ (@AA _ _ _ _ _ AH AB rfl)) (@AA _ _ _ _ _ (@AF _ _ _ _ _ (@AA _ _ _ _ _ AH (@AA _ _ _ _ _ (pv 2) AB rfl) rfl)) (@AA _ _ _ _ _ (@AF _ _ _ _ _ (@AA _ _ _ _ _ AH (@AA _ _ _ _ _ (pv 2) (@AA _ _ _ _ _ AD (@AA _ _ _ _ _ AD AB rfl) rfl) rfl) rfl)) (@AA _ _ _ _ _ (@AF _ _ _ _ _ (@AA _ _ _ _ _ AH AB rfl)) AB rfl) rfl) rfl) rfl) rfl) rfl) rfl) rfl) rfl) rfl) rfl)) rfl (Or.inl rfl)) (@AM _ _ _ _ _ _ rfl (@Ae _ _ 3 _ _ _ _ d rfl (Or.inl rfl) (@AQ _ _ _ _ _ _ _ _ Cb (pv 3) (@Aa _ _ _ _ (@AA _ _ _ _ _ (@AF _ _ _ _ _ (@AA _ _ _ _ _ AH (@AA _ _ _ _ _ (pv 2) (@AA _ _ _ _ _ AD AB rfl) rfl) rfl)) (@AA _ _ _ _ _ (@AF _ _ _ _ _ (@AA _ _ _ _ _ AH (@AA _ _ _ _ _ (pv 2) AB rfl) rfl)) (@AA _ _ _ _ _ (@AF _ _ _ _ _ (@AA _ _ _ _ _ AH (@AA _ _ _ _ _ (pv 2) (@AA _ _ _ _ _ AD AB rfl) rfl) rfl)) (@AA _ _ _ _ _ (@AF _ _ _ _ _ (@AA _ _ _ _ _ AH (@AA _ _ _ _ _ (pv 2) (@AA _ _ _ _ _ AD AB rfl) rfl) rfl)) (@AA _ _ _ _ _ (@AF _ _ _ _ _ (@AA _ _ _ _ _ CC (@AA _ _ _ _ _ (pv 2) AB rfl) rfl)) (@AA _ _ _ _ _ (@AF _ _ _ _ _ (@AA _ _ _ _ _ AH (@AA _ _ _ _ _ (pv 2) AB rfl) rfl)) AB rfl) rfl) rfl) rfl) rfl) rfl))) rfl (Or.inl rfl)) (@AM _ _ _ _ _ _ rfl (@Ae _ _ 3 _ _ _ _ d rfl (Or.inl rfl) (@AQ _ _ _ _ _ _ _ _ Cb (pv 3) (@Aa _ _ _ _ (@AA _ _ _ _ _ (@AF _ _ _ _ _ (@AA _ _ _ _ _ (@AF _ _ _ _ _ (@AA _ _ _ _ _ AH AB rfl)) (@AA _ _ _ _ _ (pv 2) AB rfl) rfl)) (@AA _ _ _ _ _ (@AF _ _ _ _ _ (@AA _ _ _ _ _ (@Aa _ _ _ _ (@AA _ _ _ _ _ AH AB rfl)) (@AA _ _ _ _ _ (pv 2) AB rfl) rfl)) (@AA _ _ _ _ _ (@AF _ _ _ _ _ (@AA _ _ _ _ _ Bb (@AA _ _ _ _ _ (pv 2) AB rfl) rfl)) (@AA _ _ _ _ _ (@AF _ _ _ _ _ (@AA _ _ _ _ _ AD (@AA _ _ _ _ _ (pv 2) AB rfl) rfl)) (@AA _ _ _ _ _ (@AF _ _ _ _ _ (@AA _ _ _ _ _ AH AB rfl)) (@AA _ _ _ _ _ (@AF _ _ _ _ _ (@AA _ _ _ _ _ AH (@AA _ _ _ _ _ (pv 2) (@AA _ _ _ _ _ (pv 2) AB rfl) rfl) rfl)) AB rfl) rfl) rfl) rfl) rfl) rfl))) rfl (Or.inl rfl)) (@AM _ _ _ _ _ _ rfl (@Ae _ _ 3 _ _ _ _ d rfl (Or.inl rfl) (@AQ _ _ _ _ _ _ _ _ Cb (pv 3) (@Aa _ _ _ _ (@AA _ _ _ _ _ (@AF _ _ _ _ _ (@AA _ _ _ _ _ AH (@AA _ _ _ _ _ (pv 2) AB rfl) rfl)) (@AA _ _ _ _ _ (@AF _ _ _ _ _ (@AA _ _ _ _ _ AH (@AA _ _ _ _ _ (pv 2) (@AA _ _ _ _ _ (pv 2) (@AA _ _ _ _ _ (pv 2) AB rfl) rfl) rfl) rfl)) (@AA _ _ _ _ _ (@AF _ _ _ _ _ (@AA _ _ _ _ _ AH (@AA _ _ _ _ _ (pv 2) AB rfl) rfl)) (@AA _ _ _ _ _ (@AF _ _ _ _ _ (@AA _ _ _ _ _ AH (@AA _ _ _ _ _ (pv 2) AB rfl) rfl)) (@AA _ _ _ _ _ (@AF _ _ _ _ _ (@AA _ _ _ _ _ Fd (@AA _ _ _ _ _ (pv 2) AB rfl) rfl)) (@AA _ _ _ _ _ (@AF _ _ _ _ _ (@AA _ _ _ _ _ (pv 2) AB rfl)) AB rfl) rfl) rfl) rfl) rfl) rfl))) rfl (Or.inl rfl)) (@AE _ _ _ (@AL _ _ _ _ (@BH _ _ _ _ _ _ (Cn K) Az (@AQ _ _ _ _ _ _ _ _ Cb (pv 3) (@Aa _ _ _ _ (@AA _ _ _ _ _ (@AF _ _ _ _ _ (@AA _ _ _ _ _ AH (@AA _ _ _ _ _ (pv 2) (@AA _ _ _ _ _ (pv 2) AB rfl) rfl) rfl)) (@AA _ _ _ _ _ (@AF _ _ _ _ _ (@AA _ _ _ _ _ (pv 2) (@AA _ _ _ _ _ (pv 2) AB rfl) rfl)) (@AA _ _ _ _ _ (@AF _ _ _ _ _ (@AA _ _ _ _ _ AH AB rfl)) AB rfl) rfl) rfl))) (@AQ _ _ _ _ _ _ _ _ An (BW g hr (@AA _ _ _ _ _ (pv 0) (@AA _ _ _ _ _ AD AB rfl) rfl)) AD) (fun _ _=>rfl))))))))),?_⟩;refine⟨_,rfl,c,2,rfl,by decide,fun r0 _ _=>⟨_,rfl,r0,n,ys,rfl,hn,ly,ny,fun pv xs H0 s0 gp=>?_⟩⟩;obtain⟨pa,rfl,cm,_,_⟩:=gp;clear hn ly ny;refine⟨Nat.zero_le _,.mk fun p1 H1 n1 s1 f1=>?_⟩;refine⟨Nat.zero_le _,.mk fun p2 H2 n2 s2 f2=>?_⟩;refine⟨_,rfl,AS,.mk fun p3 H3 n3 s3 f3=>?_⟩;refine⟨AN,.mk fun p4 H4 n4 s4 f4=>?_⟩;refine⟨_,rfl,AS,.mk fun p5 H5 n5 s5 f5=>?_⟩;refine⟨_,rfl,AR (show 4<=1000 by decide),.mk fun p6 H6 n6 s6 f6=>?_⟩;refine⟨AN,.mk fun p7 H7 n7 s7 f7=>?_⟩;refine⟨AR (show 11<=1000 by decide),.mk fun L0 H8 n8 s8 f8=>?_⟩;have z7:=s8;have z6:=s7.trans z7;have z5:=s6.trans z6;have z4:=s5.trans z5;have z3:=s4.trans z4;have z2:=s3.trans z3;have z1:=s2.trans z2;have y0:=s1.trans z1;have jn:=y0 _ _ cm;have a0:DA H8 [V.Aj,.int 5,.bl true,.str "put",.ref p1,.ref p2,.ref p3,.ref p4,.ref p5,.ref p6,.ref p7]:=.cons ⟨none,.no (.Aj) rfl,rfl⟩ (.cons ⟨none,.no (.int 5) rfl,rfl⟩ (.cons ⟨none,.no (.bl true) rfl,rfl⟩ (.cons ⟨none,.no (.str _) rfl,rfl⟩ (.cons ⟨none,.no (.lst (.inl (z1 _ _ f1))) rfl,rfl⟩ (.cons ⟨some [],.tup (z2 _ _ f2) (Nat.zero_le _) (fun x e=>nomatch e),rfl⟩ (.cons ⟨none,.no (.lst (.inl (z3 _ _ f3))) rfl,rfl⟩ (.cons (.tup (z4 _ _ f4) (.str _) (by simp) rfl) (.cons (.tup (z5 _ _ f5) (.str _) (by simp) rfl) (.cons (.tup (z6 _ _ f6) (.str _) (by simp) rfl) (.cons (.tup (z7 _ _ f7) (.str _) (by simp) rfl) (.nil)))))))))));have a:=jn;obtain⟨S0,m,o⟩:∃S0:List V,S0=[V.Aj,.int 5,.bl true,.str "put",.ref p1,.ref p2,.ref p3,.ref p4,.ref p5,.ref p6,.ref p7]/\S0.length=11:=⟨_,rfl,rfl⟩;rw[<-m]at a0 f8;clear m;have w0:=s0.trans y0;refine⟨_,rfl,?_⟩;refine⟨_,rfl,Aw,.mk fun p9 H9 n9 s9 f9=>?_⟩;refine⟨_,rfl,AS,.mk fun r lj n10 s10 f10=>?_⟩;refine⟨_,rfl,Aw,.mk fun s ig n11 s11 f11=>?_⟩;refine⟨_,rfl,Aw,.mk fun t lq n12 s12 f12=>?_⟩;refine⟨_,rfl,AS,.mk fun u lr n13 s13 f13=>?_⟩;refine⟨_,rfl,AS,.mk fun y l_ n14 s14 f14=>?_⟩;refine⟨AR (show 6<=1000 by decide),.mk fun L1 jo n15 s15 f15=>?_⟩;have z14:=s15;have z13:=s14.trans z14;have z12:=s13.trans z13;have z11:=s12.trans z12;have z10:=s11.trans z11;have z9:=s10.trans z10;have y1:=s9.trans z9;have Au:=y1 _ _ a;have a1:DA jo [V.ref p9,.ref r,.ref s,.ref t,.ref u,.ref y]:=.cons (.tup (z9 _ _ f9) (.str _) (by simp) rfl) (.cons (.tup (z10 _ _ f10) (.str _) (by simp) rfl) (.cons (.tup (z11 _ _ f11) (.str _) (by simp) rfl) (.cons (.tup (z12 _ _ f12) (.str _) (by simp) rfl) (.cons (.tup (z13 _ _ f13) .Aj (by simp) rfl) (.cons (.tup (z14 _ _ f14) (.str _) (by simp) rfl) (.nil))))));refine⟨L0,L1,_,_,rfl,rfl,y1 _ _ f8,f15,AR (by rw[o];exact(show 11+6<=1000 by decide)),.mk fun M1 l' n16 i z=>?_⟩;have A:=((a0.up y1).app a1).up i;have a:=i _ _ Au;have w1:=w0.trans (y1.trans i);obtain⟨S1,B,C⟩:∃X:List V,X=S0++[V.ref p9,.ref r,.ref s,.ref t,.ref u,.ref y]/\X.length=17:=⟨_,rfl,by rw[List.length_append,o];rfl⟩;rw[<-B]at A z;clear B;refine⟨_,rfl,?_⟩;refine⟨AN,.mk fun p17 mB n17 s17 f17=>⟨_,rfl,AS,.mk fun D mC n18 s18 f18=>?_⟩⟩;refine⟨AN,.mk fun p19 mD n19 s19 f19=>⟨_,rfl,AS,.mk fun E mE n20 s20 f20=>?_⟩⟩;refine⟨_,rfl,AS,.mk fun G mF n21 s21 f21=>?_⟩;refine⟨_,rfl,AS,.mk fun I mG n22 s22 f22=>?_⟩;refine⟨AN,.mk fun J mH n23 s23 f23=>?_⟩;refine⟨_,rfl,_,rfl,Aw,.mk fun L mI n24 s24 f24=>?_⟩;refine⟨AR (show 6<=1000 by decide),.mk fun L2 jq n25 s25 f25=>?_⟩;have M:=s25;have N:=s24.trans M;have O:=s23.trans N;have Q:=s22.trans O;have R:=s21.trans Q;have S:=s20.trans R;have U:=s19.trans S;have z17:=s18.trans U;have y2:=s17.trans z17;have jr:=y2 _ _ a;have a2:DA jq [V.ref D,.ref E,.ref G,.ref I,.ref J,.ref L]:=.cons (.tup (U _ _ f18) (.tup (z17 _ _ f17)) (by simp) rfl) (.cons (.tup (R _ _ f20) (.lst (.inl (S _ _ f19))) (by simp) rfl) (.cons (.tup (Q _ _ f21) (.bl true) (by simp) rfl) (.cons (.tup (O _ _ f22) (.int _) (by simp) rfl) (.cons (.tup (N _ _ f23) (.str _) (by simp) rfl) (.cons (.tup (M _ _ f24) (.str _) (by simp) rfl) (.nil))))));refine⟨M1,L2,_,_,rfl,rfl,y2 _ _ z,f25,AR (by rw[C];exact(show 17+6<=1000 by decide)),.mk fun M2 mJ n26 j Y=>?_⟩;have Z:=((A.up y2).app a2).up j;have a:=j _ _ jr;have w2:=w1.trans (y2.trans j);obtain⟨S2,gL,gM⟩:∃X:List V,X=S1++[V.ref D,.ref E,.ref G,.ref I,.ref J,.ref L]/\X.length=23:=⟨_,rfl,by rw[List.length_append,C];rfl⟩;rw[<-gL]at Z Y;clear gL;refine⟨_,rfl,?_⟩;refine⟨_,rfl,AS,.mk fun p27 mK n27 s27 f27=>?_⟩;refine⟨_,rfl,_,rfl,_,rfl,AR (show 4<=1000 by decide),.mk fun p28 mL n28 s28 f28=>?_⟩;refine⟨_,rfl,AS,.mk fun p29 mM n29 s29 f29=>?_⟩;refine⟨_,rfl,AS,.mk fun p30 gN n30 s30 f30=>?_⟩;refine fun p31 n31=>?_;obtain⟨mO,e31,s31,f31⟩:∃X,upd gN p31 (.dK [])=X/\AJ gN X/\X p31=some (.dK []):=⟨_,rfl,AJ.new n31,AG⟩;rw[e31];clear e31;refine⟨_,rfl,AS,.mk fun p32 mP n32 s32 f32=>?_⟩;refine⟨_,rfl,AN,.mk fun p33 mQ n33 s33 f33=>?_⟩;refine⟨AR (show 6<=1000 by decide),.mk fun L3 js n34 s34 f34=>?_⟩;have z33:=s34;have z32:=s33.trans z33;have z31:=s32.trans z32;have z30:=s31.trans z31;have z29:=s30.trans z30;have z28:=s29.trans z29;have z27:=s28.trans z28;have y3:=s27.trans z27;have gO:=y3 _ _ a;have a3:DA js [V.ref p27,.ref p28,.ref p29,.ref p30,.ref p32,.ref p33]:=.cons (.tup (z27 _ _ f27) (.str _) (by simp) rfl) (.cons (.tup (z28 _ _ f28) (.str _) (by simp) rfl) (.cons (.tup (z29 _ _ f29) (.str _) (by simp) rfl) (.cons (.tup (z30 _ _ f30) (.str _) (by simp) rfl) (.cons (.tup (z32 _ _ f32) (.dK (.inl (z31 _ _ f31))) (by simp) rfl) (.cons (.tup (z33 _ _ f33) (.tup gO) (by simp) rfl) (.nil))))));refine⟨M2,L3,_,_,rfl,rfl,y3 _ _ Y,f34,AR (by rw[gM];exact(show 23+6<=1000 by decide)),.mk fun M3 mR n35 k f35=>?_⟩;have gP:=((Z.up y3).app a3).up k;have a:=k _ _ gO;have w3:=w2.trans (y3.trans k);obtain⟨S3,gQ,gR⟩:∃X:List V,X=S2++[V.ref p27,.ref p28,.ref p29,.ref p30,.ref p32,.ref p33]/\X.length=29:=⟨_,rfl,by rw[List.length_append,gM];rfl⟩;rw[<-gQ]at gP f35;clear gQ;refine⟨_,rfl,?_⟩;refine⟨_,rfl,_,rfl,Aw,.mk fun p36 mS n36 s36 f36=>?_⟩;refine⟨_,rfl,_,rfl,AS,.mk fun p37 mT n37 s37 f37=>?_⟩;refine⟨AN,.mk fun p38 mU n38 s38 f38=>?_⟩;refine⟨Aw,.mk fun L4 jt n39 s39 f39=>?_⟩;have z38:=s39;have z37:=s38.trans z38;have z36:=s37.trans z37;have y4:=s36.trans z36;have gS:=y4 _ _ a;have a4:DA jt [V.ref p36,.ref p37,.ref p38]:=.cons (.tup (z36 _ _ f36) (.str _) (by simp) rfl) (.cons (.tup (z37 _ _ f37) (.tup gS) (by simp) rfl) (.cons (.tup (z38 _ _ f38) (.str _) (by simp) rfl) (.nil)));refine⟨M3,L4,_,_,rfl,rfl,y4 _ _ f35,f39,AR (by rw[gR];exact(show 29+3<=1000 by decide)),.mk fun M4 mV n40 l f40=>?_⟩;have gT:=((gP.up y4).app a4).up l;have a:=l _ _ gS;have w4:=w3.trans (y4.trans l);obtain⟨S4,gU,ju⟩:∃X:List V,X=S3++[V.ref p36,.ref p37,.ref p38]/\X.length=32:=⟨_,rfl,by rw[List.length_append,gR];rfl⟩;rw[<-gU]at gT f40;clear gU;refine⟨_,rfl,c,6,rfl,by decide,fun r1 _ _=>⟨_,_,rfl,rfl,Ax,?_⟩⟩;have m1:=CB r1 (n:=32) (by decide);obtain⟨v,hv,mv⟩:=BO (xs:=S4) m1.1 (by rw[ju];exact m1.2);obtain⟨p,h1,h2⟩:=gT v mv;exact⟨M4,_,_,_,rfl,rfl,BC.of f40,hv,q v p _ w4 h1 h2⟩
theorem KX(F:Fq K "_law_whole_one" 73 f fd)(T:Txt mg)(k:Df P w K mg base "_law_mix" ["_law_cell_here","_law_k"] 1 DT):AX P w K mg base BN 3 f fd ["_law_cell_here","_law_path","_law_names_here"] HU:=by
 refine F.oq ["_law_cell_here","_law_path","_law_names_here","_law_turn","_law_last","_law_more","_law_some"] fun H _ _ b _ hr h=>?_;obtain⟨c,w0,xs,n,ys,rfl,gp,hn,ly,ny,q⟩:=h;refine⟨_,(@AM _ _ _ _ _ _ rfl (@Ae _ _ 3 _ _ _ _ b rfl (Or.inl rfl) (@AQ _ _ _ _ _ _ _ _ An (BW k hr (@AA _ _ _ _ _ (pv 0) (@AA _ _ _ _ _ AD AB rfl) rfl)) AD) rfl (Or.inl rfl)) (@AM _ _ _ _ _ _ rfl (@Am _ _ _ _ _ _ _ _ (AV Gx (pv 3) AD (AY _)) (@AM _ _ _ _ _ _ rfl (@Ae _ _ 4 _ _ _ _ b rfl (Or.inl rfl) (@AQ _ _ _ _ _ _ _ _ DN (Bt E_ (pv 1) DJ (CA (Mn Hn AD))) (@AF _ _ _ _ _ (@AA _ _ _ _ _ (@AQ _ _ _ _ _ _ _ _ An (BW k hr (@AA _ _ _ _ _ (pv 0) (@AA _ _ _ _ _ AD AB rfl) rfl)) AD) AB rfl))) rfl (Or.inl rfl)) (@AE _ _ _ (@AL _ _ _ _ (@AF _ _ _ _ _ (@AA _ _ _ _ _ (@BH _ _ _ _ _ _ (Cn K) Az (@Aa _ _ _ _ (@AA _ _ _ _ _ (@AF _ _ _ _ _ (@AA _ _ _ _ _ AH (@AA _ _ _ _ _ (@AF _ _ _ _ _ AB) (@AA _ _ _ _ _ AD AB rfl) rfl) rfl)) (@AA _ _ _ _ _ (@AF _ _ _ _ _ (@AA _ _ _ _ _ AH (@AA _ _ _ _ _ (@AF _ _ _ _ _ AB) AB rfl) rfl)) (@AA _ _ _ _ _ (@AF _ _ _ _ _ (@AA _ _ _ _ _ AH (@AA _ _ _ _ _ (@AF _ _ _ _ _ AB) (@AA _ _ _ _ _ (pv 1) AB rfl) rfl) rfl)) (@AA _ _ _ _ _ (@AF _ _ _ _ _ (@AA _ _ _ _ _ AH (@AA _ _ _ _ _ (@AF _ _ _ _ _ AB) AB rfl) rfl)) (@AA _ _ _ _ _ (@AF _ _ _ _ _ (@AA _ _ _ _ _ AH (@AA _ _ _ _ _ (pv 4) AB rfl) rfl)) AB rfl) rfl) rfl) rfl) rfl)) (pv 3) (fun _ _=>rfl)) (@AA _ _ _ _ _ AD AB rfl) rfl))))) AU) (@AM _ _ _ _ _ _ rfl (@Ae _ _ 5 _ _ _ _ b rfl (Or.inl rfl) (@AQ _ _ _ _ _ _ _ _ DN (Bt E_ (pv 1) DJ (CA AD)) (@AF _ _ _ _ _ (@AA _ _ _ _ _ (@BH _ _ _ _ _ _ (Cn K) Az (pv 2) AD (fun _ _=>rfl)) AB rfl))) rfl (Or.inl rfl)) (@AM _ _ _ _ _ _ rfl (@Ae _ _ 6 _ _ _ _ b rfl (Or.inl rfl) (@Aa _ _ _ _ (@AA _ _ _ _ _ (@AF _ _ _ _ _ (@AA _ _ _ _ _ AH (@AA _ _ _ _ _ (pv 1) (@AA _ _ _ _ _ (@AF _ _ _ _ _ AB) AB rfl) rfl) rfl)) (@AA _ _ _ _ _ (@AF _ _ _ _ _ (@AA _ _ _ _ _ AH (@AA _ _ _ _ _ (pv 1) (@AA _ _ _ _ _ (@AF _ _ _ _ _ AB) AB rfl) rfl) rfl)) (@AA _ _ _ _ _ (@AF _ _ _ _ _ (@AA _ _ _ _ _ AH (@AA _ _ _ _ _ (@AF _ _ _ _ _ AB) (@AA _ _ _ _ _ (@AF _ _ _ _ _ AB) AB rfl) rfl) rfl)) (@AA _ _ _ _ _ (@AF _ _ _ _ _ (@AA _ _ _ _ _ AH (@AA _ _ _ _ _ (pv 5) (@AA _ _ _ _ _ (@AQ _ _ _ _ _ _ _ _ DN (pv 5) (@AF _ _ _ _ _ (@AA _ _ _ _ _ (@BH _ _ _ _ _ _ (Cn K) Az (pv 2) AD (fun _ _=>rfl)) AB rfl))) AB rfl) rfl) rfl)) AB rfl) rfl) rfl) rfl)) rfl (Or.inl rfl)) (@AE _ _ _ (@AL _ _ _ _ (@AF _ _ _ _ _ (@AA _ _ _ _ _ (@BH _ _ _ _ _ _ (Cn K) Az (@AQ _ _ _ _ _ _ _ _ Cb (pv 6) (@Aa _ _ _ _ (@AA _ _ _ _ _ (@AF _ _ _ _ _ (@AA _ _ _ _ _ AH (@AA _ _ _ _ _ (pv 5) (@AA _ _ _ _ _ (@AQ _ _ _ _ _ _ _ _ DN (pv 5) (@AF _ _ _ _ _ (@AA _ _ _ _ _ AD (@AA _ _ _ _ _ AD AB rfl) rfl))) AB rfl) rfl) rfl)) AB rfl))) (@AQ _ _ _ _ _ _ _ _ XF (pv 3) AD) (fun _ _=>rfl)) (@AA _ _ _ _ _ AD AB rfl) rfl)))))))),?_⟩;obtain⟨pa,rfl,d,g,ne⟩:=gp;have st:∀x∈xs,GK x:=DP g;have lx:=Lp g;refine⟨_,rfl,c,7,rfl,by decide,fun r0 _ _=>⟨_,_,rfl,rfl,Ax,?_⟩⟩;have m0:=CB r0 (n:=10) (by decide);obtain⟨E,el⟩:∃t,r0 % 10=t:=⟨_,rfl⟩;rw[el]at m0⊢;refine⟨_,rfl,_,_,rfl,rfl,_,rfl,?_⟩;refine KA (fun er=>?_) (fun er=>?_)
 ·have t5:E<5:=of_decide_eq_true er;refine⟨_,rfl,_,rfl,_,rfl,pa,_,rfl,d,fun pb H1 G I=>?_⟩;refine⟨_,rfl,c,8,rfl,by decide,fun r1 _ _=>⟨_,_,rfl,rfl,Ax,AN,.mk fun pc H2 n2 s f2=>?_⟩⟩;have m8:=CB r1 (n:=20) (by decide);have lc:(EG xs none (some (-1))).length<=12:=Nat.le_trans (Ee _ _ _) lx;refine⟨pb,pc,_,_,rfl,rfl,s _ _ I,f2,AR (by exact Nat.le_trans (Nat.succ_le_succ lc) (by decide)),fun pl H3 s3 l=>?_⟩;refine⟨Nat.zero_le _,.mk fun e1 G1 _ J k1=>⟨Aw,.mk fun N G2 _ O k2=>?_⟩⟩;refine⟨Nat.zero_le _,.mk fun e2 G3 _ Q k3=>⟨AS,.mk fun R G4 _ S k4=>?_⟩⟩;refine⟨Nat.zero_le _,.mk fun e3 G5 _ U k5=>⟨_,rfl,Aw,.mk fun X G6 _ Y k6=>?_⟩⟩;refine⟨Nat.zero_le _,.mk fun e4 G7 _ Z k7=>⟨AS,.mk fun p4 G8 _ u k8=>?_⟩⟩;refine⟨_,rfl,AS,.mk fun p5 G9 _ g9 k9=>⟨AR (show 5<=1000 by decide),.mk fun L GA _ gA kA=>?_⟩⟩;obtain⟨v,hv,mv⟩:=BO (xs:=[V.ref N,.ref R,.ref X,.ref p4,.ref p5]) m0.1 (by exact t5);refine⟨_,rfl,L,_,_,_,rfl,rfl,BC.of kA,hv,AS,.mk fun p GB _ gB kB=>?_⟩;have A:=gA.trans gB;have z9:=g9.trans A;have z8:=u.trans z9;have z7:=Z.trans z8;have z6:=Y.trans z7;have z5:=U.trans z6;have z4:=S.trans z5;have z3:=Q.trans z4;have z2:=O.trans z3;have z1:=J.trans z2;have z:=((G.trans s).trans s3).trans z1;refine q p v 1 GB z kB ?_;have m:∀x∈([]:List V),GK x:=fun _ h=>nomatch h;simp only[List.mem_cons,List.not_mem_nil,or_false]at mv;rcases mv with rfl|rfl|rfl|rfl|rfl
  ·exact Rl (z3 _ _ k2) (by simp) rfl (z2 _ _ k1) m (Nat.zero_le _) (by decide+kernel)
  ·exact Rl (z5 _ _ k4) (by simp) rfl (z4 _ _ k3) m (Nat.zero_le _) (by decide+kernel)
  ·exact Rl (z7 _ _ k6) (by simp) rfl (z6 _ _ k5) m (Nat.zero_le _) (by decide+kernel)
  ·exact Rl (z9 _ _ k8) (by simp) rfl (z8 _ _ k7) m (Nat.zero_le _) (by decide+kernel)
  ·refine Rl (A _ _ k9) (by simp) rfl (z1 _ _ l) (fun x a=>?_) (by rw[List.length_append];exact Nat.le_trans (Nat.succ_le_succ lc) (by decide)) ?_
   ·rcases List.mem_append.mp a with a|a
    ·exact st x (Rk a)
    ·rw[List.mem_singleton.mp a];exact .inr ⟨_,rfl,m8.1,Int.le_of_lt m8.2⟩
   ·have:∀o,(some (EG xs none (some (-1))++[V.int (r1 % 20)]))=o->Ey "lacks" o=false:=fun o e=>by
     subst e;simp only[Ey,PJ,Bool.or_false,decide_true,Bool.not_true,Bool.and_false]
    exact this _ rfl
 ·have t5:5<=E:=Int.not_lt.mp (of_decide_eq_false er);have get:∀j:Nat,j<6->∃y,Hs (ys.map V.str) (j:Int)=some (.str y)/\BD y=true:=fun j hj=>⟨ys[j]'(by rw[ly];exact hj),BJ (by rw[List.getElem?_map,mn (by rw[ly];exact hj)];rfl),ny _ (List.getElem_mem _)⟩;obtain⟨y0,a0,b0⟩:=get 0 (by decide);obtain⟨y1,a1,b1⟩:=get 1 (by decide);refine⟨_,rfl,_,rfl,pa,_,rfl,d,fun pb H1 G I=>?_⟩;rw[show EG xs none (some 3)=xs.take 3 from Hz xs 3]at I;refine⟨_,rfl,n,_,0,_,rfl,rfl,BC.of (G _ _ hn),a0,AN,.mk fun pc H2 n2 s f2=>?_⟩;have l3:(xs.take 3).length<=3:=by rw[List.length_take];exact Nat.min_le_left _ _
  refine⟨pb,pc,_,_,rfl,rfl,s _ _ I,f2,AR (by exact Nat.le_trans (Nat.succ_le_succ l3) (by decide)),fun pm H3 s3 l=>?_⟩;have B:=(G.trans s).trans s3;have tk:∀x∈xs.take 3,GK x:=fun x a=>st x (List.mem_of_mem_take a);have r:∀x∈xs.take 3++[V.str y0],GK x:=fun x a=>by
   rcases List.mem_append.mp a with a|a
   ·exact tk x a
   ·rw[List.mem_singleton.mp a];exact .inl ⟨_,rfl,b0⟩
  have l4:(xs.take 3++[V.str y0]).length<=4:=by rw[List.length_append];exact Nat.succ_le_succ l3
  generalize eM:xs.take 3++[V.str y0]=M at l r l4;refine⟨_,rfl,Nat.zero_le _,.mk fun e1 G1 _ J k1=>⟨Aw,.mk fun N G2 _ O k2=>?_⟩⟩;refine⟨_,rfl,Nat.zero_le _,.mk fun e2 G3 _ Q k3=>⟨Aw,.mk fun R G4 _ S k4=>?_⟩⟩;refine⟨Nat.zero_le _,.mk fun e3 G5 _ U k5=>⟨Nat.zero_le _,.mk fun e4 G6 _ Y k6=>⟨Aw,.mk fun X G7 _ Z k7=>?_⟩⟩⟩;have y7:=((((((J.trans O).trans Q).trans S).trans U).trans Y).trans Z);refine⟨_,rfl,_,rfl,_,rfl,n,_,1,_,rfl,rfl,BC.of (y7 _ _ (B _ _ hn)),a1,AN,.mk fun e5 G8 _ u k8=>?_⟩;refine⟨pm,e5,_,_,rfl,rfl,u _ _ (y7 _ _ l),k8,AR (by exact Nat.le_trans (Nat.succ_le_succ l4) (by decide)),fun e6 G9 g9 k9=>⟨Aw,.mk fun p4 GA _ gA kA=>⟨AR (show 4<=1000 by decide),.mk fun L1 GB _ gB kB=>?_⟩⟩⟩;have yB:=(((y7.trans u).trans g9).trans gA).trans gB;refine⟨_,rfl,_,rfl,_,rfl,AS,.mk fun e7 GC _ gC kC=>?_⟩;refine⟨pm,e7,_,_,rfl,rfl,gC _ _ (yB _ _ l),kC,AR (by exact Nat.le_trans (Nat.succ_le_succ (Nat.succ_le_succ l4)) (by decide)),fun e8 GD gD kD=>⟨Aw,.mk fun p5 GE _ gE kE=>⟨AN,.mk fun L2 GF _ gF kF=>?_⟩⟩⟩;refine⟨L1,L2,_,_,rfl,rfl,gF _ _ (gE _ _ (gD _ _ (gC _ _ kB))),kF,AR (show 4+1<=1000 by decide),.mk fun L3 GG _ gG kG=>?_⟩;obtain⟨v,hv,mv⟩:=BO (xs:=[V.ref N,.ref R,.ref X,.ref p4]++[.ref p5]) (i:=E-5) (Int.sub_nonneg_of_le t5) (by show E-5<((4+1:Nat):Int);have:=m0.2;lia);refine⟨_,rfl,_,_,rfl,rfl,L3,_,_,_,rfl,rfl,BC.of kG,hv,AS,.mk fun p GH _ gH kH=>?_⟩;have zG:=gG.trans gH;have zF:=gF.trans zG;have zE:=gE.trans zF;have zD:=gD.trans zE;have zC:=gC.trans zD;have zB:=gB.trans zC;have A:=gA.trans zB;have z9:=g9.trans A;have z8:=u.trans z9;have z7:=Z.trans z8;have z6:=Y.trans z7;have z5:=U.trans z6;have z4:=S.trans z5;have z3:=Q.trans z4;have z2:=O.trans z3;have z1:=J.trans z2;have z:=B.trans z1;refine q p v 2 GH z kH ?_;have m:∀x∈([]:List V),GK x:=fun _ h=>nomatch h;have C:=Nat.le_trans lx (show 12<=100 by decide);have l41:=Nat.le_trans l4 (show 4<=100 by decide);have rM:=Rj r (Nat.le_trans l4 (by decide));have nM:M≠[]:=by rw[<-eM];exact List.append_ne_nil_of_right_ne_nil _ (List.cons_ne_nil _ _)
  have lk:("move":Str)≠"lacks":=by decide+kernel
  have D:v=.ref N∨v=.ref R∨v=.ref X∨v=.ref p4∨v=.ref p5:=by simpa using mv
  rcases D with rfl|rfl|rfl|rfl|rfl
  ·exact PK (z3 _ _ k2) rfl (z _ _ d) st C (Ci g ne (.inl lk)) (IX (.inr rfl) (z2 _ _ k1))
  ·exact PK (z5 _ _ k4) rfl (z _ _ d) st C (Ci g ne (.inl (by decide+kernel))) (IX (.inl rfl) (z4 _ _ k3))
  ·exact PK (z8 _ _ k7) rfl (z6 _ _ k5) m (Nat.zero_le _) (by decide+kernel) (IX (.inl rfl) (z7 _ _ k6))
  ·refine PK (zB _ _ kA) rfl (z1 _ _ l) r l41 (Ci rM nM (.inl lk)) (KP (A _ _ k9) (fun x a=>?_) (by rw[List.length_append];exact Nat.le_trans (Nat.succ_le_succ l4) (by decide)) (by rw[<-eM];exact NY tk (List.cons_ne_nil _ _)));rcases List.mem_append.mp a with a|a
   ·exact r x a
   ·rw[List.mem_singleton.mp a];exact .inl ⟨_,rfl,b1⟩
  ·refine PK (zF _ _ kE) rfl (z1 _ _ l) r l41 (Ci rM nM (.inl lk)) (KP (zE _ _ kD) (fun x a=>?_) (by rw[List.length_append];exact Nat.le_trans (Nat.succ_le_succ (Nat.succ_le_succ l4)) (by decide)) (by rw[<-eM];exact NY tk (List.cons_ne_nil _ _)));rcases List.mem_append.mp a with a|a
   ·exact r x a
   ·simp only[List.mem_cons,List.not_mem_nil,or_false]at a;rcases a with rfl|rfl<;>exact .inr ⟨_,rfl,by decide,by decide⟩
theorem L'(F:Fq K "_law_refusal" 74 f fd)(T:Txt mg)(D:Df P w K mg base "_law_mix" ["_law_cell_here","_law_k"] 1 DT)(A:Df P w K mg base "_law_odd_path" ["_law_cell_here","_law_names_here"] 3 Ln)(g:Df P w K mg base "_law_good_path" ["_law_number","_law_names_here"] 2 FF)(u:Df P w K mg base "_law_third" ["_law_word","_law_cell_here","_law_names_here"] 4 NT)(bQ:Df P w K mg base "_law_none" ["_law_cell_here","_law_names_here"] 3 Ri)(l:Df P w K mg base "_law_whole_one" ["_law_cell_here","_law_path","_law_names_here"] 3 HU):AX P w K mg base BN 5 f fd ["_law_cell_here","_law_names_here"] HV:=by
 refine F.oq ["_law_cell_here","_law_names_here","_law_path","_law_word","_law_third_here","_law_sort","_law_tail"] fun H _ _ m gW E h=>?_;obtain⟨c,n,U,rfl,hn,Y,ny,q⟩:=h;refine⟨_,(@AM _ _ _ _ _ _ rfl (@Ae _ _ 2 _ _ _ _ m rfl (Or.inl rfl) (BW g E (@AA _ _ _ _ _ (BW D E (@AA _ _ _ _ _ (pv 0) (@AA _ _ _ _ _ AD AB rfl) rfl)) (@AA _ _ _ _ _ (pv 1) AB rfl) rfl)) rfl (Or.inl rfl)) (@AM _ _ _ _ _ _ rfl (@Ae _ _ 3 _ _ _ _ m rfl (Or.inl rfl) (@BH _ _ _ _ _ _ (Cn K) Az (@Aa _ _ _ _ (@AA _ _ _ _ _ AH (@AA _ _ _ _ _ AH (@AA _ _ _ _ _ AH (@AA _ _ _ _ _ AH (@AA _ _ _ _ _ AH (@AA _ _ _ _ _ AH (@AA _ _ _ _ _ AH (@AA _ _ _ _ _ AH (@AA _ _ _ _ _ AH AB rfl) rfl) rfl) rfl) rfl) rfl) rfl) rfl) rfl)) (@AQ _ _ _ _ _ _ _ _ An (BW D E (@AA _ _ _ _ _ (pv 0) (@AA _ _ _ _ _ AD AB rfl) rfl)) AD) (fun _ _=>rfl)) rfl (Or.inl rfl)) (@AM _ _ _ _ _ _ rfl (@Ae _ _ 4 _ _ _ _ m rfl (Or.inl rfl) (@M_ _ _ _ _ _ (@BM _ _ _ _ _ _ _ _ _ AH (@Aa _ _ _ _ (@AA _ _ _ _ _ AD AB rfl)) (@BM _ _ _ _ _ _ _ _ _ AH Fd (@BM _ _ _ _ _ _ _ _ _ AH AH (@BM _ _ _ _ _ _ _ _ _ AH (@AF _ _ _ _ _ (@AA _ _ _ _ _ (@BH _ _ _ _ _ _ (Cn K) Az (pv 1) AD (fun _ _=>rfl)) AB rfl)) (@BM _ _ _ _ _ _ _ _ _ AH (@AF _ _ _ _ _ (@AA _ _ _ _ _ AD AB rfl)) (@BM _ _ _ _ _ _ _ _ _ AH AH Dr)))))) rfl rfl (by simp) (by simp)) rfl (Or.inl rfl)) (@AM _ _ _ _ _ _ rfl (@Ae _ _ 5 _ _ _ _ m rfl (Or.inl rfl) (@AQ _ _ _ _ _ _ _ _ An (BW D E (@AA _ _ _ _ _ (pv 0) (@AA _ _ _ _ _ AD AB rfl) rfl)) AD) rfl (Or.inl rfl)) (@AM _ _ _ _ _ _ rfl (@Ae _ _ 6 _ _ _ _ m rfl (Or.inl rfl) (@AF _ _ _ _ _ AB) rfl (Or.inl rfl)) (@AM _ _ _ _ _ _ rfl (@Am _ _ _ _ _ _ _ _ (Wx (XS gW (pv 3) (pv 4))) (@AE _ _ _ (@Ae _ _ 6 _ _ _ _ m rfl (Or.inl rfl) (@AF _ _ _ _ _ (@AA _ _ _ _ _ (bM gW (pv 4) (pv 3)) AB rfl)) rfl (Or.inl rfl))) AU) (@AM _ _ _ _ _ _ rfl (@Am _ _ _ _ _ _ _ _ (AV Gx (pv 5) AD (AY _)) (@AE _ _ _ (@AL _ _ _ _ (@AF _ _ _ _ _ (@AA _ _ _ _ _ (BW bQ E (@AA _ _ _ _ _ (pv 0) (@AA _ _ _ _ _ (pv 1) AB rfl) rfl)) (@AA _ _ _ _ _ AD AB rfl) rfl)))) AU) (@AM _ _ _ _ _ _ rfl (@Am _ _ _ _ _ _ _ _ (AV Gx (pv 5) AD (AY _)) (@AE _ _ _ (@AL _ _ _ _ (BW l E (@AA _ _ _ _ _ (pv 0) (@AA _ _ _ _ _ (pv 2) (@AA _ _ _ _ _ (pv 1) AB rfl) rfl) rfl)))) AU) (@AM _ _ _ _ _ _ rfl (@Am _ _ _ _ _ _ _ _ (PW.pt (pw_and (AV Gx (pv 5) AD (AY _)) (pw_and1 (AV (Na (Av.EF E)) (pv 6) (@AF _ _ _ _ _ AB) (AY _))))) (@AE _ _ _ (@AL _ _ _ _ (@AF _ _ _ _ _ (@AA _ _ _ _ _ (@AF _ _ _ _ _ (@AA _ _ _ _ _ (pv 3) (@AA _ _ _ _ _ (pv 2) (@AA _ _ _ _ _ (BW u E (@AA _ _ _ _ _ (pv 3) (@AA _ _ _ _ _ (pv 0) (@AA _ _ _ _ _ (pv 1) AB rfl) rfl) rfl)) AB rfl) rfl) rfl)) (@AA _ _ _ _ _ AD AB rfl) rfl)))) AU) (@AM _ _ _ _ _ _ rfl (@Am _ _ _ _ _ _ _ _ (PW.pt (pw_and (AV (Na (Av.EF E)) (pv 6) (@AF _ _ _ _ _ AB) (AY _)) (pw_and1 (AV Bk (@AQ _ _ _ _ _ _ _ _ An (pv 5) AD) AD (AY _))))) (@AE _ _ _ (@Ae _ _ 6 _ _ _ _ m rfl (Or.inl rfl) (@AF _ _ _ _ _ (@AA _ _ _ _ _ (BW u E (@AA _ _ _ _ _ (pv 3) (@AA _ _ _ _ _ (pv 0) (@AA _ _ _ _ _ (pv 1) AB rfl) rfl) rfl)) AB rfl)) rfl (Or.inl rfl))) AU) (@AE _ _ _ (@AL _ _ _ _ (@AF _ _ _ _ _ (@AA _ _ _ _ _ (@AQ _ _ _ _ _ _ _ _ DN (@AF _ _ _ _ _ (@AA _ _ _ _ _ (pv 3) (@AA _ _ _ _ _ (BW A E (@AA _ _ _ _ _ (pv 0) (@AA _ _ _ _ _ (pv 1) AB rfl) rfl)) AB rfl) rfl)) (pv 6)) (@AA _ _ _ _ _ AD AB rfl) rfl)))))))))))))),?_⟩;have get:∀j:Nat,j<6->∃y,Hs (U.map V.str) (j:Int)=some (.str y)/\BD y=true:=fun j hj=>⟨U[j]'(by rw[Y];exact hj),BJ (by rw[List.getElem?_map,mn (by rw[Y];exact hj)];rfl),ny _ (List.getElem_mem _)⟩;obtain⟨y5,a5,b5⟩:=get 5 (by decide);clear get;refine⟨_,rfl,c,2,rfl,by decide,fun r0 _ _=>⟨_,rfl,r0,n,U,rfl,hn,Y,ny,fun w1 xs H0 s0 gp=>?_⟩⟩;obtain⟨pa,rfl,cm,N,ne⟩:=gp;have st:∀x∈xs,GK x:=DP N;have lx:=Lp N;refine⟨AR (show 9<=1000 by decide),.mk fun LW H1 _ s1 f1=>⟨_,rfl,c,1,rfl,by decide,fun r1 _ _=>?_⟩⟩;have m1:=CB r1 (n:=9) (by decide);obtain⟨v,hv,mv⟩:=BO (xs:=[V.str "put",.str "take",.str "change",.str "move",.str "copy",.str "ask",.str "has",.str "lacks",.str "is"]) m1.1 (by exact m1.2);refine⟨_,_,rfl,rfl,Ax,LW,_,_,_,rfl,rfl,BC.of f1,hv,?_⟩;refine fun dd gX=>⟨AN,.mk fun q1 G1 _ g1 k1=>?_⟩;refine fun q2 jv=>?_;obtain⟨G2,e2,g2,k2⟩:∃X,upd G1 q2 (.dK [])=X/\AJ G1 X/\X q2=some (.dK []):=⟨_,rfl,AJ.new jv,AG⟩;rw[e2];clear e2;have sd:=((AJ.new (o:=.dK []) gX).trans g1).trans g2;refine⟨_,rfl,n,_,5,_,rfl,rfl,BC.of (sd _ _ (s1 _ _ (s0 _ _ hn))),a5,AN,.mk fun q3 G3 _ g3 k3=>⟨AN,.mk fun q4 G4 _ g4 k4=>?_⟩⟩;refine⟨g4 _ _ (g3 _ _ (g2 _ _ (g1 _ _ AG))),[(Sum.inr "put",.ref q1),(Sum.inr "change",.ref q2),(Sum.inr "ask",.str ""),(Sum.inr "move",.ref q3),(Sum.inr "copy",.ref q4),(Sum.inr "is",.str "row")],rfl,by simp,?_⟩;obtain⟨s,ek⟩:∃s:List (Key×V),Cv [] [(Sum.inr "put",V.ref q1),(Sum.inr "change",.ref q2),(Sum.inr "ask",.str ""),(Sum.inr "move",.ref q3),(Sum.inr "copy",.ref q4),(Sum.inr "is",.str "row")]=s:=⟨_,rfl⟩;obtain⟨w,rfl,hw⟩:∃w,v=.str w/\((W3 w/\∃x,Be s (Sum.inr w)=some x)∨(W2 w/\Be s (Sum.inr w)=none)):=by
  subst ek;simp only[List.mem_cons,List.not_mem_nil,or_false]at mv;rcases mv with rfl|rfl|rfl|rfl|rfl|rfl|rfl|rfl|rfl
  ·exact⟨_,rfl,.inl ⟨.inl (by decide+kernel),_,rfl⟩⟩
  ·exact⟨_,rfl,.inr ⟨.inl rfl,rfl⟩⟩
  ·exact⟨_,rfl,.inl ⟨.inl (by decide+kernel),_,rfl⟩⟩
  ·exact⟨_,rfl,.inl ⟨.inr (.inr (.inr rfl)),_,rfl⟩⟩
  ·exact⟨_,rfl,.inl ⟨.inr (.inr (.inl rfl)),_,rfl⟩⟩
  ·exact⟨_,rfl,.inl ⟨.inl (by decide+kernel),_,rfl⟩⟩
  ·exact⟨_,rfl,.inr ⟨.inr (.inl rfl),rfl⟩⟩
  ·exact⟨_,rfl,.inr ⟨.inr (.inr rfl),rfl⟩⟩
  ·exact⟨_,rfl,.inl ⟨.inr (.inl rfl),_,rfl⟩⟩
 obtain⟨H2,e2,s2,f2⟩:∃X,upd G4 dd (.dK (Cv [] [(Sum.inr "put",V.ref q1),(Sum.inr "change",.ref q2),(Sum.inr "ask",.str ""),(Sum.inr "move",.ref q3),(Sum.inr "copy",.ref q4),(Sum.inr "is",.str "row")]))=X/\AJ H1 X/\X dd=some (.dK s):=⟨_,rfl,((sd.trans g3).trans g4).put gX,by rw[<-ek];exact AG⟩;rw[e2];clear e2 ek mv hv k1 k2 k3 k4;have sH:=(s0.trans s1).trans s2;have G:=s2 _ _ (s1 _ _ cm);refine⟨_,rfl,c,0,rfl,by decide,fun r2 _ _=>⟨_,_,rfl,rfl,Ax,?_⟩⟩;have m2:=CB r2 (n:=10) (by decide);obtain⟨t0,el⟩:∃t,r2 % 10=t:=⟨_,rfl⟩;rw[el]at m2⊢;refine⟨Nat.zero_le _,.mk fun b H3 _ s3 f3=>?_⟩;dsimp only[Eb];refine Lh (fun I J=>∃b a,I=[some (.int c),some (.ref n),some (.ref pa),some (.str w),some (.ref dd),some (.int t0),some (.ref b)]/\AJ H J/\J pa=some (.tup xs)/\J b=some (.tup a)/\((W3 w/\a.length=1)∨(W2 w/\a=[]))) ?_ (fun k=>?_);rotate_left
 ·have d3:=s3 _ _ f2;refine⟨_,rfl,_,rfl,dd,_,rfl,.inl ⟨s,Sum.inr w,.inl d3,rfl,rfl⟩,_,rfl,?_⟩;rcases hw with⟨L,x,hx⟩|⟨O,hx⟩
  ·refine Ag (by rw[hx];rfl) ⟨_,rfl,_,rfl,dd,x,rfl,.inl ⟨s,Sum.inr w,.inl d3,rfl,hx.symm⟩,AN,.mk fun t1 H4 _ e B=>?_⟩;exact k _ _ ⟨t1,_,rfl,(sH.trans s3).trans e,e _ _ (s3 _ _ G),B,.inl ⟨L,rfl⟩⟩
  ·exact Af (by rw[hx];rfl) (k _ _ ⟨b,_,rfl,sH.trans s3,s3 _ _ G,f3,.inr ⟨O,rfl⟩⟩)
 rintro σ1 H4 ⟨b,a,rfl,e,M,B,hw⟩;clear G f3 s3 f2 s2 cm s0 s1 f1 sH;have Q:=e _ _ hn;refine⟨_,rfl,_,_,rfl,rfl,_,rfl,?_⟩;refine KA (fun er=>?_) (fun er=>?_)
 ·exact⟨_,rfl,_,rfl,c,n,U,rfl,Q,Y,ny,fun v p H5 d h1 O=>⟨AS,.mk fun t1 H6 _ C f6=>q t1 v 0 H6 ((e.trans d).trans C) f6 (.IU (h1.up C) O)⟩⟩
 refine⟨_,rfl,_,_,rfl,rfl,_,rfl,?_⟩;refine KA (fun er=>?_) (fun er=>?_)
 ·exact⟨_,rfl,_,rfl,_,rfl,c,_,xs,n,U,rfl,⟨pa,rfl,M,N,ne⟩,Q,Y,ny,fun t1 v i H5 d f5 h5=>q t1 v i H5 (e.trans d) f5 h5⟩
 dsimp only[QB];refine Lh (fun I J=>∃b a,I=[some (.int c),some (.ref n),some (.ref pa),some (.str w),some (.ref dd),some (.int t0),some (.ref b)]/\AJ H J/\J pa=some (.tup xs)/\J b=some (.tup a)/\((W3 w/\a.length=1)∨(W2 w/\a=[]))) ?_ (fun k=>?_);rotate_left
 ·refine⟨_,rfl,_,_,rfl,rfl,_,rfl,KA (fun er=>?_) (fun er=>Af rfl (k _ _ ⟨b,a,rfl,e,M,B,hw⟩))⟩;refine⟨_,rfl,Nat.zero_le _,.mk fun e0 H5 _ d f5=>⟨b,e0,a,rfl,rfl,BA.of (d _ _ B),BA.of f5,_,rfl,?_⟩⟩;rcases hw with⟨L,h1⟩|⟨O,rfl⟩
  ·have em:a.isEmpty=false:=by cases a with
    |nil=>cases h1
    |cons _ _=>rfl
   refine Ag (by rw[em];rfl) ⟨_,rfl,_,rfl,_,rfl,_,rfl,_,rfl,w,c,n,U,rfl,L,d _ _ Q,Y,ny,fun v H6 C ht=>⟨Aw,.mk fun t2 H7 _ R f7=>⟨AS,.mk fun t3 H8 _ Z f8=>?_⟩⟩⟩;exact q t3 _ 2 H8 ((((e.trans d).trans C).trans R).trans Z) f8 (PK (Z _ _ f7) (L.IU _ _) (Z _ _ (R _ _ (C _ _ (d _ _ M)))) st (Nat.le_trans lx (by decide)) (Ci N ne (.inl L.ne)) ((ht xs).up (R.trans Z)))
  ·exact Af rfl (k _ _ ⟨b,_,rfl,e.trans d,d _ _ M,d _ _ B,.inr ⟨O,rfl⟩⟩)
 clear Q M B hw e b a H4;rintro σ1 H4 ⟨b,a,rfl,e,M,B,hw⟩;refine Lh (fun I J=>∃b a,I=[some (.int c),some (.ref n),some (.ref pa),some (.str w),some (.ref dd),some (.int t0),some (.ref b)]/\AJ H J/\J pa=some (.tup xs)/\J b=some (.tup a)/\((W3 w/\a.length=1)∨(W2 w/\a=[]))) ?_ (fun k=>?_);rotate_left
 ·refine⟨_,rfl,Nat.zero_le _,.mk fun e0 H5 _ d f5=>⟨b,e0,a,rfl,rfl,BA.of (d _ _ B),BA.of f5,_,rfl,?_⟩⟩;have S:=e.trans d;rcases hw with⟨L,h1⟩|⟨O,rfl⟩
  ·have em:a.isEmpty=false:=by cases a with
    |nil=>cases h1
    |cons _ _=>rfl
   refine Ag (by rw[em];rfl) ⟨_,rfl,_,_,rfl,rfl,Ax,rfl,_,rfl,KA (fun er=>?_) (fun er=>?_)⟩
   ·exact⟨_,rfl,_,rfl,_,rfl,w,c,n,U,rfl,L,S _ _ hn,Y,ny,fun v H6 C ht=>⟨AN,.mk fun t2 H7 _ R f7=>k _ _ ⟨t2,_,rfl,(S.trans C).trans R,R _ _ (C _ _ (d _ _ M)),f7,.inl ⟨L,rfl⟩⟩⟩⟩
   ·exact k _ _ ⟨b,_,rfl,S,d _ _ M,d _ _ B,.inl ⟨L,h1⟩⟩
  ·exact Af rfl (Af rfl (k _ _ ⟨b,_,rfl,S,d _ _ M,d _ _ B,.inr ⟨O,rfl⟩⟩))
 clear M B hw e b a H4;rintro σ1 H4 ⟨b,a,rfl,e,M,B,hw⟩;refine⟨_,rfl,_,rfl,_,rfl,c,n,U,rfl,e _ _ hn,Y,ny,fun v p H5 d hp jw=>⟨AS,.mk fun t2 H6 _ C f6=>?_⟩⟩;have l1:a.length<=1:=by
  rcases hw with⟨_,h⟩|⟨_,rfl⟩
  ·exact Nat.le_of_eq h
  ·exact Nat.zero_le _
 refine⟨_,rfl,t2,b,_,_,rfl,rfl,f6,C _ _ (d _ _ B),AR (by exact Nat.le_trans (Nat.add_le_add_left l1 2) (by decide)),fun t3 H7 R f7=>⟨AS,.mk fun t4 H8 _ Z f8=>?_⟩⟩;refine q t4 _ 1 H8 ((((e.trans d).trans C).trans R).trans Z) f8 (.first (Z _ _ f7) l1 ?_ (hp.up ((C.trans R).trans Z)) (YK jw));rcases hw with⟨L,h⟩|⟨O,rfl⟩
 ·rcases a with _|⟨z,r⟩
  ·cases h
  ·cases List.eq_nil_of_length_eq_zero (Nat.succ.inj h);exact L.IU _ _
 ·exact O.IU _
theorem Us{c fi:Nat->Addr}{U:Addr}{V:FuncData}(F:Fq K "_law_said" 75 f V)(T:Txt mg)(m:UX P w K mg base "deed_of" ["row"] 14 (IW c cl))(N:Nm mg c U)(x:Kn K c U fi):AX P w K mg base BN 15 f V ["_law_row"] KQ:=by
 obtain⟨G,I,n,p,r,t⟩:=m.ex;refine F.oq ["_law_row","e","_law_some"] fun H _ _ A _ hr h=>?_;obtain⟨v,i,rfl,J,q⟩:=h;have l:Av 14 _:=hr.mm;have a:=x.jG 2 (by decide);refine⟨_,(AI (UW rfl rfl rfl t l rfl r n p (Au (pv 0)) (UU rfl N.Lm (x.EI) A (i:=1) rfl rfl (fun e=>(AI (BZ 2 A (Aa (AA (Aq (BX a:BF _ _ (IL K (c 2))) rfl T.isinstance A_ (AA (pv 1) (Au (Ay (v:=.ref (c 3)) rfl N.bC rfl)))) (AA (Aq (BX a:BF _ _ (IL K (c 2))) rfl T.isinstance A_ (AA (pv 1) (Au (Ay (v:=.ref (c 0)) rfl N.Xu rfl)))) (AA (Aq (BX a:BF _ _ (IL K (c 2))) rfl T.isinstance A_ (AA (pv 1) (Au (Ay (v:=.ref (c 4)) rfl N.UY rfl)))) (Au (Aq (BX a:BF _ _ (IL K (c 2))) rfl T.isinstance A_ (AA (pv 1) (Au (Ay (v:=.ref (c 6)) rfl N.bD rfl)))))))))) (AI (BZ 2 A (AQ Cb (pv 2) (Aa (AA (Aq (BX a:BF _ _ (IL K (c 2))) rfl T.isinstance A_ (AA (pv 1) (Au (Ay (v:=.ref (c 5)) rfl N.Xw rfl)))) (Au (Aq (BX a:BF _ _ (IL K (c 2))) rfl T.isinstance A_ (AA (pv 1) (Au (Ay (v:=.ref (c 1)) rfl N.Xv rfl))))))))) (AI (Am (PW.pt (pw_or (CD (BG (Aq (BX a:BF _ _ (IL K (c 2))) rfl T.isinstance A_ (AA (pv 1) (Au (Ay (v:=.ref (c 2)) rfl N.NQ rfl)))))) (pw_or (CD (BG (HX (BX a:BF _ _ (IL K (c 2))) T (pv 1) T.ValueError II))) (pw_or1 (AV (DK:Cq _ _ (aQ K false)) Bb (pv 2) rfl))))) (AE (AL CC)) AU) (AE (AL (PM K (Aa (AA CC (Au (show PE _ _ (NN K _ _)from IK (pv 1) (by rfl))))) (DI OO rfl T.int Qg (Au (Bp (HX Ai T (show PE _ _ (NN K _ _)from IK (pv 1) (by rfl)) T.int Qg) (Bd (Ku (HX Ai T (show PE _ _ (NN K _ _)from IK (pv 1) (by rfl)) T.bool Qh)))))))))))))
  Xt))
  (AE (AL CC))),?_⟩
 refine⟨_,rfl,.bad v i rfl J fun d Q s1 hf=>⟨c 2,rfl,x.ex 2 (by decide),.hit (x.sub 2 (by decide)) fun g he=>?_⟩⟩;obtain⟨b,rfl,R⟩:∃b,d=some b/\Q b=some (TX b [("at",.int i)]):=by
  rcases hf with h|⟨_,b,rfl,h⟩
  ·exact absurd h.1 (by decide)
  ·exact⟨b,rfl,h⟩
 have X:=AJ.new (o:=KN g (c 2) (some b)) he;have u:upd Q g (KN g (c 2) (some b)) g=some (KN g (c 2) (some b)):=AG;have J:=X _ _ R;have Y:=s1.trans X;generalize upd Q g (KN g (c 2) (some b))=Z at u J Y⊢;have y:∀S,AJ Z S->(some b=none∨∃B fs,some b=some B/\S B=some (TX B fs)):=fun S s=>.inr ⟨b,_,rfl,s _ _ J⟩;have O:=AJ.refl Z;have C:∀{j:Nat},j<7->PySem.W.kitOne K (.ref (c 2)) (.ref (c j))=some (j==2):=fun{j} hj=>x.one 2 (by decide) j hj;refine⟨_,rfl,g,some b,_,_,_,rfl,u,y _ O,fun _ z=>z,C (j:=3) (by decide),_,rfl,g,some b,_,_,_,rfl,u,y _ O,fun _ z=>z,C (j:=0) (by decide),_,rfl,g,some b,_,_,_,rfl,u,y _ O,fun _ z=>z,C (j:=4) (by decide),_,rfl,g,some b,_,_,_,rfl,u,y _ O,fun _ z=>z,C (j:=6) (by decide),AR (show 4<=1000 by decide),.mk fun l1 H3 _ L k1=>?_⟩;refine⟨_,rfl,_,rfl,g,some b,_,_,_,rfl,L _ _ u,y _ L,fun _ z=>z,C (j:=5) (by decide),_,rfl,g,some b,_,_,_,rfl,L _ _ u,y _ L,fun _ z=>z,C (j:=1) (by decide),AS,.mk fun l2 H4 _ t3 k2=>?_⟩;refine⟨l1,l2,_,_,rfl,rfl,t3 _ _ k1,k2,AR (show 4+2<=1000 by decide),.mk fun l3 H5 _ t4 k3=>?_⟩;have k:=(L.trans t3).trans t4;refine⟨_,rfl,g,some b,_,_,_,rfl,k _ _ u,y _ k,fun _ z=>z,C (j:=2) (by decide),_,rfl,Af rfl ⟨_,rfl,g,some b,_,_,_,rfl,k _ _ u,y _ k,fun _ z=>z,x.ve 2 (by decide),_,rfl,Af rfl ?_⟩⟩;have S5:=Y.trans k;have D:=k _ _ u;have E:=k _ _ J;refine⟨_,rfl,l3,_,rfl,.inl (BC.of k3),rfl,rfl,_,rfl,Af (by decide) ?_⟩;refine⟨_,rfl,g,c 2,b,_,i,rfl,D,E,rfl,x.gk 0 (by decide),AS,.mk fun l4 H6 _ M k4=>?_⟩;refine⟨_,rfl,g,c 2,b,_,i,rfl,M _ _ D,M _ _ E,rfl,x.gk 0 (by decide),_,"int","int",rfl,rfl,.int i,_,rfl,Ag rfl ?_⟩;refine⟨_,rfl,g,c 2,b,_,i,rfl,M _ _ D,M _ _ E,rfl,x.gk 0 (by decide),_,"bool","int",rfl,rfl,.int i,_,rfl,?_⟩;exact .inr ⟨_,rfl,l4,_,1,_,rfl,rfl,BC.of k4,rfl,q _ (S5.trans M)⟩
theorem YO{c:Nat->Addr}(F:Fq K "law" 76 f fd)(T:Txt mg)(o:UX P w K mg base "deed_of" ["row"] 14 (IW c cl))(p:Df P w K mg base "_law_cell" ["_law_script","_law_k"] 1 (Ql K))(Z:Df P w K mg base "_law_mix" ["_law_cell_here","_law_k"] 1 DT)(I:Df P w K mg base "_law_names" ["_law_cell_here"] 2 J_)(e:Df P w K mg base "_law_good_path" ["_law_number","_law_names_here"] 2 FF)(l:Df P w K mg base "_law_refusal" ["_law_cell_here","_law_names_here"] 5 HV)(M:Df P w K mg base "_law_said" ["_law_row"] 15 KQ)(MT:∀j,j<9->eV P w K mg base 3 (cl j) "told" (PD cl j)):AX P w K mg base BN 20 f fd ["_law_script"] (Jx K):=by
 obtain⟨cn,cq,s,u,A,B⟩:=o.ex;refine F.oq ["_law_script","_law_names_here","_law_k","_law_cell_here","_law_row","_law_at","_law_number","_law_path","_law_good","_law_turn"] fun H _ _ d _ D h=>?_;obtain⟨a,ns,rfl,hS,hlen,q⟩:=h;have m:Av 14 _:=D.mm;have jx:Av 3 _:=D.mono (by decide);refine⟨_,(@AM _ _ _ _ _ _ rfl (@Ae _ _ 1 _ _ _ _ d rfl (Or.inl rfl) (BW I D (@AA _ _ _ _ _ (BW p D (@AA _ _ _ _ _ (pv 0) (@AA _ _ _ _ _ AD AB rfl) rfl)) AB rfl)) rfl (Or.inl rfl)) (@AM _ _ _ _ _ _ rfl (ck (CF rfl T.range (@AA _ _ _ _ _ AD AB rfl)) (HW 2 d) (@AM _ _ _ _ _ _ rfl (@Ae _ _ 3 _ _ _ _ d rfl (Or.inl rfl) (BW p D (@AA _ _ _ _ _ (pv 0) (@AA _ _ _ _ _ (@AQ _ _ _ _ _ _ _ _ Bq AD (pv 2)) AB rfl) rfl)) rfl (Or.inl rfl)) (@AM _ _ _ _ _ _ rfl (QC (BW l D (@AA _ _ _ _ _ (pv 3) (@AA _ _ _ _ _ (pv 1) AB rfl) rfl)) (W_ rfl (JY (HW 4 d) (JY (HW 5 d) Tf)))) (@AM _ _ _ _ _ _ rfl (@Am _ _ _ _ _ _ _ _ (AV WH (BW M D (@AA _ _ _ _ _ (pv 4) AB rfl)) (pv 5) (AY _)) (@AE _ _ _ (@AL _ _ _ _ Bb)) AU) (@AM _ _ _ _ _ _ rfl (@Ae _ _ 6 _ _ _ _ d rfl (Or.inl rfl) (BW Z D (@AA _ _ _ _ _ (pv 3) (@AA _ _ _ _ _ AD AB rfl) rfl)) rfl (Or.inl rfl)) (@AM _ _ _ _ _ _ rfl (@Ae _ _ 7 _ _ _ _ d rfl (Or.inl rfl) (BW e D (@AA _ _ _ _ _ (@AQ _ _ _ _ _ _ _ _ CY (pv 6) AD) (@AA _ _ _ _ _ (pv 1) AB rfl) rfl)) rfl (Or.inl rfl)) (@AM _ _ _ _ _ _ rfl (@Ae _ _ 8 _ _ _ _ d rfl (Or.inl rfl) (@Aa _ _ _ _ (@AA _ _ _ _ _ (@AF _ _ _ _ _ (@AA _ _ _ _ _ AH (@AA _ _ _ _ _ (pv 7) (@AA _ _ _ _ _ (@Aa _ _ _ _ (@AA _ _ _ _ _ AD AB rfl)) AB rfl) rfl) rfl)) (@AA _ _ _ _ _ (@AF _ _ _ _ _ (@AA _ _ _ _ _ AH (@AA _ _ _ _ _ (pv 7) AB rfl) rfl)) (@AA _ _ _ _ _ (@AF _ _ _ _ _ (@AA _ _ _ _ _ AH (@AA _ _ _ _ _ (@AF _ _ _ _ _ AB) AB rfl) rfl)) (@AA _ _ _ _ _ (@AF _ _ _ _ _ (@AA _ _ _ _ _ AH (@AA _ _ _ _ _ (@AF _ _ _ _ _ AB) (@AA _ _ _ _ _ (pv 7) AB rfl) rfl) rfl)) (@AA _ _ _ _ _ (@AF _ _ _ _ _ (@AA _ _ _ _ _ AH (@AA _ _ _ _ _ (@AF _ _ _ _ _ AB) (@AA _ _ _ _ _ Fd AB rfl) rfl) rfl)) AB rfl) rfl) rfl) rfl) rfl)) rfl (Or.inl rfl)) (@AM _ _ _ _ _ _ rfl (@Ae _ _ 8 _ _ _ _ d rfl (Or.inl rfl) (@AQ _ _ _ _ _ _ _ _ Cb (pv 8) (@Aa _ _ _ _ (@AA _ _ _ _ _ (@AF _ _ _ _ _ (@AA _ _ _ _ _ AH (@AA _ _ _ _ _ (@AF _ _ _ _ _ AB) (@AA _ _ _ _ _ AH AB rfl) rfl) rfl)) (@AA _ _ _ _ _ (@AF _ _ _ _ _ (@AA _ _ _ _ _ AH (@AA _ _ _ _ _ (@AF _ _ _ _ _ (@AA _ _ _ _ _ AD AB rfl)) (@AA _ _ _ _ _ (@AF _ _ _ _ _ (@AA _ _ _ _ _ AD (@AA _ _ _ _ _ (@BH _ _ _ _ _ _ (Cn K) Az (pv 1) AD (fun _ _=>rfl)) AB rfl) rfl)) AB rfl) rfl) rfl)) (@AA _ _ _ _ _ (@AF _ _ _ _ _ (@AA _ _ _ _ _ AH (@AA _ _ _ _ _ (pv 7) (@AA _ _ _ _ _ (pv 7) AB rfl) rfl) rfl)) (@AA _ _ _ _ _ (@AF _ _ _ _ _ (@AA _ _ _ _ _ AH (@AA _ _ _ _ _ (@AF _ _ _ _ _ AB) (@AA _ _ _ _ _ AH AB rfl) rfl) rfl)) AB rfl) rfl) rfl) rfl))) rfl (Or.inl rfl)) (@AM _ _ _ _ _ _ rfl (Di (Mv PySem.F.plainAttrs_list PySem.F.slot_list_append PySem.F.type_list_append EH (pv 8) (@AA _ _ _ _ _ (@AF _ _ _ _ _ (@AA _ _ _ _ _ AH (@AA _ _ _ _ _ (@AQ _ _ _ _ _ _ _ _ DN (Bt E_ (pv 7) DJ (CA AD)) (@AF _ _ _ _ _ (@AA _ _ _ _ _ (@BH _ _ _ _ _ _ (Cn K) Az (pv 1) AD (fun _ _=>rfl)) AB rfl))) AB rfl) rfl)) AB rfl))) (@AM _ _ _ _ _ _ rfl (@Ae _ _ 9 _ _ _ _ d rfl (Or.inl rfl) (@AQ _ _ _ _ _ _ _ _ An (pv 6) AD) rfl (Or.inl rfl)) (@AE _ _ _ (@Am _ _ _ _ _ _ _ _ (AV (YI (Av.units D)) (Rg (Hr B m rfl A s u .nil YL (@AA _ _ _ _ _ (@BH _ _ _ _ _ _ (Cn K) Az (pv 8) (pv 9) (fun _ _=>rfl)) AB rfl)) MT jx) (@BH _ _ _ _ _ _ (Cn K) Az (pv 8) (pv 9) (fun _ _=>rfl)) (AY _)) (@AE _ _ _ (@AL _ _ _ _ Bb)) AU)))))))))))) (@AE _ _ _ (@AL _ _ _ _ Bb)))),?_⟩;refine⟨_,rfl,a,ns,0,rfl,hS,fun c0 _=>⟨c0,rfl,fun n ys H1 s1 nn hn ly jy ny=>?_⟩⟩;have get:∀j:Nat,j<6->∃y,Hs (ys.map V.str) (j:Int)=some (.str y)/\BD y=true:=fun j hj=>⟨ys[j]'(by rw[ly];exact hj),BJ (by rw[List.getElem?_map,mn (by rw[ly];exact hj)];rfl),ny _ (List.getElem_mem _)⟩;obtain⟨y0,a0,b0⟩:=get 0 (by decide);clear get jy nn;refine⟨12,rfl,by decide,by decide,ED (lo:=0) (n:=12) (fun i σ Hi=>∃o2 o3 o4 o5 o6 o7 o8 o9:Option V,σ=[some (.ref a),some (.ref n),o2,o3,o4,o5,o6,o7,o8,o9]/\AJ H1 Hi) ⟨_,_,_,_,_,_,_,_,rfl,AJ.refl _⟩ ?_ ?_⟩;rotate_left
 ·rintro σ Hi ⟨o2,o3,o4,o5,o6,o7,o8,o9,rfl,si⟩;exact q Hi
 rintro i σ Hi _ go hi ⟨o2,o3,o4,o5,o6,o7,o8,o9,rfl,si⟩;have N:=si _ _ hn;refine⟨_,rfl,_,rfl,_,_,rfl,rfl,a,ns,1+i,(by show[V.ref a,V.int (1+(0+(i:Int)))]=_;simp),(s1.trans si).seq hS,fun c _=>?_⟩;refine⟨_,rfl,_,rfl,c,n,ys,rfl,N,ly,ny,fun t v ic H2 s2 f2 k=>?_⟩;refine⟨t,_,rfl,BA.of f2,rfl,_,_,rfl,_,_,rfl,rfl,?_⟩;refine⟨_,rfl,v,ic,rfl,k,fun H3 s3=>⟨_,rfl,rfl,_,rfl,Af (by simp) ?_⟩⟩;have O:=s3 _ _ (s2 _ _ N);refine⟨_,rfl,c,9,rfl,by decide,fun r9 mW _=>?_⟩;refine⟨_,rfl,_,_,rfl,rfl,Bm,_,rfl,r9/10,n,ys,rfl,O,ly,ny,fun w1 xs H4 s4 gp=>?_⟩;obtain⟨pa,rfl,Q,C,ne⟩:=gp;have st:∀x∈xs,GK x:=DP C;have lx:=Lp C;have R:=s4 _ _ O;have S4:AJ H1 H4:=((si.trans s2).trans s3).trans s4;clear O N s2 s3 s4 si k f2;refine⟨_,rfl,AN,.mk fun q1 G1 _ g1 k1=>⟨Aw,.mk fun p1 G2 _ g2 k2=>?_⟩⟩;refine⟨_,rfl,AS,.mk fun p2 G3 _ g3 k3=>?_⟩;refine⟨Nat.zero_le _,.mk fun e3 G4 _ g4 k4=>⟨AS,.mk fun p3 G5 _ g5 k5=>?_⟩⟩;refine⟨Nat.zero_le _,.mk fun e4 G6 _ g6 k6=>⟨_,rfl,Aw,.mk fun p4 G7 _ g7 k7=>?_⟩⟩;refine⟨Nat.zero_le _,.mk fun e5 G8 _ g8 k8=>fun d5 jz=>?_⟩;obtain⟨G9,e9,g9,k9⟩:∃X,upd G8 d5 (.dK [])=X/\AJ G8 X/\X d5=some (.dK []):=⟨_,rfl,AJ.new jz,AG⟩;rw[e9];clear e9;refine⟨Aw,.mk fun p5 GA _ gA kA=>⟨AR (show 5<=1000 by decide),.mk fun L1 GB _ gB kB=>?_⟩⟩;have yB:=(((((((((g1.trans g2).trans g3).trans g4).trans g5).trans g6).trans g7).trans g8).trans g9).trans gA).trans gB;refine⟨_,rfl,Nat.zero_le _,.mk fun e6 B1 _ h1 j1=>⟨Aw,.mk fun p6 B2 _ h2 j2=>?_⟩⟩;refine⟨AN,.mk fun e7 B3 _ h3 j3=>⟨_,rfl,n,_,0,_,rfl,rfl,BC.of (h3 _ _ (h2 _ _ (h1 _ _ (yB _ _ R)))),a0,AS,.mk fun f7 B4 _ h4 j4=>⟨Aw,.mk fun p7 B5 _ h5 j5=>?_⟩⟩⟩;refine⟨_,rfl,_,rfl,Aw,.mk fun p8 B6 _ h6 j6=>?_⟩;refine⟨Nat.zero_le _,.mk fun e9 B7 _ h7 j7=>⟨Aw,.mk fun p9 B8 _ h8 j8=>⟨AR (show 4<=1000 by decide),.mk fun L2 B9 _ h9 j9=>?_⟩⟩⟩;have x9:=(((((((h1.trans h2).trans h3).trans h4).trans h5).trans h6).trans h7).trans h8).trans h9;refine⟨L1,L2,_,_,rfl,rfl,x9 _ _ kB,j9,AR (show 5+4<=1000 by decide),.mk fun L C1 nL s5 f5=>?_⟩;have c9:=h9;have c8:=h8.trans c9;have c7:=h7.trans c8;have c6:=h6.trans c7;have c5:=h5.trans c6;have c4:=h4.trans c5;have c3:=h3.trans c4;have c2:=h2.trans c3;have c1:=h1.trans c2;have cB:=gB.trans c1;have cA:=gA.trans cB;have d9:=g9.trans cA;have d8:=g8.trans d9;have d7:=g7.trans d8;have d6:=g6.trans d7;have S:=g5.trans d6;have d4:=g4.trans S;have d3:=g3.trans d4;have d2:=g2.trans d3;have d1:=g1.trans d2;have nl:∀x∈([]:List V),GK x:=fun _ h=>nomatch h;have U:=Nat.le_trans lx (show 12<=100 by decide);have g:=d1 _ _ Q;have y00:GK (.str y0):=.inl ⟨_,rfl,b0⟩;have i00:GK (.int 0):=.inr ⟨_,rfl,by decide,by decide⟩;have all:∀v∈[V.ref p1,.ref p2,.ref p3,.ref p4,.ref p5]++[.ref p6,.ref p7,.ref p8,.ref p9],GR B9 v:=by
  intro v J;have J:v=.ref p1∨v=.ref p2∨v=.ref p3∨v=.ref p4∨v=.ref p5∨v=.ref p6∨v=.ref p7∨v=.ref p8∨v=.ref p9:=by simpa using J
  rcases J with rfl|rfl|rfl|rfl|rfl|rfl|rfl|rfl|rfl
  ·exact eZ 0 (d3 _ _ k2) (by decide) rfl rfl g st U (Ci C ne (.inl (by decide+kernel))) (by decide+kernel) (.one (d2 _ _ k1))
  ·exact eY 1 (d4 _ _ k3) (by decide) rfl rfl g st U (Ci C ne (.inl (by decide+kernel)))
  ·exact eY 6 (d6 _ _ k5) (by decide) rfl rfl (S _ _ k4) nl (Nat.zero_le _) (by decide+kernel)
  ·exact cj 4 (d8 _ _ k7) (by decide) rfl rfl (d7 _ _ k6) nl (Nat.zero_le _) (by decide+kernel) (IY (.inl rfl) g st lx ne (.inl rfl)) (.inr ⟨_,rfl⟩)
  ·exact eZ 2 (cB _ _ kA) (by decide) rfl rfl (d9 _ _ k8) nl (Nat.zero_le _) (by decide+kernel) (by decide+kernel) (.emp (cA _ _ k9))
  ·exact eZ 5 (c3 _ _ j2) (by decide) rfl rfl (c2 _ _ j1) nl (Nat.zero_le _) (by decide+kernel) (by decide+kernel) (.str (by decide+kernel))
  ·refine cj 3 (c6 _ _ j5) (by decide) rfl rfl (c4 _ _ j3) (fun x k=>?_) (by decide) (by decide+kernel) (IY (.inr rfl) (c5 _ _ j4) (fun x k=>?_) (show 2<=12 by decide) (List.cons_ne_nil _ _) (.inr rfl)) (.inr ⟨_,rfl⟩)
   ·rw[List.mem_singleton.mp k];exact i00
   ·rcases List.mem_cons.mp k with rfl|k
    ·exact i00
    ·rw[List.mem_singleton.mp k];exact y00
  ·exact cj 3 (c7 _ _ j6) (by decide) rfl rfl g st U (Ci C ne (.inl (by decide+kernel))) (IY (.inr rfl) g st lx ne (.inr (by simp[BY]))) (.inr ⟨_,rfl⟩)
  ·exact cj 8 (c9 _ _ j8) (by decide) rfl rfl (c8 _ _ j7) nl (Nat.zero_le _) (by decide+kernel) (.kind (.str _)) (.inl rfl)
 have j_:=x9 _ _ (yB _ _ R);have SB:AJ H1 B9:=S4.trans d1;have Q:=g;generalize gY:[V.ref p1,.ref p2,.ref p3,.ref p4,.ref p5]++[.ref p6,.ref p7,.ref p8,.ref p9]=E at all f5;have lS:E.length=9:=by rw[<-gY];rfl
 clear gY g d1 d2 d3 d4 S d6 d7 d8 d9 cA cB c1 c2 c3 c4 c5 c6 c7 c8 c9 j1 j2 j3 j4 j5 j6 j7 j8 j9 k1 k2 k3 k4 k5 k6 k7 k8 k9 kA kB R S4;refine⟨_,rfl,.inl ⟨rfl,_,BC.of f5⟩,_,rfl,_,rfl,pa,_,rfl,s5 _ _ Q,fun u1 C2 t2 f6=>?_⟩;rw[show EG xs none (some 11)=xs.take 11 from Hz xs 11]at f6;refine⟨_,rfl,n,_,0,_,rfl,rfl,BC.of (t2 _ _ (s5 _ _ j_)),a0,AN,.mk fun u2 C3 _ t3 kI=>?_⟩;have l11:(xs.take 11).length<=11:=by rw[List.length_take];exact Nat.min_le_left _ _
 refine⟨u1,u2,_,_,rfl,rfl,t3 _ _ f6,kI,AR (by exact Nat.le_trans (Nat.succ_le_succ l11) (by decide)),fun u3 C4 t4 f8=>⟨AS,.mk fun G C5 _ t5 f9=>?_⟩⟩;have Y:=t5 _ _ (t4 _ _ (t3 _ _ (t2 _ _ f5)));refine⟨L,E,_,rfl,rfl,Y,BK (by rw[lS];decide),?_⟩;have n4:G≠L:=fun z=>by rw[z,Y]at f9;cases f9
 have n3:u3≠L:=fun z=>by have:=t5 _ _ f8;rw[z,Y]at this;cases this
 have sF:AJ B9 (upd C5 L (.lst (E++[.ref G]))):=((((s5.trans t2).trans t3).trans t4).trans t5).put nL;have fL:upd C5 L (.lst (E++[.ref G])) L=some (.lst (E++[.ref G])):=AG;have gZ:upd C5 L (.lst (E++[.ref G])) G=some (.tup [.str "lacks",.ref u3]):=by rw[AK n4];exact f9
 have gb:upd C5 L (.lst (E++[.ref G])) u3=some (.tup (xs.take 11++[.str y0])):=by rw[AK n3];exact t5 _ _ f8
 generalize upd C5 L (.lst (E++[.ref G]))=HF at sF fL gZ gb;have sm:∀x∈xs.take 11++[V.str y0],GK x:=fun x k=>by
  rcases List.mem_append.mp k with k|k
  ·exact st x (List.mem_of_mem_take k)
  ·rw[List.mem_singleton.mp k];exact y00
 have l12:(xs.take 11++[V.str y0]).length<=12:=by rw[List.length_append];exact Nat.succ_le_succ l11
 have eo:∀v∈E++[V.ref G],GR HF v:=fun v J=>by
  rcases List.mem_append.mp J with J|J
  ·exact(all v J).up sF
  ·rw[List.mem_singleton.mp J];exact eY 7 gZ (by decide) rfl rfl gb sm (Nat.le_trans l12 (by decide)) (Ci (Rj sm l12) (List.append_ne_nil_of_right_ne_nil _ (List.cons_ne_nil _ _)) (.inr HS))
 refine⟨_,rfl,_,_,rfl,rfl,Ax,?_⟩;have mb:=CB r9 (n:=10) (by decide);obtain⟨gv,gc,kJ⟩:=BO (xs:=E++[V.ref G]) mb.1 (by rw[List.length_append,lS];exact mb.2);obtain⟨ra,rb,j,r,rfl,rx,hj,rg,fr⟩:=eo gv kJ;refine⟨_,rfl,_,rfl,L,_,_,_,rfl,rfl,BC.of fL,gc,.good ra j _ r rfl rx hj rg fun dv HG sG dd=>Ul hj dd fun b r' HH sH fb tl=>?_⟩;refine⟨_,rfl,_,rfl,L,_,_,_,rfl,rfl,BC.of (sH _ _ (sG _ _ fL)),gc,b,ra,_,_,rfl,rfl,BA.of fb,BA.of (sH _ _ (sG _ _ rg.row)),.cons (.x (.self rfl)) (.cons (.x .same) (tl.eqs fr)),_,rfl,Af rfl ?_⟩;exact go.n ⟨_,_,_,_,_,_,_,_,rfl,((SB.trans sF).trans sG).trans sH⟩
theorem MA(F:Cy K "__init__" "Put.__init__" DB f i)(T:Txt mg)(c:Df P w K mg base "copy_of" ["doc"] 2 Cg)(j:EA K C)(n:AW K C "path")(p:AW K C "value"):AX P w K mg base BN 3 f i ["self","path","value"] (GJ C):=by
 refine F.oq ["self","path","value"] fun H _ r _ _ s h=>?_;obtain⟨a,d,y,z,k,rfl,h,t,q⟩:=h;refine⟨_,(AI (BS (pv 0) (pv 1) rfl) (AE (BS (pv 0) (BW c s (Au (pv 2))) rfl))),?_⟩;refine⟨_,rfl,_,rfl,a,C,d,[],rfl,h,j,n,by decide,_,rfl,z,k,rfl,t.ins h,fun u x l v=>?_⟩;have m:=l _ _ (AG (H:=H) (a:=a) (o:=.ins C d (Ca "path" y [])));exact⟨_,rfl,a,C,d,_,rfl,m,j,p,(show 1<1000 by decide),r (q _ _ u (fun b o e g=>by rw[AK e];exact l _ _ (by rw[AK e];exact g)) AG rfl rfl (v.ins m) rfl)⟩
theorem MB(F:Cy K "told" "Put.told" DC f d)(T:Txt mg)(c:Df P w K mg base "copy_of" ["doc"] 2 Cg)(e:EA K C)(j:AW K C "path")(l:AW K C "value"):AX P w K mg base BN 3 f d ["self"] (NX C "put"):=by
 refine F.oq ["self"] fun H _ g _ _ m h=>?_;obtain⟨a,i,fs,y,z,k,rfl,h,p,t,g,q⟩:=h;refine⟨_,(AE (AL (AF (AA AH (AA (BR (pv 0) (by rfl)) (Au (BW c m (Au (BR (pv 0) (by rfl)))))))))),?_⟩;exact⟨_,rfl,a,C,i,fs,y,rfl,h,e,j,p,_,rfl,a,C,i,fs,z,rfl,h,e,l,t,z,k,rfl,g,fun n v o r=>⟨Aw,.mk fun b u x s f=>q b n u (o.trans s) (r.up s) f⟩⟩
theorem KY(F:Cy K "__init__" "Take.__init__" CL f c)(T:Txt mg)(d:EA K C)(i:AW K C "path"):AX P w K mg base BN 1 f c ["self","path"] (F' C):=by
 refine F.oq ["self","path"] fun H _ j _ _ l h=>?_;obtain⟨a,k,y,rfl,h,q⟩:=h;refine⟨_,(AE (BS (pv 0) (pv 1) rfl)),?_⟩;exact⟨_,rfl,_,rfl,a,C,k,[],rfl,h,d,i,by decide,j (q _ _ (fun b o e g=>by rw[AK e];exact g) AG rfl rfl)⟩
theorem KZ(F:Cy K "told" "Take.told" CM f c)(T:Txt mg)(d:EA K C)(e:AW K C "path"):AX P w K mg base BN 1 f c ["self"] (NV C "take"):=by
 refine F.oq ["self"] fun H _ _ _ _ j h=>?_;obtain⟨a,g,fs,y,rfl,h,p,q⟩:=h;refine⟨_,(AE (AL (AF (AA AH (Au (BR (pv 0) (by rfl))))))),?_⟩;exact⟨_,rfl,a,C,g,fs,y,rfl,h,d,e,p,AS,.mk fun b i k s f=>q b i s f⟩
theorem Gr(F:Cy K "__init__" "Change.__init__" Bn f i)(T:Txt mg)(c:Df P w K mg base "copy_of" ["doc"] 2 Cg)(j:EA K C)(n:AW K C "path")(p:AW K C "value"):AX P w K mg base BN 3 f i ["self","path","value"] (GJ C):=by
 refine F.oq ["self","path","value"] fun H _ r _ _ s h=>?_;obtain⟨a,d,y,z,k,rfl,h,t,q⟩:=h;refine⟨_,(AI (BS (pv 0) (pv 1) rfl) (AE (BS (pv 0) (BW c s (Au (pv 2))) rfl))),?_⟩;refine⟨_,rfl,_,rfl,a,C,d,[],rfl,h,j,n,by decide,_,rfl,z,k,rfl,t.ins h,fun u x l v=>?_⟩;have m:=l _ _ (AG (H:=H) (a:=a) (o:=.ins C d (Ca "path" y [])));exact⟨_,rfl,a,C,d,_,rfl,m,j,p,(show 1<1000 by decide),r (q _ _ u (fun b o e g=>by rw[AK e];exact l _ _ (by rw[AK e];exact g)) AG rfl rfl (v.ins m) rfl)⟩
theorem Gs(F:Cy K "told" "Change.told" Bo f d)(T:Txt mg)(c:Df P w K mg base "copy_of" ["doc"] 2 Cg)(e:EA K C)(j:AW K C "path")(l:AW K C "value"):AX P w K mg base BN 3 f d ["self"] (NX C "change"):=by
 refine F.oq ["self"] fun H _ g _ _ m h=>?_;obtain⟨a,i,fs,y,z,k,rfl,h,p,t,g,q⟩:=h;refine⟨_,(AE (AL (AF (AA AH (AA (BR (pv 0) (by rfl)) (Au (BW c m (Au (BR (pv 0) (by rfl)))))))))),?_⟩;exact⟨_,rfl,a,C,i,fs,y,rfl,h,e,j,p,_,rfl,a,C,i,fs,z,rfl,h,e,l,t,z,k,rfl,g,fun n v o r=>⟨Aw,.mk fun b u x s f=>q b n u (o.trans s) (r.up s) f⟩⟩
theorem Ka(F:Cy K "__init__" "Move.__init__" CN f c)(T:Txt mg)(d:EA K C)(j:AW K C "path")(k:AW K C "to"):AX P w K mg base BN 1 f c ["self","path","to"] (GI C "to"):=by
 refine F.oq ["self","path","to"] fun H _ l _ _ m h=>?_;obtain⟨a,i,y,z,rfl,h,q⟩:=h;refine⟨_,(AI (BS (pv 0) (pv 1) rfl) (AE (BS (pv 0) (pv 2) rfl))),?_⟩;exact⟨_,rfl,_,rfl,a,C,i,[],rfl,h,d,j,by decide,_,rfl,_,rfl,a,C,i,_,rfl,AG,d,k,(show 1<1000 by decide),l (q _ _ (fun b o e g=>by rw[AK e,AK e];exact g) AG rfl rfl rfl)⟩
theorem Kb(F:Cy K "told" "Move.told" CO f c)(T:Txt mg)(d:EA K C)(g:AW K C "path")(i:AW K C "to"):AX P w K mg base BN 1 f c ["self"] (NW C "move" "to"):=by
 refine F.oq ["self"] fun H _ _ _ _ k h=>?_;obtain⟨a,e,fs,y,z,rfl,h,p,t,q⟩:=h;refine⟨_,(AE (AL (AF (AA AH (AA (BR (pv 0) (by rfl)) (Au (BR (pv 0) (by rfl)))))))),?_⟩;exact⟨_,rfl,a,C,e,fs,y,rfl,h,d,g,p,_,rfl,a,C,e,fs,z,rfl,h,d,i,t,Aw,.mk fun b j l s f=>q b j s f⟩
theorem Kc(F:Cy K "__init__" "Copy.__init__" CP f c)(T:Txt mg)(d:EA K C)(j:AW K C "path")(k:AW K C "to"):AX P w K mg base BN 1 f c ["self","path","to"] (GI C "to"):=by
 refine F.oq ["self","path","to"] fun H _ l _ _ m h=>?_;obtain⟨a,i,y,z,rfl,h,q⟩:=h;refine⟨_,(AI (BS (pv 0) (pv 1) rfl) (AE (BS (pv 0) (pv 2) rfl))),?_⟩;exact⟨_,rfl,_,rfl,a,C,i,[],rfl,h,d,j,by decide,_,rfl,_,rfl,a,C,i,_,rfl,AG,d,k,(show 1<1000 by decide),l (q _ _ (fun b o e g=>by rw[AK e,AK e];exact g) AG rfl rfl rfl)⟩
theorem Kd(F:Cy K "told" "Copy.told" CQ f c)(T:Txt mg)(d:EA K C)(g:AW K C "path")(i:AW K C "to"):AX P w K mg base BN 1 f c ["self"] (NW C "copy" "to"):=by
 refine F.oq ["self"] fun H _ _ _ _ k h=>?_;obtain⟨a,e,fs,y,z,rfl,h,p,t,q⟩:=h;refine⟨_,(AE (AL (AF (AA AH (AA (BR (pv 0) (by rfl)) (Au (BR (pv 0) (by rfl)))))))),?_⟩;exact⟨_,rfl,a,C,e,fs,y,rfl,h,d,g,p,_,rfl,a,C,e,fs,z,rfl,h,d,i,t,Aw,.mk fun b j l s f=>q b j s f⟩
theorem MC(F:Cy K "__init__" "Ask.__init__" DD f i)(T:Txt mg)(c:Df P w K mg base "copy_of" ["doc"] 2 Cg)(j:EA K C)(n:AW K C "path")(p:AW K C "value"):AX P w K mg base BN 3 f i ["self","path","value"] (GJ C):=by
 refine F.oq ["self","path","value"] fun H _ r _ _ s h=>?_;obtain⟨a,d,y,z,k,rfl,h,t,q⟩:=h;refine⟨_,(AI (BS (pv 0) (pv 1) rfl) (AE (BS (pv 0) (BW c s (Au (pv 2))) rfl))),?_⟩;refine⟨_,rfl,_,rfl,a,C,d,[],rfl,h,j,n,by decide,_,rfl,z,k,rfl,t.ins h,fun u x l v=>?_⟩;have m:=l _ _ (AG (H:=H) (a:=a) (o:=.ins C d (Ca "path" y [])));exact⟨_,rfl,a,C,d,_,rfl,m,j,p,(show 1<1000 by decide),r (q _ _ u (fun b o e g=>by rw[AK e];exact l _ _ (by rw[AK e];exact g)) AG rfl rfl (v.ins m) rfl)⟩
theorem MD(F:Cy K "told" "Ask.told" DE f d)(T:Txt mg)(c:Df P w K mg base "copy_of" ["doc"] 2 Cg)(e:EA K C)(j:AW K C "path")(l:AW K C "value"):AX P w K mg base BN 3 f d ["self"] (NX C "ask"):=by
 refine F.oq ["self"] fun H _ g _ _ m h=>?_;obtain⟨a,i,fs,y,z,k,rfl,h,p,t,g,q⟩:=h;refine⟨_,(AE (AL (AF (AA AH (AA (BR (pv 0) (by rfl)) (Au (BW c m (Au (BR (pv 0) (by rfl)))))))))),?_⟩;exact⟨_,rfl,a,C,i,fs,y,rfl,h,e,j,p,_,rfl,a,C,i,fs,z,rfl,h,e,l,t,z,k,rfl,g,fun n v o r=>⟨Aw,.mk fun b u x s f=>q b n u (o.trans s) (r.up s) f⟩⟩
theorem ME(F:Cy K "__init__" "Has.__init__" DF f c)(T:Txt mg)(d:EA K C)(i:AW K C "path"):AX P w K mg base BN 1 f c ["self","path"] (F' C):=by
 refine F.oq ["self","path"] fun H _ j _ _ l h=>?_;obtain⟨a,k,y,rfl,h,q⟩:=h;refine⟨_,(AE (BS (pv 0) (pv 1) rfl)),?_⟩;exact⟨_,rfl,_,rfl,a,C,k,[],rfl,h,d,i,by decide,j (q _ _ (fun b o e g=>by rw[AK e];exact g) AG rfl rfl)⟩
theorem MF(F:Cy K "told" "Has.told" DG f c)(T:Txt mg)(d:EA K C)(e:AW K C "path"):AX P w K mg base BN 1 f c ["self"] (NV C "has"):=by
 refine F.oq ["self"] fun H _ _ _ _ j h=>?_;obtain⟨a,g,fs,y,rfl,h,p,q⟩:=h;refine⟨_,(AE (AL (AF (AA AH (Au (BR (pv 0) (by rfl))))))),?_⟩;exact⟨_,rfl,a,C,g,fs,y,rfl,h,d,e,p,AS,.mk fun b i k s f=>q b i s f⟩
theorem Ie(F:Cy K "__init__" "Lacks.__init__" By f c)(T:Txt mg)(d:EA K C)(i:AW K C "path"):AX P w K mg base BN 1 f c ["self","path"] (F' C):=by
 refine F.oq ["self","path"] fun H _ j _ _ l h=>?_;obtain⟨a,k,y,rfl,h,q⟩:=h;refine⟨_,(AE (BS (pv 0) (pv 1) rfl)),?_⟩;exact⟨_,rfl,_,rfl,a,C,k,[],rfl,h,d,i,by decide,j (q _ _ (fun b o e g=>by rw[AK e];exact g) AG rfl rfl)⟩
theorem Ig(F:Cy K "told" "Lacks.told" Bz f c)(T:Txt mg)(d:EA K C)(e:AW K C "path"):AX P w K mg base BN 1 f c ["self"] (NV C "lacks"):=by
 refine F.oq ["self"] fun H _ _ _ _ j h=>?_;obtain⟨a,g,fs,y,rfl,h,p,q⟩:=h;refine⟨_,(AE (AL (AF (AA AH (Au (BR (pv 0) (by rfl))))))),?_⟩;exact⟨_,rfl,a,C,g,fs,y,rfl,h,d,e,p,AS,.mk fun b i k s f=>q b i s f⟩
theorem PZ(F:Cy K "__init__" "Is.__init__" D_ f c)(T:Txt mg)(d:EA K C)(j:AW K C "path")(k:AW K C "kind"):AX P w K mg base BN 1 f c ["self","path","kind"] (GI C "kind"):=by
 refine F.oq ["self","path","kind"] fun H _ l _ _ m h=>?_;obtain⟨a,i,y,z,rfl,h,q⟩:=h;refine⟨_,(AI (BS (pv 0) (pv 1) rfl) (AE (BS (pv 0) (pv 2) rfl))),?_⟩;exact⟨_,rfl,_,rfl,a,C,i,[],rfl,h,d,j,by decide,_,rfl,_,rfl,a,C,i,_,rfl,AG,d,k,(show 1<1000 by decide),l (q _ _ (fun b o e g=>by rw[AK e,AK e];exact g) AG rfl rfl rfl)⟩
theorem Pa(F:Cy K "told" "Is.told" D' f c)(T:Txt mg)(d:EA K C)(g:AW K C "path")(i:AW K C "kind"):AX P w K mg base BN 1 f c ["self"] (NW C "is" "kind"):=by
 refine F.oq ["self"] fun H _ _ _ _ k h=>?_;obtain⟨a,e,fs,y,z,rfl,h,p,t,q⟩:=h;refine⟨_,(AE (AL (AF (AA AH (AA (BR (pv 0) (by rfl)) (Au (BR (pv 0) (by rfl)))))))),?_⟩;exact⟨_,rfl,a,C,e,fs,y,rfl,h,d,g,p,_,rfl,a,C,e,fs,z,rfl,h,d,i,t,Aw,.mk fun b j l s f=>q b j s f⟩
end
end Ba
namespace Ba
open PySem L2
abbrev NZ(K:mw)(x:Str):Prop:=PySem.W.nsIn K mainGlobals x=some none
theorem nz{K:mw}{x:Str}(h:PySem.W.nsIn K mainGlobals x=some none):NZ K x:=h
variable{P:List Value->Prop}
theorem ls{n:Nat}(h:∀a r,r.length=n->P (a::r)):∀us,us.length=n+1->P us:=fun us e=>by
 cases us with
 |nil=>cases e
 |cons a r=>exact h a r (Nat.succ.inj e)
theorem lz(h:P []):∀us,us.length=0->P us:=fun us e=>by
 cases us with
 |nil=>exact h
 |cons a r=>cases e
variable{mg:Str->Option Value}
theorem gn{K:mw}{h:Heap}{x:Str}{st:Stmt}(X:K.In h)(G:h.Ns mainGlobals mg)(A:FA K x st)(ps:List Str)(b:∀(kV d g:Value) (i:Option Addr) (e ct:Value) (us:List Value),us.length=ps.length->bindArgs (PySem.W.fnOf x x (Ab st) (AZ st) (AO st) .none kV d g i e ct) ⟨us,[]⟩=pure (ps.zip us):=by intro _ _ _ _ _ _;(repeat refine ls fun _=>?_);exact lz rfl):∃f c,Cy K x x st f c/\Binds K c ps []/\mg x=some (.ref f):=by
 obtain⟨f,c,F,a⟩:=A;exact⟨f,c,F,F.binds b,PySem.W.mg_of X G a⟩
theorem dk{P:Program}{w:World}{K:mw}{mg:Str->Option Value}{base:Heap}{x:Str}{st:Stmt}{n:Nat}{sp:Sp}{ps:List Str}(g:∃f a,Cy K x x st f a/\Binds K a ps []/\mg x=some (.ref f))(ok:∀f a,Cy K x x st f a->Binds K a ps []->mg x=some (.ref f)->AX P w K mg base BN n f a ps sp):Df P w K mg base x ps n sp:=by
 obtain⟨f,a,F,b,m⟩:=g;exact .mk' F b m (ok f a F b m)
variable{l:PySem.W.OpenLaw}
theorem all_mk{w:World}{K:mw}{h:Heap}{fa f44:Addr}(X:K.In h)(G:h.Ns mainGlobals mg)(kK:mg "law"=some (.ref fa)){et bR:Option Addr}{eu:Array (Option Value)}{ew bS bT bU YQ bV:Value}{kL kM kN kO kP:Tok}{A y z B C g q D:Addr}{R:Addr}{Rp Rq:Option Addr}{Rr:Array (Option Value)}{Rt Ru Rv Ke Rw:Value}(h1:Fb K "_wall" 0)(h2:Fb K "is_whole" 5)(h3:Fb K "has_letters_alone" 6)(h4:Fb K "is_name" 7)(h5:Fb K "is_sound" 8)(h6:Fb K "is_doc" 9)(h7:Fb K "kind_of" 10)(h8:Fb K "steps_of" 11)(h9:Fb K "inner_of" 12)(h10:Fb K "are_level" 13)(h11:Fb K "are_equal" 14)(h12:Fb K "outer_copy" 15)(h13:Fb K "copy_of" 16)(h14:Fb K "is_step" 27)(h15:Fb K "is_path" 28)(h16:Fb K "holds" 29)(h17:Fb K "found_at" 30)(h18:Fb K "begins" 31)(h19:Fb K "holder_of" 33)(h20:Fb K "full_holder_of" 34)(h21:Fb K "has_room" 35)(h22:Fb K "put_at" 36)(h23:Fb K "taken_at" 37)(h24:Fb K "changed_at" 38)(h25:Fb K "copy_where" 56)(h26:Fb K "has_form" 57)(h27:Fb K "is_row_path" 58)(h28:Fb K "may_be_first" 59)(h29:Fb K "may_be_second" 60)(h30:Fb K "is_lost" 61)(h31:Fb K "refuse_no_row" 62)(h32:Fb K "deed_of" 63)(h33:Fb K "_law_cell" 65)(h34:Fb K "_law_mix" 66)(h35:Fb K "_law_names" 67)(h36:Fb K "_law_odd_path" 68)(h37:Fb K "_law_odd_value" 69)(h38:Fb K "_law_good_path" 70)(h39:Fb K "_law_third" 71)(h40:Fb K "_law_none" 72)(h41:Fb K "_law_whole_one" 73)(h42:Fb K "_law_refusal" 74)(h43:Fb K "_law_said" 75)(a44:PySem.W.nsIn K mainGlobals "law"=some (some (.ref f44)))(l44:K.lookup f44=some ⟨ew,et,.func (PySem.W.fnOf "law" "law" (Ab Lu) (AZ Lu) (AO Lu) .none bS bT bU bR YQ bV),eu⟩)(c44:PySem.W.codeIn K YQ "law"=true)(k44:PySem.W.keepIn K (.ref f44)=true)(z1:NZ K "isinstance")(z2:NZ K "int")(z3:NZ K "bool")(z4:NZ K "str")(z5:NZ K "list")(z6:NZ K "dict")(z7:NZ K "tuple")(z8:NZ K "len")(z9:NZ K "range")(z10:NZ K "max")(z11:NZ K "min")(z12:NZ K "sorted")(z13:NZ K "all")(z14:NZ K "any")(z15:NZ K "reversed")(z16:NZ K "ValueError")(z17:NZ K "sum")(e1:PySem.W.nsIn K mainGlobals "LETTERS"=some (some (.str "abcdefghijklmnopqrstuvwxyz" kL)))(e2:PySem.W.nsIn K mainGlobals "LONGEST_NAME"=some (some (.int 8 kM)))(e3:PySem.W.nsIn K mainGlobals "LONGEST_TEXT"=some (some (.int 12 kN)))(e4:PySem.W.nsIn K mainGlobals "LONGEST_PATH"=some (some (.int 12 kO)))(e5:PySem.W.nsIn K mainGlobals "GREATEST_PLACE"=some (some (.int 20 kP)))(Cj:PySem.W.nsIn K mainGlobals "BoughError"=some (some (.ref A)))(GO:PySem.W.nsIn K mainGlobals "NoPart"=some (some (.ref y)))(GP:PySem.W.nsIn K mainGlobals "NoDeed"=some (some (.ref z)))(Ih:PySem.W.nsIn K mainGlobals "NoRow"=some (some (.ref B)))(Ii:PySem.W.nsIn K mainGlobals "NoFit"=some (some (.ref C)))(ET:PySem.W.nsIn K mainGlobals "NoPatch"=some (some (.ref g)))(GQ:PySem.W.nsIn K mainGlobals "NoText"=some (some (.ref q)))(Ij:PySem.W.nsIn K mainGlobals "Clash"=some (some (.ref D)))(Nb:PySem.W.findIn K (.ref B) "__init__"=some (some (.ref R)))(FJ:K.lookup R=some ⟨.type "function",Rp,.func (PySem.W.fnOf "__init__" "NoRow.__init__" (Ab Bx) (AZ Bx) (AO Bx) .none Rt Ru Rv Rq Ke Rw),Rr⟩)(Ik:PySem.W.codeIn K Ke "NoRow.__init__"=true)(Il:PySem.W.keepIn K (.ref R)=true){Nc HY Kf Nd:Addr}(Nf:PySem.W.findIn K (.ref C) "__init__"=some (some (.ref Nc)))(HZ:PySem.W.findIn K (.ref g) "__init__"=some (some (.ref HY)))(Kg:PySem.W.findIn K (.ref q) "__init__"=some (some (.ref Kf)))(Ng:PySem.W.findIn K (.ref D) "__init__"=some (some (.ref Nd)))(kk:eR K (fun i=>[y,z,B,C,g,q,D].getD i 0) A (fun i=>[0,0,R,Nc,HY,Kf,Nd].getD i 0)=true){cu gf gh gj:Addr}{YR:Obj}{ez:Nat}{gq gr gs gu gw gx gy gz g_ hF hG hI hJ hR hU hV hX hY:Tok}{Y Nh Ni E Im Io f S U H Ip Iq I Ir Iu Z Nj Nk Iv Nl Nn k FK FL Ut Uu Uv:Addr}{YS YT YU YV Uw Ux Uy Uz Pb Pc Pd Pe U_ U' VA VB VC VD VE VF YW YX YY YZ Ya Yb Yc Yd Rx Ry Rz R_ bW bX bY bZ:Option Addr}{Ye Yf VG VH Pf Pg VI VJ VL VM Yg Yh Yi Yj R' SA ba bb:Array (Option Value)}{Yk Yl Ym Yn SD Yo Yp Yq Yr Ys SE Yt VN VO VP VQ Np VR VS VT VU VW Nq VX Ph Pj Pk Pl Ha Pm Pn Po Pp Pq Hb Pr VY VZ Va Vb Nr Vc Vd Ve Vf Vg Nt Vh Vi Vj Vk Vl Nu Vm Vn Vo Vp Vq Nv Vr Yu Yv Yw Yx SF Yy Yz Y_ Y' ZA SG ZC ZD ZE ZF ZG SH ZH ZI ZJ ZK ZL SI ZM SJ SK SM SN Kh SO SQ SR SS SU Ki SV bc bf bg bh Wd bj bo bp bq br We bt:Value}(e_:PySem.W.nsIn K mainGlobals "LENGTHS"=some (some (.ref cu)))(fC:K.lookup cu=some YR)(fD:(cu==sysModules)=false)(fE:YR.ExactDict)(fF:YR.data=.dict (IV l.prog w [("put",3,gq,gr),("take",2,gs,gu),("change",3,gw,gx),("move",3,gy,gz),("copy",3,g_,hF),("ask",3,hG,hI),("has",2,hJ,hR),("lacks",2,hU,hV),("is",3,hX,hY)]).toArray ez)(fG:PySem.W.nsIn K mainGlobals "WORDS_WITHIN"=some (some (.ref gf)))(bO:KC K gf Cf=true)(fH:PySem.W.nsIn K mainGlobals "WORDS_WITH_VALUE"=some (some (.ref gh)))(YM:KC K gh BQ=true)(fJ:PySem.W.nsIn K mainGlobals "KINDS"=some (some (.ref gj)))(bP:KC K gj IQ=true)(SW:PySem.W.nsIn K mainGlobals "Put"=some (some (.ref Y)))(SX:PySem.W.findIn K (.ref Y) "__init__"=some (some (.ref Nh)))(MG:K.lookup Nh=some ⟨Yk,YS,.func (PySem.W.fnOf "__init__" "Put.__init__" (Ab DB) (AZ DB) (AO DB) .none Yl Ym Yn YT SD Yo),Ye⟩)(MH:PySem.W.codeIn K SD "Put.__init__"=true)(MJ:PySem.W.keepIn K (.ref Nh)=true)(SY:PySem.W.findIn K (.ref Y) "told"=some (some (.ref Ni)))(MK:K.lookup Ni=some ⟨Yp,YU,.func (PySem.W.fnOf "told" "Put.told" (Ab DC) (AZ DC) (AO DC) .none Yq Yr Ys YV SE Yt),Yf⟩)(ML:PySem.W.codeIn K SE "Put.told"=true)(MM:PySem.W.keepIn K (.ref Ni)=true)(Sa:Rh K Y Nh Ni=true)(MN:PySem.W.nsIn K mainGlobals "Take"=some (some (.ref E)))(Nw:PySem.W.findIn K (.ref E) "__init__"=some (some (.ref Im)))(Iw:K.lookup Im=some ⟨VN,Uw,.func (PySem.W.fnOf "__init__" "Take.__init__" (Ab CL) (AZ CL) (AO CL) .none VO VP VQ Ux Np VR),VG⟩)(Iy:PySem.W.codeIn K Np "Take.__init__"=true)(Iz:PySem.W.keepIn K (.ref Im)=true)(Nx:PySem.W.findIn K (.ref E) "told"=some (some (.ref Io)))(I_:K.lookup Io=some ⟨VS,Uy,.func (PySem.W.fnOf "told" "Take.told" (Ab CM) (AZ CM) (AO CM) .none VT VU VW Uz Nq VX),VH⟩)(JA:PySem.W.codeIn K Nq "Take.told"=true)(JB:PySem.W.keepIn K (.ref Io)=true)(MO:Rh K E Im Io=true)(GS:PySem.W.nsIn K mainGlobals "Change"=some (some (.ref f)))(Hc:PySem.W.findIn K (.ref f) "__init__"=some (some (.ref S)))(EU:K.lookup S=some ⟨Ph,Pb,.func (PySem.W.fnOf "__init__" "Change.__init__" (Ab Bn) (AZ Bn) (AO Bn) .none Pj Pk Pl Pc Ha Pm),Pf⟩)(EV:PySem.W.codeIn K Ha "Change.__init__"=true)(EW:PySem.W.keepIn K (.ref S)=true)(Hd:PySem.W.findIn K (.ref f) "told"=some (some (.ref U)))(EX:K.lookup U=some ⟨Pn,Pd,.func (PySem.W.fnOf "told" "Change.told" (Ab Bo) (AZ Bo) (AO Bo) .none Po Pp Pq Pe Hb Pr),Pg⟩)(EY:PySem.W.codeIn K Hb "Change.told"=true)(EZ:PySem.W.keepIn K (.ref U)=true)(GU:Rh K f S U=true)(MP:PySem.W.nsIn K mainGlobals "Move"=some (some (.ref H)))(Ny:PySem.W.findIn K (.ref H) "__init__"=some (some (.ref Ip)))(JC:K.lookup Ip=some ⟨VY,U_,.func (PySem.W.fnOf "__init__" "Move.__init__" (Ab CN) (AZ CN) (AO CN) .none VZ Va Vb U' Nr Vc),VI⟩)(JD:PySem.W.codeIn K Nr "Move.__init__"=true)(JE:PySem.W.keepIn K (.ref Ip)=true)(Nz:PySem.W.findIn K (.ref H) "told"=some (some (.ref Iq)))(JF:K.lookup Iq=some ⟨Vd,VA,.func (PySem.W.fnOf "told" "Move.told" (Ab CO) (AZ CO) (AO CO) .none Ve Vf Vg VB Nt Vh),VJ⟩)(JG:PySem.W.codeIn K Nt "Move.told"=true)(JH:PySem.W.keepIn K (.ref Iq)=true)(MQ:Rh K H Ip Iq=true)(MR:PySem.W.nsIn K mainGlobals "Copy"=some (some (.ref I)))(N_:PySem.W.findIn K (.ref I) "__init__"=some (some (.ref Ir)))(JI:K.lookup Ir=some ⟨Vi,VC,.func (PySem.W.fnOf "__init__" "Copy.__init__" (Ab CP) (AZ CP) (AO CP) .none Vj Vk Vl VD Nu Vm),VL⟩)(JJ:PySem.W.codeIn K Nu "Copy.__init__"=true)(JK:PySem.W.keepIn K (.ref Ir)=true)(OA:PySem.W.findIn K (.ref I) "told"=some (some (.ref Iu)))(JL:K.lookup Iu=some ⟨Vn,VE,.func (PySem.W.fnOf "told" "Copy.told" (Ab CQ) (AZ CQ) (AO CQ) .none Vo Vp Vq VF Nv Vr),VM⟩)(JM:PySem.W.codeIn K Nv "Copy.told"=true)(JN:PySem.W.keepIn K (.ref Iu)=true)(MS:Rh K I Ir Iu=true)(Sb:PySem.W.nsIn K mainGlobals "Ask"=some (some (.ref Z)))(Sd:PySem.W.findIn K (.ref Z) "__init__"=some (some (.ref Nj)))(MU:K.lookup Nj=some ⟨Yu,YW,.func (PySem.W.fnOf "__init__" "Ask.__init__" (Ab DD) (AZ DD) (AO DD) .none Yv Yw Yx YX SF Yy),Yg⟩)(MV:PySem.W.codeIn K SF "Ask.__init__"=true)(MW:PySem.W.keepIn K (.ref Nj)=true)(Se:PySem.W.findIn K (.ref Z) "told"=some (some (.ref Nk)))(MX:K.lookup Nk=some ⟨Yz,YY,.func (PySem.W.fnOf "told" "Ask.told" (Ab DE) (AZ DE) (AO DE) .none Y_ Y' ZA YZ SG ZC),Yh⟩)(MY:PySem.W.codeIn K SG "Ask.told"=true)(MZ:PySem.W.keepIn K (.ref Nk)=true)(Sf:Rh K Z Nj Nk=true)(Sg:PySem.W.nsIn K mainGlobals "Has"=some (some (.ref Iv)))(Sh:PySem.W.findIn K (.ref Iv) "__init__"=some (some (.ref Nl)))(Ma:K.lookup Nl=some ⟨ZD,Ya,.func (PySem.W.fnOf "__init__" "Has.__init__" (Ab DF) (AZ DF) (AO DF) .none ZE ZF ZG Yb SH ZH),Yi⟩)(Mb:PySem.W.codeIn K SH "Has.__init__"=true)(Mc:PySem.W.keepIn K (.ref Nl)=true)(Si:PySem.W.findIn K (.ref Iv) "told"=some (some (.ref Nn)))(Md:K.lookup Nn=some ⟨ZI,Yc,.func (PySem.W.fnOf "told" "Has.told" (Ab DG) (AZ DG) (AO DG) .none ZJ ZK ZL Yd SI ZM),Yj⟩)(Me:PySem.W.codeIn K SI "Has.told"=true)(Mf:PySem.W.keepIn K (.ref Nn)=true)(Sj:Rh K Iv Nl Nn=true)(JO:PySem.W.nsIn K mainGlobals "Lacks"=some (some (.ref k)))(Kj:PySem.W.findIn K (.ref k) "__init__"=some (some (.ref FK)))(GV:K.lookup FK=some ⟨SJ,Rx,.func (PySem.W.fnOf "__init__" "Lacks.__init__" (Ab By) (AZ By) (AO By) .none SK SM SN Ry Kh SO),R'⟩)(GW:PySem.W.codeIn K Kh "Lacks.__init__"=true)(GX:PySem.W.keepIn K (.ref FK)=true)(Kk:PySem.W.findIn K (.ref k) "told"=some (some (.ref FL)))(GY:K.lookup FL=some ⟨SQ,Rz,.func (PySem.W.fnOf "told" "Lacks.told" (Ab Bz) (AZ Bz) (AO Bz) .none SR SS SU R_ Ki SV),SA⟩)(GZ:PySem.W.codeIn K Ki "Lacks.told"=true)(Ga:PySem.W.keepIn K (.ref FL)=true)(JP:Rh K k FK FL=true)(ZN:PySem.W.nsIn K mainGlobals "Is"=some (some (.ref Ut)))(Wf:PySem.W.findIn K (.ref Ut) "__init__"=some (some (.ref Uu)))(Sk:K.lookup Uu=some ⟨bc,bW,.func (PySem.W.fnOf "__init__" "Is.__init__" (Ab D_) (AZ D_) (AO D_) .none bf bg bh bX Wd bj),ba⟩)(Sl:PySem.W.codeIn K Wd "Is.__init__"=true)(Sm:PySem.W.keepIn K (.ref Uu)=true)(Wg:PySem.W.findIn K (.ref Ut) "told"=some (some (.ref Uv)))(Sn:K.lookup Uv=some ⟨bo,bY,.func (PySem.W.fnOf "told" "Is.told" (Ab D') (AZ D') (AO D') .none bp bq br bZ We bt),bb⟩)(So:PySem.W.codeIn K We "Is.told"=true)(Sq:PySem.W.keepIn K (.ref Uv)=true)(ZO:Rh K Ut Uu Uv=true)
  :∃fd:FuncData,(∀(s:Shared)(v:Value),BindsTo s fd ⟨[v],[]⟩ [("_law_script",v)])/\∀base:Heap,K.In base->base.Ns mainGlobals mg->AX l.prog w K mg base BN 20 fa fd ["_law_script"] (Jx K):=by
 have e:=kK.symm.trans (PySem.W.mg_of X G a44);cases e;have gm:=fun{x:Str}{v:Value}(a:PySem.W.nsIn K mainGlobals x=some (some v))=>PySem.W.mg_of X G a;have T:Txt mg:=by constructor<;>(apply PySem.W.mg_none_of X G;assumption)
 obtain⟨f1,d1,F1,b1,m1⟩:=gn X G h1 ["k"];obtain⟨f7,d7,F7,b7,m7⟩:=gn X G h7 ["doc"];obtain⟨f10,d10,mX,b10,m10⟩:=gn X G h10 ["one","other"];obtain⟨f11,d11,mY,b11,m11⟩:=gn X G h11 ["one","other"];obtain⟨f16,d16,mZ,b16,m16⟩:=gn X G h16 ["doc","step"];obtain⟨f17,d17,ma,b17,m17⟩:=gn X G h17 ["doc","path"];obtain⟨f19,d19,md,b19,m19⟩:=gn X G h19 ["doc","path"];obtain⟨f20,d20,me,b20,m20⟩:=gn X G h20 ["doc","path"];obtain⟨f21,d21,mf,b21,m21⟩:=gn X G h21 ["holder","step"];obtain⟨f22,d22,mh,b22,m22⟩:=gn X G h22 ["doc","path","value"];obtain⟨f23,d23,mi,b23,m23⟩:=gn X G h23 ["doc","path"];obtain⟨f24,d24,mj,b24,m24⟩:=gn X G h24 ["doc","path","value"];obtain⟨f25,d25,ml,b25,m25⟩:=gn X G h25 ["doc","holds_good"];obtain⟨f31,d31,hZ,b31,m31⟩:=gn X G h31 ["thing"];obtain⟨f32,d32,h_,b32,m32⟩:=gn X G h32 ["row"];have kQ:=BB (st:=Lu) l44 c44 k44;have Pt:=PySem.W.mg_of X G e1;have Gb:=PySem.W.mg_of X G e2;have Gd:=PySem.W.mg_of X G e3;have Ge:=PySem.W.mg_of X G e4;have Ea:=PySem.W.mg_of X G e5;have kR:=PySem.W.mg_of X G fG;have kT:=PySem.W.mg_of X G fH;have kU:=PySem.W.mg_of X G fJ;have kW:=PySem.W.mg_of X G e_;have kX:O_ l.prog w K cu Lo:=PB [("put",3,gq,gr),("take",2,gs,gu),("change",3,gw,gx),("move",3,gy,gz),("copy",3,g_,hF),("ask",3,hG,hI),("has",2,hJ,hR),("lacks",2,hU,hV),("is",3,hX,hY)] fC fD fE fF (show List.Nodup [("put":Str),("take":Str),("change":Str),("move":Str),("copy":Str),("ask":Str),("has":Str),("lacks":Str),("is":Str)]by decide+kernel);have Wh:=BB (st:=DB) MG MH MJ;have bu:=Wh.binds (ps:=["self","path","value"]) fun _ _ _ _ _ _=>by(repeat refine ls fun _=>?_);exact lz rfl
 have Wi:=BB (st:=DC) MK ML MM;have bw:=Wi.binds (ps:=["self"]) fun _ _ _ _ _ _=>by(repeat refine ls fun _=>?_);exact lz rfl
 have J:=Dk.of Sa;have bx:=PySem.W.mg_of X G SW;have Sr:=BB (st:=CL) Iw Iy Iz;have ZP:=Sr.binds (ps:=["self","path"]) fun _ _ _ _ _ _=>by(repeat refine ls fun _=>?_);exact lz rfl
 have Ss:=BB (st:=CM) I_ JA JB;have ZQ:=Ss.binds (ps:=["self"]) fun _ _ _ _ _ _=>by(repeat refine ls fun _=>?_);exact lz rfl
 have L:=Dk.of MO;have ZR:=PySem.W.mg_of X G MN;have Kl:=BB (st:=Bn) EU EV EW;have Su:=Kl.binds (ps:=["self","path","value"]) fun _ _ _ _ _ _=>by(repeat refine ls fun _=>?_);exact lz rfl
 have Km:=BB (st:=Bo) EX EY EZ;have Sv:=Km.binds (ps:=["self"]) fun _ _ _ _ _ _=>by(repeat refine ls fun _=>?_);exact lz rfl
 have d:=Dk.of GU;have Sw:=PySem.W.mg_of X G GS;have Sx:=BB (st:=CN) JC JD JE;have ZS:=Sx.binds (ps:=["self","path","to"]) fun _ _ _ _ _ _=>by(repeat refine ls fun _=>?_);exact lz rfl
 have Sy:=BB (st:=CO) JF JG JH;have ZT:=Sy.binds (ps:=["self"]) fun _ _ _ _ _ _=>by(repeat refine ls fun _=>?_);exact lz rfl
 have n:=Dk.of MQ;have ZU:=PySem.W.mg_of X G MP;have Sz:=BB (st:=CP) JI JJ JK;have ZV:=Sz.binds (ps:=["self","path","to"]) fun _ _ _ _ _ _=>by(repeat refine ls fun _=>?_);exact lz rfl
 have S_:=BB (st:=CQ) JL JM JN;have ZW:=S_.binds (ps:=["self"]) fun _ _ _ _ _ _=>by(repeat refine ls fun _=>?_);exact lz rfl
 have o:=Dk.of MS;have ZX:=PySem.W.mg_of X G MR;have Wj:=BB (st:=DD) MU MV MW;have bz:=Wj.binds (ps:=["self","path","value"]) fun _ _ _ _ _ _=>by(repeat refine ls fun _=>?_);exact lz rfl
 have Wk:=BB (st:=DE) MX MY MZ;have b_:=Wk.binds (ps:=["self"]) fun _ _ _ _ _ _=>by(repeat refine ls fun _=>?_);exact lz rfl
 have O:=Dk.of Sf;have cC:=PySem.W.mg_of X G Sb;have Wl:=BB (st:=DF) Ma Mb Mc;have cD:=Wl.binds (ps:=["self","path"]) fun _ _ _ _ _ _=>by(repeat refine ls fun _=>?_);exact lz rfl
 have Wm:=BB (st:=DG) Md Me Mf;have cE:=Wm.binds (ps:=["self"]) fun _ _ _ _ _ _=>by(repeat refine ls fun _=>?_);exact lz rfl
 have V:=Dk.of Sj;have cF:=PySem.W.mg_of X G Sg;have OB:=BB (st:=By) GV GW GX;have Vs:=OB.binds (ps:=["self","path"]) fun _ _ _ _ _ _=>by(repeat refine ls fun _=>?_);exact lz rfl
 have OC:=BB (st:=Bz) GY GZ Ga;have Vt:=OC.binds (ps:=["self"]) fun _ _ _ _ _ _=>by(repeat refine ls fun _=>?_);exact lz rfl
 have r:=Dk.of JP;have Vu:=PySem.W.mg_of X G JO;have cG:=BB (st:=D_) Sk Sl Sm;have fK:=cG.binds (ps:=["self","path","kind"]) fun _ _ _ _ _ _=>by(repeat refine ls fun _=>?_);exact lz rfl
 have cH:=BB (st:=D') Sn So Sq;have fM:=cH.binds (ps:=["self"]) fun _ _ _ _ _ _=>by(repeat refine ls fun _=>?_);exact lz rfl
 have JQ:=Dk.of ZO;have fN:=PySem.W.mg_of X G ZN;have JR:=PySem.W.mg_of X G Cj;have S':=PySem.W.mg_of X G GO;have TB:=PySem.W.mg_of X G GP;have Vv:=PySem.W.mg_of X G Ih;have Vw:=PySem.W.mg_of X G Ii;have Pu:=PySem.W.mg_of X G ET;have TC:=PySem.W.mg_of X G GQ;have Vx:=PySem.W.mg_of X G Ij;have OD:=BB (st:=Bx) FJ Ik Il;have Vy:=OD.binds (ps:=["self","at"]) fun _ _ _ _ _ _=>by(repeat refine ls fun _=>?_);exact lz rfl
 have kn:=Kn.of kk;have N:=(⟨S',TB,Vv,Vw,Pu,TC,Vx,JR⟩:Nm mg (fun i=>[y,z,B,C,g,q,D].getD i 0) A);refine⟨PySem.W.fnOf "law" "law" (Ab Lu) (AZ Lu) (AO Lu) .none bS bT bU bR YQ bV,fun s v=>.of_eq rfl,fun base _ _=>?_⟩;have dk:=@dk l.prog w K mg base;have I2:fu l.prog w K mg base R ["self","at"] (FD ((fun i=>[y,z,B,C,g,q,D].getD i 0) 2)):=⟨_,Ia OD (kn.sk 0 (by decide)),Vy,⟨_,FJ,rfl⟩⟩;have Hg:=dk (gn X G h8 ["doc"]) fun _ _ F b m=>Lx F T;have Ko:=dk (gn X G h12 ["doc"]) fun _ _ F b m=>Ib F T;have p:=dk (gn X G h13 ["doc"]) fun _ _ F b m=>PQ F T Hg Ko;have cI:=MA (P:=l.prog) (w:=w) (base:=base) Wh T p J.c J.n1 J.n2;have cJ:=MB (P:=l.prog) (w:=w) (base:=base) Wi T p J.c J.n1 J.n2;have ZY:=KY (P:=l.prog) (w:=w) (base:=base) Sr T L.c L.n1;have ZZ:=KZ (P:=l.prog) (w:=w) (base:=base) Ss T L.c L.n1;have TF:=Gr (P:=l.prog) (w:=w) (base:=base) Kl T p d.c d.n1 d.n2;have TJ:=Gs (P:=l.prog) (w:=w) (base:=base) Km T p d.c d.n1 d.n2;have Za:=Ka (P:=l.prog) (w:=w) (base:=base) Sx T n.c n.n1 n.n3;have Zb:=Kb (P:=l.prog) (w:=w) (base:=base) Sy T n.c n.n1 n.n3;have Zc:=Kc (P:=l.prog) (w:=w) (base:=base) Sz T o.c o.n1 o.n3;have Zd:=Kd (P:=l.prog) (w:=w) (base:=base) S_ T o.c o.n1 o.n3;have cK:=MC (P:=l.prog) (w:=w) (base:=base) Wj T p O.c O.n1 O.n2;have cL:=MD (P:=l.prog) (w:=w) (base:=base) Wk T p O.c O.n1 O.n2;have cM:=ME (P:=l.prog) (w:=w) (base:=base) Wl T V.c V.n1;have cN:=MF (P:=l.prog) (w:=w) (base:=base) Wm T V.c V.n1;have Vz:=Ie (P:=l.prog) (w:=w) (base:=base) OB T r.c r.n1;have V_:=Ig (P:=l.prog) (w:=w) (base:=base) OC T r.c r.n1;have fO:=PZ (P:=l.prog) (w:=w) (base:=base) cG T JQ.c JQ.n1 JQ.n4;have fP:=Pa (P:=l.prog) (w:=w) (base:=base) cH T JQ.c JQ.n1 JQ.n4;have MI:∀j,j<9->Rf l.prog w K mg base 3 (bJ j) ((bN Y E f H I Z Iv k Ut) j) (f' j) (Ui (bN Y E f H I Z Iv k Ut) j):=fun j hj=>by
  rcases j9 hj with rfl|rfl|rfl|rfl|rfl|rfl|rfl|rfl|rfl
  ·exact⟨_,_,J.M,cI.mono (by decide),bu,bx⟩
  ·exact⟨_,_,L.M,ZY.mono (by decide),ZP,ZR⟩
  ·exact⟨_,_,d.M,TF.mono (by decide),Su,Sw⟩
  ·exact⟨_,_,n.M,Za.mono (by decide),ZS,ZU⟩
  ·exact⟨_,_,o.M,Zc.mono (by decide),ZV,ZX⟩
  ·exact⟨_,_,O.M,cK.mono (by decide),bz,cC⟩
  ·exact⟨_,_,V.M,cM.mono (by decide),cD,cF⟩
  ·exact⟨_,_,r.M,Vz.mono (by decide),Vs,Vu⟩
  ·exact⟨_,_,JQ.M,fO.mono (by decide),fK,fN⟩
 have MT:∀j,j<9->eV l.prog w K mg base 3 ((bN Y E f H I Z Iv k Ut) j) "told" (PD (bN Y E f H I Z Iv k Ut) j):=fun j hj=>by
  rcases j9 hj with rfl|rfl|rfl|rfl|rfl|rfl|rfl|rfl|rfl
  ·exact⟨_,_,J.c,J.hm,cJ.mono (by decide),bw⟩
  ·exact⟨_,_,L.c,L.hm,ZZ.mono (by decide),ZQ⟩
  ·exact⟨_,_,d.c,d.hm,TJ.mono (by decide),Sv⟩
  ·exact⟨_,_,n.c,n.hm,Zb.mono (by decide),ZT⟩
  ·exact⟨_,_,o.c,o.hm,Zd.mono (by decide),ZW⟩
  ·exact⟨_,_,O.c,O.hm,cL.mono (by decide),b_⟩
  ·exact⟨_,_,V.c,V.hm,cN.mono (by decide),cE⟩
  ·exact⟨_,_,r.c,r.hm,V_.mono (by decide),Vt⟩
  ·exact⟨_,_,JQ.c,JQ.hm,fP.mono (by decide),fM⟩
 have Pw:=dk (gn X G h26 ["thing"]) fun _ _ F b m=>Lz F T kW kX;have Hh:=dk (gn X G h2 ["thing"]) fun _ _ F b m=>Lv F T;have t:=dk (gn X G h3 ["text"]) fun _ _ F b m=>De F T ⟨_,Pt⟩;have Kp:=dk (gn X G h4 ["thing"]) fun _ _ F b m=>PN F T t ⟨_,Gb⟩;have TL:=dk (gn X G h14 ["thing"]) fun _ _ F b m=>PR F T Hh Kp;have TM:=dk (gn X G h15 ["thing"]) fun _ _ F b m=>PU F T TL;have El:=dk (gn X G h27 ["thing"]) fun _ _ F b m=>Ic F T TM ⟨_,Ge⟩ ⟨_,Ea⟩;have JS:=dk (gn X G h28 ["word","thing"]) fun _ _ F b m=>Gq F T El kR bO;have Mg:=dk (gn X G h5 ["thing"]) fun _ _ F b m=>Lw F T Hh t Kp ⟨_,Gd⟩;have Mh:=dk (gn X G h9 ["doc"]) fun _ _ F b m=>Ly F T Hg;have TN:=dk (gn X G h6 ["thing"]) fun _ _ F b m=>Rm F T Mg Mh;have Px:=dk (gn X G h18 ["one","other"]) fun _ _ F b m=>PV F T;have Py:=dk (gn X G h30 ["path","to"]) fun _ _ F b m=>PX F T Px;have Gf:=dk (gn X G h29 ["word","path","thing"]) fun _ _ F b m=>GL F T TN El Py kT YM kU bP;have Gu:UX l.prog w K mg base "refuse_no_row" ["thing"] 13 (F_ (fun i=>[y,z,B,C,g,q,D].getD i 0)):=UX.mk' hZ b31 m31 (GN hZ T Pw JS Gf N kn I2);have Kq:UX l.prog w K mg base "deed_of" ["row"] 14 (IW (fun i=>[y,z,B,C,g,q,D].getD i 0) (bN Y E f H I Z Iv k Ut)):=UX.mk' h_ b32 m32 (PY h_ T Gu MI);have V':=dk (gn X G h33 ["_law_script","_law_k"]) fun _ _ F b m=>Up F T;have u:=dk (gn X G h34 ["_law_cell_here","_law_k"]) fun _ _ F b m=>Uq F T;have TQ:=dk (gn X G h35 ["_law_cell_here"]) fun _ _ F b m=>Rn F T u;have Q:=dk (gn X G h38 ["_law_number","_law_names_here"]) fun _ _ F b m=>KW F T;have Gg:=dk (gn X G h36 ["_law_cell_here","_law_names_here"]) fun _ _ F b m=>L_ F T u;have Kr:=dk (gn X G h37 ["_law_cell_here","_law_names_here"]) fun _ _ F b m=>KU F T u;have TR:=dk (gn X G h39 ["_law_word","_law_cell_here","_law_names_here"]) fun _ _ F b m=>Ro F T u Gg Kr;have WA:=dk (gn X G h40 ["_law_cell_here","_law_names_here"]) fun _ _ F b m=>Ur F T u Q;have Ks:=dk (gn X G h41 ["_law_cell_here","_law_path","_law_names_here"]) fun _ _ F b m=>KX F T u;have Mi:=dk (gn X G h42 ["_law_cell_here","_law_names_here"]) fun _ _ F b m=>L' F T u Gg Q TR WA Ks;have WB:=dk (gn X G h43 ["_law_row"]) fun _ _ F b m=>Us F T Kq N kn;exact YO kQ T Kq V' u TQ Q Mi WB MT
variable{loose:List Str}{K:Params->mw}{q:Program}{d:DefRec}
theorem walk{e:(Str->Option Value)->Heap->Prop}{YP:World->Heap->Prop}(g:l.most=some 63)(b:d.params.defaults=[])(i:∀(w:World) (h:Heap),YP w h->(K w.params).In h)(F:∀(w:World) (mg:Str->Option Value) (fa:Addr) (h:Heap),(K w.params).In h->h.Ns mainGlobals mg->mg d.name=some (.ref fa)->
   ∃c:FuncData,(∀(s:Shared) (u:Value),BindsTo s c ⟨[u],[]⟩ [("_law_script",u)])/\∀base:Heap,(K w.params).In base->base.Ns mainGlobals mg->AX l.prog w (K w.params) mg base BN 20 fa c ["_law_script"] (Jx (K w.params))):
  PySem.W.WalkO q loose e YP l.row.toRowW d [] (fun f vs=>PySem.call f vs):=
 L2.Tx (n:=63) (k:=20) (x:="_law_script") (CX:=fun _=>BN) (sp:=fun w=>Jx (K w.params)) g (by decide) b ⟨rfl,by decide,by decide,rfl⟩ i F (fun _ _ a j m _ o=>⟨a,j,rfl,o,m,fun _=>rfl⟩) fun _ _ _ _ _ z=>z
theorem walkZ{m:(Str->Option Value)->Heap->Prop}{as:List Addr}{n t:Nat}(e:∀P:Params,as=List.map (fun x=>x.fst) (K P))(p:l.most=some 63)(g:d.params.defaults=[])(F:∀(w:World) (mg:Str->Option Value) (fa:Addr) (h:Heap),(K w.params).In h->h.Ns mainGlobals mg->mg d.name=some (.ref fa)->
   ∃k:FuncData,(∀(s:Shared) (u:Value),BindsTo s k ⟨[u],[]⟩ [("_law_script",u)])/\∀base:Heap,(K w.params).In base->base.Ns mainGlobals mg->AX l.prog w (K w.params) mg base BN 20 fa k ["_law_script"] (Jx (K w.params))):
  PySem.W.WalkX q loose m (PySem.W.X.obsZ as) (PySem.W.X.valZ K n t) l.row.toRowW d [] (fun f vs=>PySem.call f vs):=
 fun w b c mg r G y a o v A i B kV C D E H I J args vals j L M N O Q R=>
  walk (YP:=fun w h=>(K w.params).In h) p g (fun _ _ z=>z) F w b c mg r G ((show(K w.params).In b.heap from(PySem.W.X.z_facts e y).2.1).keeps L.keeps) a o v A i B kV C D E H I J args vals j M N O Q R
end Ba
def PySem.W.Fast.tw9527642232120473946:=0
def PySem.W.Fast.tw13224418789514364555:=0
def PySem.W.Fast.tw14678840366429857912:=0
def PySem.W.Fast.tw2510672306916448044:=0
def PySem.W.Fast.tw7135250354912362092:=0
def PySem.W.Fast.tw1113222750592306729:=0
def PySem.W.Fast.tw12136356829412610566:=0
def PySem.W.Fast.tw10603999956777866559:=0
def PySem.W.Fast.tw4066350795806115940:=0
def PySem.W.Fast.tw6000518139932358581:=0
def PySem.W.Fast.tw186472274236679597:=0
def PySem.W.Fast.tw9453089200043010510:=0
def PySem.W.Fast.tw11404515948652602734:=0
def PySem.W.Fast.tw2665022994967301763:=0
def PySem.W.Fast.tw4538820521110054284:=0
def PySem.W.Fast.tw10141710987392677146:=0
def PySem.W.Fast.tw18183376684973181008:=0
def PySem.W.Fast.tw16419725409538729338:=0
def PySem.W.Fast.tw6878895060450283337:=0
def PySem.W.Fast.tw1083880125571909337:=0
def PySem.W.Fast.tw9131514167683216565:=0
def PySem.W.Fast.tw1490067643522378304:=0
def PySem.W.Fast.tw9548127046648610235:=0
def PySem.W.Fast.tw17024507822156248324:=0
def PySem.W.Fast.tw14590678674068993549:=0
def PySem.W.Fast.tw3500355905055749805:=0
def PySem.W.Fast.tw17512726276153378009:=0
def PySem.W.Fast.tw15438225385064699678:=0
def PySem.W.Fast.tw290194718775223326:=0
def PySem.W.Fast.tw8136717495240801998:=0
def PySem.W.Fast.tw4229548529809105154:=0
def PySem.W.Fast.tw16900604915595199168:=0
def PySem.W.Fast.tw917890453470024444:=0
def PySem.W.Fast.tw15279269386259814991:=0
def PySem.W.Fast.tw4997770758162013617:=0
def PySem.W.Fast.tw17637253602507524815:=0
def PySem.W.Fast.tw13183375123525777732:=0
def PySem.W.Fast.tw3627714888447695144:=0
def PySem.W.Fast.tw3746950295883418073:=0
def PySem.W.Fast.tw8245849935602182108:=0
def PySem.W.Fast.tw14433115624359269058:=0
def PySem.W.Fast.tw16923067923744548715:=0
def PySem.W.Fast.tw2334122033843736458:=0
def PySem.W.Fast.tw15354110769615437963:=0
def PySem.W.Fast.tw1155987474865856511:=0
def PySem.W.Fast.tw13959065013066645330:=0
def PySem.W.Fast.tw12634379956732994609:=0
def PySem.W.Fast.tw876609813939546526:=0
def PySem.W.Fast.tw10609402160026485769:=0
def PySem.W.Fast.tw10474752283535132550:=0
def PySem.W.Fast.tw131236338335613515:=0
def PySem.W.Fast.tw10297975842638214956:=0
def PySem.W.Fast.tw3646016906070080800:=0
def PySem.W.Fast.tw5938464822656305917:=0
def PySem.W.Fast.tw16236397311200503867:=0
def PySem.W.Fast.tw15834135717024313590:=0
def PySem.W.Fast.tw8447797009641077676:=0
def PySem.W.Fast.tw2056304813589572625:=0
def PySem.W.Fast.tw13894542494854062534:=0
def PySem.W.Fast.tw18330342077950703614:=0
def PySem.W.Fast.tw15631823638534461888:=0
def PySem.W.Fast.tw3234345797821379133:=0
def PySem.W.Fast.tw6351932366361632323:=0
def PySem.W.Fast.tw15133703735559971542:=0
def PySem.W.Fast.tw16417288613994235148:=0
def PySem.W.Fast.tw18370335795412033822:=0
def PySem.W.Fast.tw3563886857329966190:=0
def PySem.W.Fast.tw8978473358654718725:=0
def PySem.W.Fast.tw4829465863301273176:=0
def PySem.W.Fast.tw1839685378504368288:=0
def PySem.W.Fast.tw18166036477474128610:=0
def PySem.W.Fast.tw9324705352795065178:=0
def PySem.W.Fast.tw13856024831611294885:=0
def PySem.W.Fast.tw13475758201944305083:=0
def PySem.W.Fast.tw16216356402643946827:=0
def PySem.W.Fast.tw12794580220332637409:=0
def PySem.W.Fast.tw6538996959769523359:=0
def PySem.W.Fast.tw7071834848969741717:=0
def PySem.W.Fast.tw13144809895486634224:=0
def PySem.W.Fast.tw819459277065439160:=0
def PySem.W.Fast.tw15304140260309065583:=0
def PySem.W.Fast.tw13654596749730052615:=0
def PySem.W.Fast.tw17012507272820815934:=0
def PySem.W.Fast.tw3450423440208743228:=0
def PySem.W.Fast.tw3579591183116397484:=0
def PySem.W.Fast.tw14396975912282008932:=0
def PySem.W.Fast.tw13117435237482526477:=0
def PySem.W.Fast.tw8322284792205468633:=0
def PySem.W.Fast.tw11662504289736050060:=0
def PySem.W.Fast.tw4712000587814965062:=0
def PySem.W.Fast.tw17291177825473938145:=0
def PySem.W.Fast.tw3547799936927828977:=0
def PySem.W.Fast.tw9072644338705070985:=0
def PySem.W.Fast.tw14187488299521314253:=0
def PySem.W.Fast.tw17211426915692069310:=0
def PySem.W.Fast.tw10643178799488509826:=0
def PySem.W.Fast.tw12014464900028990051:=0
def PySem.W.Fast.tw16721224321785567695:=0
def PySem.W.Fast.tw8680405443421282895:=0
def PySem.W.Fast.tw9145343522259837076:=0
def PySem.W.Fast.tw16471080869902746539:=0
def PySem.W.Fast.tw6075947249597303328:=0
def PySem.W.Fast.tw14000564507855368906:=0
def PySem.W.Fast.tw1353809585627168784:=0
def PySem.W.Fast.tw16965736771958511450:=0
def PySem.W.Fast.tw8207746764551749303:=0
def PySem.W.Fast.tw4301607171826341712:=0
def PySem.W.Fast.tw17926595758730026759:=0
def PySem.W.Fast.tw17902324819287723161:=0
def PySem.W.Fast.tw10885419006181320325:=0
def PySem.W.Fast.tw14540932140801115308:=0
def PySem.W.Fast.tw7886507679014088697:=0
def PySem.W.Fast.tw1624508848594514276:=0
def PySem.W.Fast.tw12757451567645865445:=0
def PySem.W.Fast.tw15874343209212094907:=0
def PySem.W.Fast.tw1191845541457211339:=0
def PySem.W.Fast.tw14563823952205911272:=0
def PySem.W.Fast.tw17569711437376963640:=0
def PySem.W.Fast.tw13240002491279616092:=0
def PySem.W.Fast.tw4188313940000389175:=0
def PySem.W.Fast.tw7301276479376179405:=0
def PySem.W.Fast.tw13363015050073178396:=0
def PySem.W.Fast.tw16882026394697811413:=0
def PySem.W.Fast.tw2573954729374743848:=0
def PySem.W.Fast.tw5874345189926351009:=0
def PySem.W.Fast.tw16115976250625665102:=0
def PySem.W.Fast.tw2877582825561966313:=0
def PySem.W.Fast.tw2677119761357083061:=0
def PySem.W.Fast.tw794252378253156201:=0
def PySem.W.Fast.tw12110259266495791658:=0
def PySem.W.Fast.tw975800548309041263:=0
def PySem.W.Fast.tw14913149515653802400:=0
def PySem.W.Fast.tw8091183457563560806:=0
def PySem.W.Fast.tw13978404907238991696:=0
def PySem.W.Fast.tw4676129092969716003:=0
def PySem.W.Fast.tw16526055519878874479:=0
def PySem.W.Fast.tw6786437937106115381:=0
def PySem.W.Fast.tw3226432269163912805:=0
def PySem.W.Fast.tw3969803778256222448:=0
def PySem.W.Fast.tw14849301541869108051:=0
def PySem.W.Fast.tw270877089012154031:=0
def PySem.W.Fast.tw17633590635017181292:=0
def PySem.W.Fast.tw4666957747342336607:=0
def PySem.W.Fast.tw9768783254164201895:=0
def PySem.W.Fast.tw1111658263818961331:=0
def PySem.W.Fast.tw9533420155889603823:=0
def PySem.W.Fast.tw13974417252364063161:=0
def PySem.W.Fast.tw803121686459367803:=0
def PySem.W.Fast.tw8325689152106281158:=0
def PySem.W.Fast.tw17248829288546753019:=0
def PySem.W.Fast.tw15475935105573079747:=0
def PySem.W.Fast.tw4586706535107977712:=0
def PySem.W.Fast.tw4435605290410698876:=0
def PySem.W.Fast.tw8351995042313425768:=0
def PySem.W.Fast.tw11714199715316612349:=0
def PySem.W.Fast.tw5719483127658426046:=0
def PySem.W.Fast.tw1282459624649635345:=0
def PySem.W.Fast.tw8348059082598323622:=0
def PySem.W.Fast.tw17522316436471610110:=0
def PySem.W.Fast.tw6825585795628566789:=0
def PySem.W.Fast.tw3696178384178556445:=0
def PySem.W.Fast.tw10539095523559481638:=0
def PySem.W.Fast.tw5858452105051846142:=0
def PySem.W.Fast.tw8924219592064003746:=0
def PySem.W.Fast.tw15937990423329417225:=0
def PySem.W.Fast.tw14021874908300948067:=0
def PySem.W.Fast.tw634685185656494172:=0
def PySem.W.Fast.tw2656985537262633590:=0
def PySem.W.Fast.tw5424155434081030484:=0
def PySem.W.Fast.tw11554243781359222040:=0
def PySem.W.Fast.tw16359973451992216866:=0
def PySem.W.Fast.tw469013656576893250:=0
def PySem.W.Fast.tw3848124457954412245:=0
def PySem.W.Fast.tw2867481392677052698:=0
def PySem.W.Fast.tw18124871297416455598:=0
def PySem.W.Fast.tw16495806478823086774:=0
def PySem.W.Fast.tw15171143901681431198:=0
def PySem.W.Fast.tw11535324037089351861:=0
def PySem.W.Fast.tw5861297438646370213:=0
def PySem.W.Fast.tw13362844664206753461:=0
def PySem.W.Fast.tw10713233703218464575:=0
def PySem.W.Fast.tw7089058956286832654:=0
def PySem.W.Fast.tw12135727014303540046:=0
def PySem.W.Fast.tw4245367696267043884:=0
def PySem.W.Fast.tw1972410068987913653:=0
def PySem.W.Fast.tw15768038917162926978:=0
def PySem.W.Fast.tw3127462826505737060:=0
def PySem.W.Fast.tw12087238430555796780:=0
def PySem.W.Fast.tw9752193763280597162:=0
def PySem.W.Fast.tw8486541006748103086:=0
def PySem.W.Fast.tw9078861394539231348:=0
def PySem.W.Fast.tw8871636647387120448:=0
def PySem.W.Fast.tw5414780308939814971:=0
def PySem.W.Fast.tw1637363462977890208:=0
def PySem.W.Fast.tw10734337384061187334:=0
def PySem.W.Fast.tw7061728274081728890:=0
def PySem.W.Fast.tw468845173040401952:=0
def PySem.W.Fast.tw16653079624575269729:=0
def PySem.W.Fast.tw8256063856866014379:=0
def PySem.W.Fast.tw4685003190330103777:=0
def PySem.W.Fast.tw14032404094481477599:=0
def PySem.W.Fast.tw16732474004020807475:=0
def PySem.W.Fast.tw15817378743164457686:=0
def PySem.W.Fast.tw1159598433512011538:=0
def PySem.W.Fast.tw15576915073679076160:=0
def PySem.W.Fast.tw6265316901995569158:=0
def PySem.W.Fast.tw10538538439929746067:=0
def PySem.W.Fast.tw7889689361496305681:=0
def PySem.W.Fast.tw9952347245014665513:=0
def PySem.W.Fast.tw6195601961873129473:=0
def PySem.W.Fast.tw2855326102175256189:=0
def PySem.W.Fast.tw15926089440991853980:=0
def PySem.W.Fast.tw272668427420971205:=0
def PySem.W.Fast.tw16005265752269100087:=0
def PySem.W.Fast.tw14711067636105269917:=0
def PySem.W.Fast.tw12151394596335049937:=0
def PySem.W.Fast.tw10411382950320632532:=0
def PySem.W.Fast.tw14130627331663608021:=0
def PySem.W.Fast.tw6748507984430272501:=0
def PySem.W.Fast.tw3500402125013919297:=0
def PySem.W.Fast.tw8675853103669793345:=0
def PySem.W.Fast.tw1862615971176075011:=0
def PySem.W.Fast.tw6742297175728869126:=0
def PySem.W.Fast.tw6814055857827124648:=0
def PySem.W.Fast.tw13416073904182451733:=0
def PySem.W.Fast.tw2761358318136707257:=0
def PySem.W.Fast.tw14400183905837390469:=0
def PySem.W.Fast.tw7820436498501955877:=0
def PySem.W.Fast.tw15796076371474415603:=0
def PySem.W.Fast.tw12806717131451041047:=0
def PySem.W.Fast.tw10062998978241854472:=0
def PySem.W.Fast.tw1978174453978655037:=0
def PySem.W.Fast.tw8747588429223616181:=0
def PySem.W.Fast.tw17543954237492325518:=0
def PySem.W.Fast.tw2585666922290036714:=0
def PySem.W.Fast.tw3732838223718476023:=0
def PySem.W.Fast.tw18371415465834772281:=0
def PySem.W.Fast.tw5535239290947184016:=0
def PySem.W.Fast.tw16346076585263428941:=0
def PySem.W.Fast.tw7814828687686473824:=0
def PySem.W.Fast.tw6297353420369264617:=0
def PySem.W.Fast.tw10732740334794902074:=0
def PySem.W.Fast.tw10320199779574130658:=0
def PySem.W.Fast.tw7296839030833188868:=0
def PySem.W.Fast.tw4069885182610783937:=0
def PySem.W.Fast.tw9966935040829802995:=0
def PySem.W.Fast.tw14149208901116870861:=0
def PySem.W.Fast.tw12407110897653348618:=0
def PySem.W.Fast.tw8104614227475318601:=0
def PySem.W.Fast.tw10912861557318576740:=0
def PySem.W.Fast.tw16331191046418596806:=0
def PySem.W.Fast.tw15645122192046152039:=0
def PySem.W.Fast.tw16587429084094018311:=0
def PySem.W.Fast.tw1569767244631573743:=0
def PySem.W.Fast.tw3746702416530857748:=0
def PySem.W.Fast.tw1533963418030427833:=0
def PySem.W.Fast.tw13238736770774877991:=0
def PySem.W.Fast.tw8394549284713680835:=0
def PySem.W.Fast.tw15238750539639691958:=0
def PySem.W.Fast.tw5750863667512764304:=0
def PySem.W.Fast.tw18005529934315225076:=0
def PySem.W.Fast.tw718321941809263853:=0
def PySem.W.Fast.tw4165568313950579146:=0
def PySem.W.Fast.tw11012112528089374769:=0
def PySem.W.Fast.tw5576973983843748532:=0
def PySem.W.Fast.tw2408796819273342059:=0
def PySem.W.Fast.tw11369410514879074388:=0
def PySem.W.Fast.tw15366375312479857752:=0
def PySem.W.Fast.tw17440531490464279819:=0
def PySem.W.Fast.tw9199446605006775765:=0
def PySem.W.Fast.tw16240044811242342265:=0
def PySem.W.Fast.tw6523694311267870803:=0
def PySem.W.Fast.tw1170329148990116760:=0
def PySem.W.Fast.tw4874880930014942974:=0
def PySem.W.Fast.tw17666766540381760578:=0
def PySem.W.Fast.tw13319744811234021073:=0
def PySem.W.Fast.tw5438665406756392347:=0
def PySem.W.Fast.tw7405264898801973591:=0
def PySem.W.Fast.tw21658190218885930:=0
def PySem.W.Fast.tw5419354469534670040:=0
def PySem.W.Fast.tw17376026099144194033:=0
def PySem.W.Fast.tw15506872885877623693:=0
def PySem.W.Fast.tw11338062846815750461:=0
def PySem.W.Fast.tw7052391311162594428:=0
def PySem.W.Fast.tw16330062269592259814:=0
def PySem.W.Fast.tw8157108527187743912:=0
def PySem.W.Fast.tw7495332337952114024:=0
def PySem.W.Fast.tw15911589397607312787:=0
def PySem.W.Fast.tw1319199559892520801:=0
def PySem.W.Fast.tw13020419842892236475:=0
def PySem.W.Fast.tw4839543682360117318:=0
def PySem.W.Fast.tw13082279051738002140:=0
def PySem.W.Fast.tw12357465461811214787:=0
def PySem.W.Fast.tw14740550758464226158:=0
def PySem.W.Fast.tw11506157172844313590:=0
def PySem.W.Fast.tw11294909881826712309:=0
def PySem.W.Fast.tw15782893128243160275:=0
def PySem.W.Fast.tw5317920100351760086:=0
def PySem.W.Fast.tw15715088787236312429:=0
def PySem.W.Fast.tw1022684628419599670:=0
def PySem.W.Fast.tw12919879642778501302:=0
def PySem.W.Fast.tw1211552326380265509:=0
def PySem.W.Fast.tw5556821897129948501:=0
def PySem.W.Fast.tw4754031049716842765:=0
def PySem.W.Fast.tw2251774819201469865:=0
def PySem.W.Fast.tw15942653851919084703:=0
def PySem.W.Fast.tw11942444461855349716:=0
def PySem.W.Fast.tw10719732976939730235:=0
def PySem.W.Fast.tw10852923027359941926:=0
def PySem.W.Fast.tw14847326433046534001:=0
def PySem.W.Fast.tw5872177623585316930:=0
def PySem.W.Fast.tw2274316372164732473:=0
def PySem.W.Fast.tw1744937234669972079:=0
def PySem.W.Fast.tw2678652991134783347:=0
def PySem.W.Fast.tw8887361794478385777:=0
def PySem.W.Fast.tw15321561822575004381:=0
def PySem.W.Fast.tw16859266957323745369:=0
def PySem.W.Fast.tw7045081032789403358:=0
def PySem.W.Fast.tw8322966358506354002:=0
def PySem.W.Fast.tw17636538648724351994:=0
def PySem.W.Fast.tw9339724465410001601:=0
def PySem.W.Fast.tw8568422219670917220:=0
def PySem.W.Fast.tw12560541104500770075:=0
def PySem.W.Fast.tw16312774083725344834:=0
def PySem.W.Fast.tw5142306774558587799:=0
def PySem.W.Fast.tw2129302941910833747:=0
def PySem.W.Fast.tw1039335596343603967:=0
def PySem.W.Fast.tw7235116117227455965:=0
def PySem.W.Fast.tw11153067710185415640:=0
def PySem.W.Fast.tw9164116871912659849:=0
def PySem.W.Fast.tw8047415028652064792:=0
def PySem.W.Fast.tw8026295320351830947:=0
def PySem.W.Fast.tw6700051149601663489:=0
def PySem.W.Fast.tw6511814589904968616:=0
def PySem.W.Fast.tw3063465425493772578:=0
def PySem.W.Fast.tw1974744856556264488:=0
def PySem.W.Fast.tw18391169194876065668:=0
def PySem.W.Fast.tw18021211978409036665:=0
def PySem.W.Fast.tw17338401586549054940:=0
def PySem.W.Fast.tw16684309638471850005:=0
def PySem.W.Fast.tw16551476593154899718:=0
def PySem.W.Fast.tw14209939654264318213:=0
def PySem.W.Fast.tw14174977197111968617:=0
def PySem.W.Fast.tw11157837274887045766:=0
def PySem.W.Fast.tw11051537224113621940:=0
def PySem.W.Fast.tw10351127009526842980:=0
def PySem.W.Fast.tw10024181645173962051:=0
def PySem.W.Fast.tw398096457773728381:=0
def PySem.W.Fast.tw8363078218174139771:=0
def PySem.W.Fast.tw4582887990109292767:=0
def PySem.W.Fast.tw13856721314581711995:=0
def PySem.W.Fast.tw4053021867471437963:=0
def PySem.W.Fast.tw1292259742672090526:=0
def PySem.W.Fast.tw7814526207266317104:=0
def PySem.W.Fast.tw7035043774410943744:=0
def PySem.W.Fast.tw2984387631660210612:=0
def PySem.W.Fast.tw2215539535501485635:=0
def PySem.W.Fast.tw17458533992212565862:=0
def PySem.W.Fast.tw14280318815752176091:=0
def PySem.W.Fast.tw12594973695298388057:=0
def PySem.W.Fast.tw445669490798344577:=0
def PySem.W.Fast.tw9577395320420704441:=0
def PySem.W.Fast.tw14766292813061100639:=0
def PySem.W.Fast.tw11159906084914525404:=0
def PySem.W.Fast.tw3589395226727550248:=0
def PySem.W.Fast.tw6368989793948676673:=0
def PySem.W.Fast.tw5397768273523762222:=0
def PySem.W.Fast.tw15136714878631209998:=0
def PySem.W.Fast.tw12320837198400380242:=0
def PySem.W.Fast.tw12255529507604003016:=0
def PySem.W.Fast.tw11013436246497829638:=0
def PySem.W.Fast.tw10268228744641500240:=0
def PySem.W.Fast.tw8049517508734439696:=0
def PySem.W.Fast.tw7692527925181036447:=0
def PySem.W.Fast.tw12529911089989878557:=0
def PySem.W.Fast.tw9790377509066482091:=0
def PySem.W.Fast.tw9685579703515162732:=0
def PySem.W.Fast.tw7030321146790723170:=0
def PySem.W.Fast.tw683257482903582591:=0
def PySem.W.Fast.tw725539474374285334:=0
def PySem.W.Fast.tw6986250412838798009:=0
def PySem.W.Fast.tw645754655177335970:=0
def PySem.W.Fast.tw587460767212008123:=0
def PySem.W.Fast.tw5676720400052248729:=0
def PySem.W.Fast.tw5614012580554914972:=0
def PySem.W.Fast.tw5012565711998726913:=0
def PySem.W.Fast.tw4737236147911730411:=0
def PySem.W.Fast.tw4602530653497260014:=0
def PySem.W.Fast.tw2444483848487733672:=0
def PySem.W.Fast.tw199137777751175221:=0
def PySem.W.Fast.tw17917140317926177373:=0
def PySem.W.Fast.tw1570521576248184498:=0
def PySem.W.Fast.tw11672385002358468823:=0
def PySem.W.Fast.tw13836626334983265387:=0
def PySem.W.Fast.tw13034931107400114576:=0
def PySem.W.Fast.tw9293818935047864930:=0
def PySem.W.Fast.tw8526760796487274849:=0
def PySem.W.Fast.tw8365698315750768260:=0
def PySem.W.Fast.tw7650931403310734214:=0
def PySem.W.Fast.tw7498724495014209582:=0
def PySem.W.Fast.tw7214323343123508987:=0
def PySem.W.Fast.tw6860591565465530629:=0
def PySem.W.Fast.tw6474527513953578152:=0
def PySem.W.Fast.tw6311266753050763236:=0
def PySem.W.Fast.tw5895068574778285285:=0
def PySem.W.Fast.tw3564089075733610789:=0
def PySem.W.Fast.tw2346333488940164045:=0
def PySem.W.Fast.tw18357503609244920974:=0
def PySem.W.Fast.tw18011418690163240240:=0
def PySem.W.Fast.tw17808176182497705134:=0
def PySem.W.Fast.tw17586826440062002502:=0
def PySem.W.Fast.tw1671520381827939684:=0
def PySem.W.Fast.tw16530163509302524283:=0
def PySem.W.Fast.tw15328598359238949826:=0
def PySem.W.Fast.tw14612520599365143958:=0
def PySem.W.Fast.tw14376040016880460429:=0
def PySem.W.Fast.tw13807298782976000316:=0
def PySem.W.Fast.tw12784480979741402797:=0
def PySem.W.Fast.tw12122360199363435052:=0
def PySem.W.Fast.tw1176996503674807521:=0
open PySem PySem.W PyProof.Rows
set_option maxRecDepth 100000 in
set_option maxHeartbeats 0 in
theorem PySem.Challenge.cw_patchbough_k27_rows_refused_holds : PySem.Challenge.rw_patchbough_k27_rows_refused.Holds := by
 w_on;o_law;z_head;(case hw=>w_witness2)
 k_fill
 refine Ba.walkZ (l:=PySem.Challenge.rw_patchbough_k27_rows_refused) (fun _=>rfl) rfl rfl ?F
 case F=>
  intro w c fa h b G a
  refine' Ba.all_mk b G a (L2.fa ?a1 ?l1 ?c1 ?k1) (L2.fa ?a2 ?l2 ?c2 ?k2) (L2.fa ?a3 ?l3 ?c3 ?k3) (L2.fa ?a4 ?l4 ?c4 ?k4) (L2.fa ?a5 ?l5 ?c5 ?k5) (L2.fa ?a6 ?l6 ?c6 ?k6) (L2.fa ?a7 ?l7 ?c7 ?k7) (L2.fa ?a8 ?l8 ?c8 ?k8) (L2.fa ?a9 ?l9 ?c9 ?k9) (L2.fa ?a10 ?l10 ?c10 ?k10) (L2.fa ?a11 ?l11 ?c11 ?k11) (L2.fa ?a12 ?l12 ?c12 ?k12) (L2.fa ?a13 ?l13 ?c13 ?k13) (L2.fa ?a14 ?l14 ?c14 ?k14) (L2.fa ?a15 ?l15 ?c15 ?k15) (L2.fa ?a16 ?l16 ?c16 ?k16) (L2.fa ?a17 ?l17 ?c17 ?k17) (L2.fa ?a18 ?l18 ?c18 ?k18) (L2.fa ?a19 ?l19 ?c19 ?k19) (L2.fa ?a20 ?l20 ?c20 ?k20) (L2.fa ?a21 ?l21 ?c21 ?k21) (L2.fa ?a22 ?l22 ?c22 ?k22) (L2.fa ?a23 ?l23 ?c23 ?k23) (L2.fa ?a24 ?l24 ?c24 ?k24) (L2.fa ?a25 ?l25 ?c25 ?k25) (L2.fa ?a26 ?l26 ?c26 ?k26) (L2.fa ?a27 ?l27 ?c27 ?k27) (L2.fa ?a28 ?l28 ?c28 ?k28) (L2.fa ?a29 ?l29 ?c29 ?k29) (L2.fa ?a30 ?l30 ?c30 ?k30) (L2.fa ?a31 ?l31 ?c31 ?k31) (L2.fa ?a32 ?l32 ?c32 ?k32) (L2.fa ?a33 ?l33 ?c33 ?k33) (L2.fa ?a34 ?l34 ?c34 ?k34) (L2.fa ?a35 ?l35 ?c35 ?k35) (L2.fa ?a36 ?l36 ?c36 ?k36) (L2.fa ?a37 ?l37 ?c37 ?k37) (L2.fa ?a38 ?l38 ?c38 ?k38) (L2.fa ?a39 ?l39 ?c39 ?k39) (L2.fa ?a40 ?l40 ?c40 ?k40) (L2.fa ?a41 ?l41 ?c41 ?k41) (L2.fa ?a42 ?l42 ?c42 ?k42) (L2.fa ?a43 ?l43 ?c43 ?k43) ?a44 ?l44 ?c44 ?k44 (Ba.nz ?z1) (Ba.nz ?z2) (Ba.nz ?z3) (Ba.nz ?z4) (Ba.nz ?z5) (Ba.nz ?z6) (Ba.nz ?z7) (Ba.nz ?z8) (Ba.nz ?z9) (Ba.nz ?z10) (Ba.nz ?z11) (Ba.nz ?z12) (Ba.nz ?z13) (Ba.nz ?z14) (Ba.nz ?z15) (Ba.nz ?z16) (Ba.nz ?z17) ?e1 ?e2 ?e3 ?e4 ?e5 ?Cj ?GO ?GP ?Ih ?Ii ?ET ?GQ ?Ij ?Nb ?FJ ?Ik ?Il ?Nf ?HZ ?Kg ?Ng ?kk ?e_ ?fC ?fD ?fE ?fF ?fG ?bO ?fH ?YM ?fJ ?bP ?SW ?SX ?MG ?MH ?MJ ?SY ?MK ?ML ?MM ?Sa ?MN ?Nw ?Iw ?Iy ?Iz ?Nx ?I_ ?JA ?JB ?MO ?GS ?Hc ?EU ?EV ?EW ?Hd ?EX ?EY ?EZ ?GU ?MP ?Ny ?JC ?JD ?JE ?Nz ?JF ?JG ?JH ?MQ ?MR ?N_ ?JI ?JJ ?JK ?OA ?JL ?JM ?JN ?MS ?Sb ?Sd ?MU ?MV ?MW ?Se ?MX ?MY ?MZ ?Sf ?Sg ?Sh ?Ma ?Mb ?Mc ?Si ?Md ?Me ?Mf ?Sj ?JO ?Kj ?GV ?GW ?GX ?Kk ?GY ?GZ ?Ga ?JP ?ZN ?Wf ?Sk ?Sl ?Sm ?Wg ?Sn ?So ?Sq ?ZO
  (case a1|l1|c1|k1|a2|l2|c2|k2|a3|l3|c3|k3|a4|l4|c4|k4|a5|l5|c5|k5|a6|l6|c6|k6|a7|l7|c7|k7|a8|l8|c8|k8|a9|l9|c9|k9|a10|l10|c10|k10|a11|l11|c11|k11|a12|l12|c12|k12|a13|l13|c13|k13|a14|l14|c14|k14|a15|l15|c15|k15|a16|l16|c16|k16|a17|l17|c17|k17|a18|l18|c18|k18|a19|l19|c19|k19|a20|l20|c20|k20|a21|l21|c21|k21|a22|l22|c22|k22|a23|l23|c23|k23|a24|l24|c24|k24|a25|l25|c25|k25|a26|l26|c26|k26|a27|l27|c27|k27|a28|l28|c28|k28|a29|l29|c29|k29|a30|l30|c30|k30|a31|l31|c31|k31|a32|l32|c32|k32|a33|l33|c33|k33|a34|l34|c34|k34|a35|l35|c35|k35|a36|l36|c36|k36|a37|l37|c37|k37|a38|l38|c38|k38|a39|l39|c39|k39|a40|l40|c40|k40|a41|l41|c41|k41|a42|l42|c42|k42|a43|l43|c43|k43|a44|l44|c44|k44|z1|z2|z3|z4|z5|z6|z7|z8|z9|z10|z11|z12|z13|z14|z15|z16|z17|e1|e2|e3|e4|e5|Cj|GO|GP|Ih|Ii|ET|GQ|Ij|Nb|FJ|Ik|Il|Nf|HZ|Kg|Ng=>k_is)
  (case kk=>kernel_rfl)
  (case e_=>k_is)
  (case fC=>k_is)
  (case fD=>exact rfl)
  (case fE=>exact⟨rfl,rfl,rfl⟩)
  (case fF=>exact rfl)
  (case fG=>k_is)
  (case bO=>kernel_rfl)
  (case fH=>k_is)
  (case YM=>kernel_rfl)
  (case fJ=>k_is)
  (case bP=>kernel_rfl)
  (case SW=>k_is)
  (case SX=>k_is)
  (case MG=>k_is)
  (case MH=>k_is)
  (case MJ=>k_is)
  (case SY=>k_is)
  (case MK=>k_is)
  (case ML=>k_is)
  (case MM=>k_is)
  (case Sa=>kernel_rfl)
  (case MN=>k_is)
  (case Nw=>k_is)
  (case Iw=>k_is)
  (case Iy=>k_is)
  (case Iz=>k_is)
  (case Nx=>k_is)
  (case I_=>k_is)
  (case JA=>k_is)
  (case JB=>k_is)
  (case MO=>kernel_rfl)
  (case GS=>k_is)
  (case Hc=>k_is)
  (case EU=>k_is)
  (case EV=>k_is)
  (case EW=>k_is)
  (case Hd=>k_is)
  (case EX=>k_is)
  (case EY=>k_is)
  (case EZ=>k_is)
  (case GU=>kernel_rfl)
  (case MP=>k_is)
  (case Ny=>k_is)
  (case JC=>k_is)
  (case JD=>k_is)
  (case JE=>k_is)
  (case Nz=>k_is)
  (case JF=>k_is)
  (case JG=>k_is)
  (case JH=>k_is)
  (case MQ=>kernel_rfl)
  (case MR=>k_is)
  (case N_=>k_is)
  (case JI=>k_is)
  (case JJ=>k_is)
  (case JK=>k_is)
  (case OA=>k_is)
  (case JL=>k_is)
  (case JM=>k_is)
  (case JN=>k_is)
  (case MS=>kernel_rfl)
  (case Sb=>k_is)
  (case Sd=>k_is)
  (case MU=>k_is)
  (case MV=>k_is)
  (case MW=>k_is)
  (case Se=>k_is)
  (case MX=>k_is)
  (case MY=>k_is)
  (case MZ=>k_is)
  (case Sf=>kernel_rfl)
  (case Sg=>k_is)
  (case Sh=>k_is)
  (case Ma=>k_is)
  (case Mb=>k_is)
  (case Mc=>k_is)
  (case Si=>k_is)
  (case Md=>k_is)
  (case Me=>k_is)
  (case Mf=>k_is)
  (case Sj=>kernel_rfl)
  (case JO=>k_is)
  (case Kj=>k_is)
  (case GV=>k_is)
  (case GW=>k_is)
  (case GX=>k_is)
  (case Kk=>k_is)
  (case GY=>k_is)
  (case GZ=>k_is)
  (case Ga=>k_is)
  (case JP=>kernel_rfl)
  (case ZN=>k_is)
  (case Wf=>k_is)
  (case Sk=>k_is)
  (case Sl=>k_is)
  (case Sm=>k_is)
  (case Wg=>k_is)
  (case Sn=>k_is)
  (case So=>k_is)
  (case Sq=>k_is)
  (case ZO=>kernel_rfl)
#print axioms PySem.Challenge.cw_patchbough_k27_rows_refused_holds
