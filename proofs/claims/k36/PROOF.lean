import PyProof.Rows.All
import Wide.All
import OpenK.AllK
import Wide.FinOn
import Lean
import PyProof.EqAt
import PyProof.EqKinds
import PyProof.TupleCall
import PyProof.ReprRoads
import PyProof.ReprBulk
import Wide.Seal
import PyProof.ExcInit
import PyProof.NsDelKeeps
import PyProof.ZipIter
import KE.KItemsList
import PyProof.P3Eq
import KE.KEqDict
import PyProof.EnumMake
import PyProof.Draws
import PySem.Challenge.RW_patchbough_k36_patches_refused
set_option compiler.extract_closed false
set_option bootstrap.genMatcherCode false
noncomputable section
set_option Elab.async false
set_option linter.all false
set_option maxRecDepth 100000
set_option maxHeartbeats 40000000
theorem p_{α:Type _}{l:List α}{i:Nat}(h:i<l.length):l[i]?=some l[i]:=List.getElem?_eq_getElem h
theorem p'{α:Type _}{l:List α}{i:Nat}{a:α}(h:l[i]?=some a):∃h:i<l.length,l[i]=a:=List.getElem?_eq_some_iff.mp h
theorem qB{α:Type _}{a b:α}(h:some a=some b):a=b:=Option.some.inj h
theorem qF{α:Type _}{l:List α}{i:Nat}{a:α}(h:l[i]?=some a):a∈l:=List.mem_of_getElem? h
abbrev qG:=PySem.W.Frag
namespace L2
open PySem PySem.Spec PyProof.Rows
abbrev Key:=Sum Int Str
noncomputable def Fl:Key->Value->Bool
 | .inl k,v=>Value.isInt k v
 | .inr x,v=>Value.isStrOf x v
noncomputable def fP(w:World):Key->Int
 | .inl k=>hashInt k
 | .inr x=>hashStr w x
theorem Am:∀{k:Key}{v:Value},Fl k v=true->(∃i t,k=Sum.inl i/\v=Value.int i t)∨(∃x t,k=Sum.inr x/\v=Value.str x t)
 | .inl i,v,h=>by
  obtain⟨t,e⟩:=Value.isInt_shape (k:=i) (v:=v) h;exact .inl ⟨i,t,rfl,e⟩
 | .inr x,v,h=>by
  obtain⟨t,e⟩:=Value.isStrOf_shape (x:=x) (v:=v) h;exact .inr ⟨x,t,rfl,e⟩
theorem PK(i:Int)(t:Tok):Fl (.inl i) (.int i t)=true:=by simp[Fl,Value.isInt]
theorem PL(x:Str)(t:Tok):Fl (.inr x) (.str x t)=true:=by simp[Fl,Value.isStrOf]
theorem Xy(a b:Int):decide ((Sum.inl a:Key)=Sum.inl b)=(a==b):=by
 by_cases e:a=b
 ·subst e;simp
 ·have h:¬(Sum.inl a:Key)=Sum.inl b:=fun q=>e (Sum.inl.inj q);rw[decide_eq_false h];exact(beq_eq_false_iff_ne.mpr e).symm
theorem Xz(a b:Str):decide ((Sum.inr a:Key)=Sum.inr b)=decide (a=b):=by
 by_cases e:a=b
 ·subst e;simp
 ·have h:¬(Sum.inr a:Key)=Sum.inr b:=fun q=>e (Sum.inr.inj q);rw[decide_eq_false h,decide_eq_false e]
theorem X_(a:Int)(b:Str):decide ((Sum.inl a:Key)=Sum.inr b)=false:=decide_eq_false (fun q=>nomatch q)
theorem X'(a:Str)(b:Int):decide ((Sum.inr a:Key)=Sum.inl b)=false:=decide_eq_false (fun q=>nomatch q)
def Ag(prog:Program)(w:World):PySem.KeyKind prog w Key where
 is:=Fl
 hash:=fP w
 inj:=fun v a b ha hb=>by
  rcases Am ha with⟨i,t,rfl,rfl⟩|⟨x,t,rfl,rfl⟩
  ·rcases Am hb with⟨j,u,rfl,e⟩|⟨y,u,rfl,e⟩
   ·injection e with e1 _;rw[e1]
   ·exact nomatch e
  ·rcases Am hb with⟨j,u,rfl,e⟩|⟨y,u,rfl,e⟩
   ·exact nomatch e
   ·injection e with e1 _;rw[e1]
 byValue:=fun k v h=>by
  rcases Am h with⟨i,t,rfl,rfl⟩|⟨x,t,rfl,rfl⟩<;>rfl
 pyHash:=fun hv h=>by
  rcases Am hv with⟨i,t,rfl,rfl⟩|⟨x,t,rfl,rfl⟩
  ·exact wpAny_pyHash_int h
  ·exact wpAny_pyHash_str h
 eqBool:=fun hu hv h=>by
  rcases Am hu with⟨i,t,rfl,rfl⟩|⟨x,t,rfl,rfl⟩
  ·rcases Am hv with⟨j,u,rfl,rfl⟩|⟨y,u,rfl,rfl⟩
   ·rw[Xy]at h;exact wpAny_eqBool_int h
   ·rw[X_]at h;exact SeqAt.EqAt.int_str i t y u _ _ _ _ h
  ·rcases Am hv with⟨j,u,rfl,rfl⟩|⟨y,u,rfl,rfl⟩
   ·rw[X']at h;exact SeqAt.EqAt.str_int x t j u _ _ _ _ h
   ·rw[Xz]at h;exact wpAny_eqBool_str h
 «strs»:=fun k x t v h=>by
  rcases Am h with⟨i,u,rfl,e⟩|⟨y,u,rfl,e⟩
  ·exact nomatch e
  ·injection e with e1 _;subst e1;cases v<;>rfl
theorem Jv(prog:Program)(w:World)(i:Int)(t:Tok):(Ag prog w).is (.inl i) (.int i t)=true:=PK i t
theorem Jw(prog:Program)(w:World)(x:Str)(t:Tok):(Ag prog w).is (.inr x) (.str x t)=true:=PL x t
inductive V where
 |Ae|bl (b:Bool)|int (i:Int)|str (x:Str)|Nc (b:Array UInt8)|YA (b:UInt64)|ref (a:Addr)|ty (n:String)
 deriving DecidableEq
def RelV:V->Value->Prop
 | .Ae,u=>u=Value.none
 | .bl b,u=>u=Value.bool b
 | .int i,u=>∃t,u=Value.int i t
 | .str x,u=>∃t,u=Value.str x t
 | .Nc b,u=>∃t,u=Value.bytes b t
 | .YA b,u=>∃t,u=Value.float b t
 | .ref a,u=>u=Value.ref a
 | .ty n,u=>u=Value.type n
abbrev Vals:List V->List Value->Prop:=Paired RelV
theorem Vals.length{xs:List V}{us:List Value}(r:Vals xs us):xs.length=us.length:=Paired.length r
variable{us:List Value}
theorem Vals.inv{x:V}{xs:List V}(r:Vals (x::xs) us):∃u c,us=u::c/\RelV x u/\Vals xs c:=by
 cases r with
 |cons a b=>exact⟨_,_,rfl,a,b⟩
variable{i:Nat}
theorem Vals.get{xs:List V}{x:V}(r:Vals xs us)(e:xs[i]?=some x):∃u,us[i]?=some u/\RelV x u:=by
 induction r generalizing i with
 |nil=>rw[List.getElem?_nil]at e;exact nomatch e
 |cons a b c=>
  cases i with
  |zero=>exact⟨_,rfl,qB e▸a⟩
  |succ j=>exact c (i:=j) e
theorem Vals.set{x:V}{u:Value}(r:RelV x u):∀{xs:List V}{us:List Value}(i:Nat),Vals xs us->Vals (xs.set i x) (us.set i u)
 |_,_,_,.nil=>.nil
 |_,_,0,.cons _ t=>.cons r t
 |_,_,i+1,.cons q t=>.cons q (Vals.set r i t)
variable{ys:List V}
theorem Vals.append{xs:List V}{b:List Value}(r:Vals xs us)(s:Vals ys b):Vals (xs++ys) (us++b):=by
 induction r with
 |nil=>exact s
 |cons a _ c=>exact .cons a c
theorem Vals.take:∀{xs:List V}{us:List Value}(n:Nat),Vals xs us->Vals (xs.take n) (us.take n)
 |_,_,0,_=>.nil
 |_,_,_+1,.nil=>.nil
 |_,_,n+1,.cons r t=>.cons r (Vals.take n t)
theorem Vals.drop:∀{xs:List V}{us:List Value}(n:Nat),Vals xs us->Vals (xs.drop n) (us.drop n)
 |_,_,0,r=>r
 |_,_,_+1,.nil=>.nil
 |_,_,n+1,.cons _ t=>Vals.drop n t
def Cg:Option V->Option Value->Prop
 |some v,some u=>RelV v u
 |none,none=>True
 |_,_=>False
def KV{a:Type}:List (a×V)->List (a×Value)->Prop:=Paired fun(p:a×V)(q:a×Value)=>p.1=q.1/\RelV p.2 q.2
noncomputable def kV:Key->V
 | .inl i=>.int i
 | .inr x=>.str x
inductive HO where
 |lst (xs:List V)
 |tup (xs:List V)
 |dK (kvs:List (Key×V))|dT (kvs:List (List Key×V))
 |set (S:Int->Bool) (n:Nat)
 |ins (C a:Addr) (fs:List (Str×V))
 |own (x:Addr)
 |xd (fs:List (Str×V))
 |met (f x:Addr)
 |XR (lo b:Int)
 |Ci (o:Obj) (u:HO)
 |XS (ps:Array Value)
 |ext (c:Heap->Prop)
abbrev Hp:=Addr->Option HO
def upd(H:Hp)(a:Addr)(o:HO):Hp:=fun b=>if b=a then some o else H b
def Uk(H:Hp)(o:HO)(Q:V->Hp->Prop):Prop:=∀p,H p=none->Q (.ref p) (upd H p o)
variable{H:Hp}{a:Addr}{o:HO}
theorem AD:upd H a o a=some o:=by unfold upd;rw[if_pos rfl]
variable{b:Addr}
theorem AH(h:b≠a):upd H a o b=H b:=by unfold upd;rw[if_neg h]
theorem Up{u:HO}:upd (upd H a o) a u=upd H a u:=by
 funext b;unfold upd;split<;>rfl
theorem bP{u:HO}(h:H a=some o)(h':H b=some u)(d:o≠u):a≠b:=by
 intro e;subst e;rw[h]at h';exact d (qB h')
theorem AY(h:H a=some o)(h':H b=none):a≠b:=by
 intro e;subst e;rw[h]at h';cases h'
section
variable(P:Program) (w:World)
def Ah(H:Hp)(h:Heap)(a:Addr):HO->Prop
 | .lst xs=>xs.length<=sizeLine/\∃(its:List Value)(n:Nat),Vals xs its/\h.get? a=some {cls:=.type "list",data:=.seq its.toArray n}
 | .tup xs=>xs.length<=sizeLine/\∃its:List Value,Vals xs its/\IsTup h a its.toArray
 | .dK b=>b.length<=sizeLine/\(a==sysModules)=false/\∃g,KV b g/\h.DictOf (Ag P w) a g
 | .dT b=>b.length<=sizeLine/\(a==sysModules)=false/\∃xs:List (List Key×Addr×Value),
   Paired (fun(p:List Key×V)(q:List Key×Addr×Value)=>p.1=q.1/\H q.2.1=some (.tup (p.1.map kV))/\RelV p.2 q.2.2) b xs/\
   ∃o i l,h.get? a=some o/\o.ExactDict/\o.data=.dict i l/\i.toList=xs.map (entryOfKey (tupleKind (Ag P w)))/\(xs.map (·.1)).Nodup
 | .set S n=>h.SetOf (intKind P w) a S n
 | .ins C d fs=>H d=some (.own a)/\fs.length<=1000/\d≠a/\h.get? a=some (PySem.W.instObj C d)/\
   ∃c,h.Ns1 d c/\(∀f,Cg (fs.lookup f) (c f))/\PySem.Within c (fs.map (·.1))
 | .own _=>∃o,h.get? a=some o
 | .xd fs=>∃c,h.Ns1 a c/\∀f,Cg (fs.lookup f) (c f)
 | .XR lo m=>∃t u v,h.get? a=some {cls:=.type "range",data:=.fields #[.int lo t,.int m u,.int 1 v]}
 | .Ci o u=>h.get? a=some o/\Ah H h a u
 | .XS r=>h.get? a=some {cls:=.none,data:=.fields r}
 | .met f x=>h.get? a=some (PySem.W.methodObj (.ref f) (.ref x))
 | .ext e=>e h/\(∃o,h.get? a=some o)/\∀j k:Heap,e j->(∀o,j.get? a=some o->k.get? a=some o)->e k
def Cf(H:Hp)(h:Heap):Prop:=∀a o,H a=some o->Ah P w H h a o
end
variable{P:Program}{w:World}{h h':Heap}{H':Hp}
section
theorem Ah.lt(x:Ah P w H h a o):a<h.objs.size:=by
 cases o with
 |lst xs=>obtain⟨_,_,_,_,e⟩:=x;exact Heap.lt_size e
 |tup xs=>obtain⟨_,_,_,p⟩:=x;exact p.lt
 |dK b=>obtain⟨_,_,_,_,o,_,_,e,_⟩:=x;exact Heap.lt_size e
 |dT b=>obtain⟨_,_,_,_,o,_,_,e,_⟩:=x;exact Heap.lt_size e
 |set S n=>obtain⟨o,_,_,_,e,_⟩:=x;exact Heap.lt_size e
 |ins C c fs=>obtain⟨_,_,_,e,_⟩:=x;exact Heap.lt_size e
 |own y=>obtain⟨_,e⟩:=x;exact Heap.lt_size e
 |xd fs=>obtain⟨_,⟨_,_,_,e,_⟩,_⟩:=x;exact Heap.lt_size e
 |XR lo d=>obtain⟨_,_,_,e⟩:=x;exact Heap.lt_size e
 |Ci g u=>obtain⟨e,_⟩:=x;exact Heap.lt_size e
 |XS i=>exact Heap.lt_size (show h.get? a=some _ from x)
 |met f y=>exact Heap.lt_size (show h.get? a=some _ from x)
 |ext j=>obtain⟨_,⟨_,e⟩,_⟩:=x;exact Heap.lt_size e
theorem Paired.bQ{e g:Type}{F G:e->g->Prop}{c:List e}{d:List g}(r:Paired F c d)(f:∀a b,F a b->G a b):Paired G c d:=by
 induction r with
 |nil=>exact .nil
 |cons a _ i=>exact .cons (f _ _ a) i
theorem Ah.FG(x:Ah P w H h a o)(k:∀b u,(b=a∨H b=some (.own a))->h.get? b=some u->h'.get? b=some u)(D:∀b,H b=some (.own a)->H' b=some (.own a))(E:∀b xs,H b=some (.tup xs)->H' b=some (.tup xs)):Ah P w H' h' a o:=by
 induction o with
 |lst xs=>obtain⟨z,l,n,r,e⟩:=x;exact⟨z,l,n,r,k _ _ (.inl rfl) e⟩
 |tup xs=>obtain⟨z,l,r,g,e,c⟩:=x;exact⟨z,l,r,g,k _ _ (.inl rfl) e,c⟩
 |dK m=>obtain⟨z,y,F,r,g,i,j,e,c⟩:=x;exact⟨z,y,F,r,g,i,j,k _ _ (.inl rfl) e,c⟩
 |dT m=>
  obtain⟨z,y,xs,r,g,i,j,e,c⟩:=x;exact⟨z,y,xs,Paired.bQ r fun p q z=>⟨z.1,E _ _ z.2.1,z.2.2⟩,g,i,j,k _ _ (.inl rfl) e,c⟩
 |set S n=>obtain⟨g,i,j,t,e,c⟩:=x;exact⟨g,i,j,t,k _ _ (.inl rfl) e,c⟩
 |ins C J fs=>
  obtain⟨d,z,G,e,s,⟨A,i,j,e2,c⟩,r⟩:=x;exact⟨D _ d,z,G,k _ _ (.inl rfl) e,s,⟨A,i,j,k _ _ (.inr d) e2,c⟩,r⟩
 |own y=>obtain⟨g,e⟩:=x;exact⟨g,k _ _ (.inl rfl) e⟩
 |xd fs=>obtain⟨s,⟨A,i,j,e,c⟩,r⟩:=x;exact⟨s,⟨A,i,j,k _ _ (.inl rfl) e,c⟩,r⟩
 |XR lo K=>obtain⟨t,u,v,e⟩:=x;exact⟨t,u,v,k _ _ (.inl rfl) e⟩
 |Ci g u I=>obtain⟨e,q⟩:=x;exact⟨k _ _ (.inl rfl) e,I q⟩
 |XS B=>
  have e:h.get? a=some {cls:=.none,data:=.fields B}:=x;show h'.get? a=some {cls:=.none,data:=.fields B};exact k a _ (.inl rfl) e
 |met f y=>
  have e:h.get? a=some (PySem.W.methodObj (.ref f) (.ref y)):=x;show h'.get? a=some (PySem.W.methodObj (.ref f) (.ref y));exact k a _ (.inl rfl) e
 |ext L=>obtain⟨p,⟨o,e⟩,st⟩:=x;exact⟨st _ _ p fun o q=>k _ _ (.inl rfl) q,⟨o,k _ _ (.inl rfl) e⟩,st⟩
theorem Cf.lt(x:Cf P w H h)(e:H a=some o):a<h.objs.size:=(x a o e).lt
theorem Cf.fresh(x:Cf P w H h)(e:h.objs.size<=a):H a=none:=by
 cases q:H a with
 |none=>rfl
 |some u=>exact absurd (Nat.lt_of_lt_of_le (x.lt q) e) (Nat.lt_irrefl _)
theorem Cf.kept(x:Cf P w H h)(k:∀b u,h.get? b=some u->h'.get? b=some u):Cf P w H h':=fun a o e=>
 (x a o e).FG (fun b u _ q=>k b u q) (fun _ q=>q) fun _ _ q=>q
theorem Cf.laid(x:Cf P w H h)(k:∀b u,h.get? b=some u->h'.get? b=some u)(g:h.objs.size<=a)(new:Ah P w (upd H a o) h' a o):Cf P w (upd H a o) h':=fun b u e=>by
 have d:=x.fresh g;by_cases f:b=a
 ·subst f;rw[AD]at e;cases e;exact new
 ·rw[AH f]at e;exact(x b u e).FG (fun c v _ q=>k c v q) (fun c q=>by rw[AH (AY q d)];exact q) fun c xs q=>by rw[AH (AY q d)];exact q
end
def Rd(H:Hp)(a:Addr)(u:HO):Prop:=H a=some u∨∃o,H a=some (.Ci o u)
theorem Rd.ok{u:HO}(r:Rd H a u)(x:Cf P w H h):Ah P w H h a u:=by
 rcases r with r|⟨o,r⟩
 ·exact x a u r
 ·obtain⟨_,q⟩:=x a _ r;exact q
def bR:Option HO->Prop
 |some (.lst _)=>True
 |some (.dK _)=>True
 |some (.dT _)=>True
 |some (.set _ _)=>True
 |some (.ins _ _ _)=>True
 |some (.ext _)=>True
 |_=>False
section
variable {x e:Addr} {o':HO}
theorem Cf.write(ok:Cf P w H h)(g:bR (H x))(m:e=x∨H e=some (.own x))(k:∀b u,b≠e->h.get? b=some u->h'.get? b=some u)(l:∃u,h'.get? e=some u)(new:Ah P w (upd H x o') h' x o'):Cf P w (upd H x o') h':=fun b u q=>by
 have d:∀c y,H c=some (.own y)->c≠x:=fun c y r z=>by subst z;rw[r]at g;exact g
 have f:∀c xs,H c=some (.tup xs)->c≠x:=fun c xs r z=>by subst z;rw[r]at g;exact g
 by_cases i:b=x
 ·subst i;rw[AD]at q;cases q;exact new
 ·rw[AH i]at q;by_cases a:b=e
  ·have n:H b=some (.own x):=by
    rcases m with z|z
    ·exact absurd (a.trans z) i
    ·rw[a];exact z
   rw[q]at n;cases n;obtain⟨v,o⟩:=l;exact⟨v,by rw[a];exact o⟩
  ·refine(ok b u q).FG (fun c v j r=>k c v ?_ r) (fun c r=>by rw[AH (d c b r)];exact r) fun c xs r=>by rw[AH (f c xs r)];exact r
   rcases j with rfl|j
   ·exact a
   ·rintro rfl;rcases m with z|z
    ·exact d c b j z
    ·rw[j]at z;cases z;exact i rfl
end
structure Un(fs ex:List Addr)(H H':Hp)(h h':Heap):Prop where
 keep:∀b o,h.get? b=some o->H b=none->b∉fs->b∉ex->h'.get? b=some o
 slot:∀b o,h.get? b=some o->H b=none->b∈fs->b∉ex->∃sl,h'.get? b=some {o with slots:=sl}
 free:∀b o,h.get? b=some o->H b=none->b∉ex->H' b=none
 there:∀b o,h.get? b=some o->b∉ex->∃o',h'.get? b=some o'
 Dl:∀b xs,H b=some (.tup xs)->H' b=some (.tup xs)
 DV:∀b o u,H b=some (.Ci o u)->H' b=some (.Ci o u)
 Du:∀b ps,H b=some (.XS ps)->∃more,H' b=some (.XS (ps++more))
section
variable{fs km ex oP:List Addr} {H1 H2:Hp} {h1 h2:Heap} {x e:Addr} 
theorem Un.any(u:Un fs ex H H1 h h1){ob:Obj}(q:h.get? b=some ob)(n:H b=none)(c:b∉ex):∃f,h1.get? b=some {ob with slots:=f}:=by
 by_cases d:b∈fs
 ·exact u.slot b ob q n d c
 ·exact⟨ob.slots,u.keep b ob q n d c⟩
theorem Un.kept(k:∀b u,h.get? b=some u->h'.get? b=some u):Un fs ex H H h h':=
 ⟨fun b c q _ _ _=>k b c q,fun b c q _ _ _=>⟨c.slots,k b c q⟩,fun _ _ _ n _=>n,fun b c q _=>⟨c,k b c q⟩,fun _ _ q=>q,fun _ _ _ q=>q,fun _ d q=>⟨#[],by rw[q];simp⟩⟩
theorem Un.refl:Un fs ex H H h h:=Un.kept fun _ _ q=>q
theorem Un.laid(k:∀b u,h.get? b=some u->h'.get? b=some u)(hp:h.objs.size<=a)(hn:H a=none):Un fs ex H (upd H a o) h h' where
 keep:=fun b u q _ _ _=>k b u q
 slot:=fun b u q _ _ _=>⟨u.slots,k b u q⟩
 free:=fun b u q n _=>by rw[AH (Nat.ne_of_lt (Nat.lt_of_lt_of_le (Heap.lt_size q) hp))];exact n
 there:=fun b u q _=>⟨u,k b u q⟩
 Dl:=fun b xs q=>by rw[AH (AY q hn)];exact q
 DV:=fun b u xs q=>by rw[AH (AY q hn)];exact q
 Du:=fun b ps q=>⟨#[],by rw[AH (AY q hn),q];simp⟩
theorem Un.write(d:bR (H x))(l:e=x∨H e=some (.own x))(k:∀b u,b≠e->h.get? b=some u->h'.get? b=some u)(f:∃u,h'.get? e=some u):Un fs ex H (upd H x o) h h':=by
 have i:∀b,H b=none->b≠x:=fun b n z=>by subst z;rw[n]at d;exact d
 have j:∀b,H b=none->b≠e:=fun b n z=>by
  subst z;rcases l with r|r
  ·exact i b n r
  ·rw[n]at r;cases r
 have g:∀b u,H b=some u->¬bR (some u)->b≠x:=fun b u q m z=>by subst z;rw[q]at d;exact m d
 refine⟨fun b u q n _ _=>k b u (j b n) q,fun b u q n _ _=>⟨u.slots,k b u (j b n) q⟩,fun b u q n _=>by rw[AH (i b n)];exact n,fun b u q _=>?_,
  fun b xs q=>by rw[AH (g b _ q fun z=>z)];exact q,fun b u xs q=>by rw[AH (g b _ q fun z=>z)];exact q,fun b p q=>⟨#[],by rw[AH (g b _ q fun z=>z),q];simp⟩⟩
 by_cases c:b=e
 ·subst c;exact f
 ·exact⟨u,k b u c q⟩
end
def eX(h:Heap)(H:Hp):List Addr:=(List.range h.objs.size).filter fun a=>(H a).isSome
def IH(h:Heap)(H:Hp):Heap:=PySem.W.hideAll h (eX h H)
theorem PM(h:Heap)(H:Hp):(IH h H).objs.size=h.objs.size:=PySem.W.hideAll_size _ _
theorem Qx{o:Obj}(e:h.get? b=some o)(n:H b=none):(IH h H).get? b=some o:=
 PySem.W.hideAll_get _ e fun a=>by
  have q:(H b).isSome=true:=(List.mem_filter.mp a).2;rw[n]at q;simp at q
theorem Uq{o:Obj}(e:(IH h H).get? b=some o):h.get? b=some o/\H b=none:=by
 have a:h.get? b=some o:=PySem.W.of_hideAll (eX h H) e;refine⟨a,?_⟩;cases q:H b with
 |none=>rfl
 |some x=>
  have c:b∈eX h H:=List.mem_filter.mpr ⟨List.mem_range.mpr (Heap.lt_size a),by simp[q]⟩;have z:(IH h H).get? b=none:=PySem.W.hideAll_none (eX h H) c;rw[z]at e;cases e
def Ur(g h:Heap)(L:Addr):List (Addr×Obj):=(List.range h.objs.size).filterMap fun a=>if a=L∨(g.get? a).isSome=true then none else(h.get? a).map fun o=>(a,o)
def rest(g h:Heap)(L d:Addr):List (Addr×Obj):=(Ur g h L).filter fun p=>decide (p.1≠d)
structure Mod(K:qG)(mg:Str->Option Value)(base:Heap):Prop where
 Qy:K.In base
 glob:base.Ns mainGlobals mg
 blt:∃mb,base.Ns builtinsNs mb/\∀x:Str,x≠"__name__"->mb x=bootBuiltins x
 nolimit:base.NoLimit
structure Cx where
 prog:Program
 w:World
 K:qG
 mg:Str->Option Value
 base:Heap
 A:Around
 N:List Str
 s₀:Shared
 H₀:Hp
 env:Env
 outer:List Env
 stack:List Env
 ex:List Addr
 fn:Str->Bool
 calm:Bool
 pn:List (Addr×Obj)
 xe:Value->Shared->Prop
def II(l:List Env):List Addr:=l.filterMap (·.frame)
abbrev Cx.fs(X:Cx):List Addr:=II X.outer
def bS(a:Scope)(x:Str):Prop:=a.names.lookup x=some .local∨a.names.lookup x=some .cell∨a.names.lookup x=some .free
def Loc(a:Scope)(x:Str):Prop:=a.names.lookup x=some .local∨a.names.lookup x=some .cell
def Look(env:Env)(h:Heap)(m:Str->Option Value)(x:Str)(u:Value):Prop:= (env.kindOf x=some .local/\m x=some u)∨((env.kindOf x=some .cell∨env.kindOf x=some .free)/\∃c,env.cells.lookup x=some c/\h.IsCell c (some u))
structure Cx.Ok(X:Cx):Prop where
 mod:Mod X.K X.mg X.base
 kind:X.env.scope.kind=.function
 glob:X.env.globals=mainGlobals
 blt:X.env.builtins=builtinsNs
 above:X.s₀.heap.objs.size<=X.env.locals
 inj:∀x y c,X.env.cells.lookup x=some c->X.env.cells.lookup y=some c->x=y
 has:∀x,(X.env.kindOf x=some .cell∨X.env.kindOf x=some .free)->∃c,X.env.cells.lookup x=some c
 XT:∀x c,X.fn x=true->X.env.cells.lookup x=some c->X.s₀.heap.objs.size<=c
 hd:X.calm=true->X.A.handled=none
 frames:X.A.frames=some X.stack
 YB:X.stack=X.outer∨(X.stack=X.env::X.outer/\X.env.frame=some X.env.locals)
 YC:∀b∈X.ex,b≠X.env.locals/\∀x c,X.env.cells.lookup x=some c->c≠b
 bs:∀b o,X.base.get? b=some o->X.s₀.heap.get? b=some o/\X.H₀ b=none
 PN:X.base.objs.size<=X.s₀.heap.objs.size
 Jx:∀b o,X.base.get? b=some o->b∉X.ex
 Jy:∀b∈X.ex,b∉X.fs
 Cz:X.s₀.heap.FunFrames X.base X.outer
 Qz:∀b∈X.fs,X.H₀ b=none
structure Inv(X:Cx)(pins:List (Addr×Obj))(σ:List (Option V))(H:Hp)(s:Shared):Prop where
 ok:X.Ok
 os:s.os=X.s₀.os
 bare:AllBare s.gens
 base:Un X.fs X.ex X.H₀ H X.s₀.heap s.heap
 loc:∃m,s.heap.Ns X.env.locals m/\∀(i:Nat)(x:Str)(v:V),X.N[i]?=some x->σ[i]?=some (some v)->bS X.env.scope x->∃u,RelV v u/\Look X.env s.heap m x u
 cell:∀x c,X.env.cells.lookup x=some c->∃v,s.heap.IsCell c v
 free:H X.env.locals=none
 BS:∀x c,X.env.cells.lookup x=some c->H c=none
 pin:∀p∈X.pn++pins,s.heap.get? p.1=some p.2/\H p.1=none/\p.1≠X.env.locals/\p.1∉X.fs/\∀v,p.2.data≠.cell v
 Al:Cf X.prog X.w H s.heap
 len:σ.length=X.N.length
variable{pins:List (Addr×Obj)}{E:Value->Shared->Prop}{s s':Shared}{A:Around}{X:Cx}{u:Value}{ch:List Addr}{v:V}{g':Array GenState}{M:Model}{t':Nat}{N:List Str}{d':Drawn}
section
variable {σ:List (Option V)} 
theorem Cx.Ok.fQ(ok:X.Ok){o:Obj}(e:X.base.get? b=some o):b∉X.fs:=fun a=>by
 have:=(ok.Cz.mem a).1;rw[e]at this;cases this
theorem Inv.bs(I:Inv X pins σ H s):∀b o,X.base.get? b=some o->s.heap.get? b=some o/\H b=none:=fun b o e=>
 ⟨I.base.keep b o (I.ok.bs b o e).1 (I.ok.bs b o e).2 (I.ok.fQ e) (I.ok.Jx b o e),I.base.free b o (I.ok.bs b o e).1 (I.ok.bs b o e).2 (I.ok.Jx b o e)⟩
theorem Inv.bk(I:Inv X pins σ H s):∀b o,X.base.get? b=some o->s.heap.get? b=some o:=fun b o e=>(I.bs b o e).1
theorem Inv.mod(I:Inv X pins σ H s):Mod X.K X.mg X.base:=I.ok.mod
theorem Inv.CH(I:Inv X pins σ H s):X.K.In s.heap:=I.ok.mod.Qy.keeps I.bk
theorem Inv.lt(I:Inv X pins σ H s):X.env.locals<s.heap.objs.size:=let⟨_,a,_⟩:=I.loc;a.lt
theorem Inv.sz(I:Inv X pins σ H s):X.s₀.heap.objs.size<=s.heap.objs.size:=Nat.le_trans I.ok.above (Nat.le_of_lt I.lt)
theorem Inv.fS(I:Inv X pins σ H s)(h:s.heap.objs.size<=a):a∉X.fs:=fun b=>by
 obtain⟨_,o,c,_⟩:=I.ok.Cz.mem b;exact absurd (Nat.lt_of_lt_of_le (Heap.lt_size c) (Nat.le_trans I.sz h)) (Nat.lt_irrefl _)
theorem Inv.Us(I:Inv X pins σ H s):∀x c,X.env.cells.lookup x=some c->c≠X.env.locals:=fun x c e z=>by
 obtain⟨v,o,d,f⟩:=I.cell x c e;obtain⟨m,⟨g,h,i,a,b,_⟩,_⟩:=I.loc;rw[z,a]at d;cases d;rw[b]at f;cases f
theorem Inv.Cz(I:Inv X pins σ H s):s.heap.FunFrames X.base X.outer:=by
 have all:∀(l:List Env),(∀b∈II l,b∈X.fs)->X.s₀.heap.FunFrames X.base l->s.heap.FunFrames X.base l:=by
  intro l
  induction l with
  |nil=>intro _ _;trivial
  |cons env r g=>
   intro f h;obtain⟨i,⟨L,o,a,j,k,m⟩,n⟩:=h;have c:L∈X.fs:=f L (by unfold II;rw[List.filterMap_cons,a];exact List.mem_cons_self);obtain⟨p,e⟩:=I.base.slot L o k (I.ok.Qz L c) c fun z=>I.ok.Jy L z c;exact⟨i,⟨L,_,a,j,e,m⟩,g (fun b d=>f b (by unfold II;rw[List.filterMap_cons,a];exact List.mem_cons_of_mem _ d)) n⟩
 exact all X.outer (fun _ d=>d) I.ok.Cz
theorem Inv.stack(I:Inv X pins σ H s):s.heap.FunFrames X.base X.stack:=by
 rcases I.ok.YB with e|⟨e,a⟩
 ·rw[e];exact I.Cz
 ·rw[e];obtain⟨m,b,_⟩:=I.loc;refine .cons (by rw[I.ok.kind];decide) a b ?_ I.Cz;exact Heap.get?_none_of_le (Nat.le_trans I.ok.PN I.ok.above)
theorem Inv.ES(I:Inv X pins σ H s):∀b∈II X.stack,b∈X.env.locals::X.fs:=fun b a=>by
 rcases I.ok.YB with e|⟨e,c⟩
 ·rw[e]at a;exact List.mem_cons_of_mem _ a
 ·rw[e]at a;unfold II at a;rw[List.filterMap_cons,c]at a;exact a
theorem Inv.DP(I:Inv X pins σ H s):∀b∈II X.stack,H b=none:=fun b a=>by
 rcases List.mem_cons.mp (I.ES b a)with e|a
 ·rw[e];exact I.free
 ·obtain⟨_,o,c,_⟩:=I.ok.Cz.mem a;exact I.base.free b o c (I.ok.Qz b a) fun z=>I.ok.Jy b z a
theorem Inv.step(I:Inv X pins σ H s)(f:∀b∈ch,(b∈X.ex∨X.s₀.heap.objs.size<=b)/\b≠X.env.locals/\(∀x c,X.env.cells.lookup x=some c->c≠b)/\∀p∈X.pn++pins,p.1≠b)(keep:∀b o,b≠X.env.locals->b∉X.fs->b∉ch->s.heap.get? b=some o->H b=none->h'.get? b=some o)(slot:∀b o,b≠X.env.locals->b∈X.fs->b∉ch->s.heap.get? b=some o->H b=none->∃C,h'.get? b=some {o with slots:=C})(free:∀b o,b∉ch->s.heap.get? b=some o->H b=none->H' b=none)(there:∀b o,b∉ch->s.heap.get? b=some o->∃y,h'.get? b=some y)(Dl:∀b xs,H b=some (.tup xs)->H' b=some (.tup xs))(DV:∀b o u,H b=some (.Ci o u)->H' b=some (.Ci o u))(Du:∀b B,H b=some (.XS B)->∃more,H' b=some (.XS (B++more)))(L:∀m,s.heap.Ns X.env.locals m->h'.Ns X.env.locals m)(D:Cf X.prog X.w H' h')(M:AllBare g'):
  Inv X pins σ H' {s with heap:=h',gens:=g',drawn:=d',toks:=t'}:=by
 have A:∀b o,X.s₀.heap.get? b=some o->b≠X.env.locals:=fun b o e=>Nat.ne_of_lt (Nat.lt_of_lt_of_le (Heap.lt_size e) I.ok.above);have h:∀b o,X.s₀.heap.get? b=some o->b∉X.ex->b∉ch:=fun b o e a j=>by
  rcases(f b j).1 with z|z
  ·exact a z
  ·exact absurd (Nat.lt_of_lt_of_le (Heap.lt_size e) z) (Nat.lt_irrefl _)
 have cellK:∀x c,X.env.cells.lookup x=some c->∀v,s.heap.IsCell c v->h'.IsCell c v:=fun x c e v ⟨o,t,E⟩=>by
  have g:c∉ch:=fun z=>(f c z).2.2.1 x c e rfl;by_cases G:c∈X.fs
  ·obtain⟨C,q⟩:=slot c o (I.Us x c e) G g t (I.BS x c e);exact⟨_,q,E⟩
  ·exact⟨o,keep c o (I.Us x c e) G g t (I.BS x c e),E⟩
 refine⟨I.ok,I.os,M,⟨fun b o e n j a=>?_,fun b o e n j a=>?_,fun b o e n a=>?_,fun b o e a=>?_,fun b xs e=>Dl b xs (I.base.Dl b xs e),fun b o xs e=>DV b o xs (I.base.DV b o xs e),fun b B e=>?_⟩,?_,fun x c e=>?_,?_,fun x c e=>?_,fun p J=>?_,D,I.len⟩
 ·exact keep b o (A b o e) j (h b o e a) (I.base.keep b o e n j a) (I.base.free b o e n a)
 ·obtain⟨C,e1⟩:=I.base.slot b o e n j a;obtain⟨F,e2⟩:=slot b _ (A b o e) j (h b o e a) e1 (I.base.free b o e n a);exact⟨F,e2⟩
 ·obtain⟨y,e1⟩:=I.base.there b o e a;exact free b y (h b o e a) e1 (I.base.free b o e n a)
 ·obtain⟨y,e1⟩:=I.base.there b o e a;exact there b y (h b o e a) e1
 ·obtain⟨N,e1⟩:=I.base.Du b B e;obtain⟨O,e2⟩:=Du b _ e1;exact⟨N++O,by rw[e2,Array.append_assoc]⟩
 ·obtain⟨m,P,Q⟩:=I.loc;refine⟨m,L m P,fun i x v e1 e2 e3=>?_⟩;obtain⟨u,r,l⟩:=Q i x v e1 e2 e3;refine⟨u,r,?_⟩;rcases l with l|⟨k,c,e,z⟩
  ·exact .inl l
  ·exact .inr ⟨k,c,e,cellK x c e _ z⟩
 ·obtain⟨v,z⟩:=I.cell x c e;exact⟨v,cellK x c e v z⟩
 ·obtain⟨m,⟨o,_,_,t,_⟩,_⟩:=I.loc;exact free _ o (fun z=>(f _ z).2.1 rfl) t I.free
 ·obtain⟨v,o,t,E⟩:=I.cell x c e;exact free c o (fun z=>(f c z).2.2.1 x c e rfl) t (I.BS x c e)
 ·obtain⟨e,n,K,nf,d⟩:=I.pin p J;have g:p.1∉ch:=fun z=>(f p.1 z).2.2.2 p J rfl;exact⟨keep p.1 p.2 K nf g e n,free p.1 p.2 g e n,K,nf,d⟩
theorem Inv.un(I:Inv X pins σ H s)(u:Un X.fs [] H H' s.heap h')(c:Cf X.prog X.w H' h'):Inv X pins σ H' {s with heap:=h',toks:=t'}:=by
 obtain⟨m,⟨o,l,p,h,r⟩,_⟩:=id I.loc;obtain⟨q,i⟩:=u.any h I.free (by simp);exact I.step (g':=s.gens) (d':=s.drawn) (ch:=[]) (fun _ z=>nomatch z) (fun b o _ d _ e n=>u.keep b o e n d (by simp)) (fun b o _ d _ e n=>u.slot b o e n d (by simp)) (fun b o _ e n=>u.free b o e n (by simp)) (fun b o _ e=>u.there b o e (by simp)) u.Dl u.DV u.Du (fun t j=>by
  obtain⟨v,f,g,a,k⟩:=j;rw[h]at a;cases a;exact⟨_,f,g,i,k⟩) c I.bare
theorem Inv.call(I:Inv X pins σ H s)(u:Un (II X.stack) ch H H' s.heap h')(g:Cf X.prog X.w H' h')(l:AllBare g')(d:∀b∈ch,(b∈X.ex∨X.s₀.heap.objs.size<=b)/\b≠X.env.locals/\(∀x c,X.env.cells.lookup x=some c->c≠b)/\∀p∈X.pn++pins,p.1≠b):
  Inv X pins σ H' {s with heap:=h',gens:=g',drawn:=d',toks:=t'}:=by
 obtain⟨m,⟨o,y,A,k,r⟩,_⟩:=id I.loc;obtain⟨B,h⟩:=u.any k I.free fun z=>(d _ z).2.1 rfl;exact I.step (ch:=ch) d (fun b o h q a e n=>u.keep b o e n (fun z=>(List.mem_cons.mp (I.ES b z)).elim h q) a) (fun b o _ _ a e n=>u.any e n a) (fun b o a e n=>u.free b o e n a) (fun b o a e=>u.there b o e a) u.Dl u.DV u.Du (fun C t=>by
  obtain⟨D,i,j,f,v⟩:=t;rw[k]at f;cases f;exact⟨_,i,j,h,v⟩) g l
theorem Inv.turned{it:Addr}(I:Inv X pins σ H s)(k:∀b o,b≠it->s.heap.get? b=some o->h'.get? b=some o)(g:H it=none)(f:it≠X.env.locals)(h:it∈X.ex∨X.s₀.heap.objs.size<=it)(i:∀x c,X.env.cells.lookup x=some c->c≠it)(j:∀p∈X.pn++pins,p.1≠it):Inv X pins σ H {s with heap:=h',toks:=t'}:=by
 have d:∀b u,H b=some u->b≠it:=fun b u e z=>by rw[z,g]at e;cases e
 refine I.step (g':=s.gens) (d':=s.drawn) (ch:=[it]) (fun b l=>?_) (fun b o _ _ a e _=>k b o (fun z=>a (by simp[z])) e) (fun b o _ _ a e _=>⟨o.slots,k b o (fun z=>a (by simp[z])) e⟩) (fun _ _ _ _ n=>n) (fun b o a e=>⟨o,k b o (fun z=>a (by simp[z])) e⟩) (fun _ _ e=>e) (fun _ _ _ e=>e) (fun b B e=>⟨#[],by rw[e];simp⟩) (fun m t=>?_) (fun b u e=>?_) I.bare
 ·have e:b=it:=by simpa using l
  subst e;exact⟨h,f,i,j⟩
 ·obtain⟨o,w,y,A,r⟩:=t;exact⟨o,w,y,k _ o (Ne.symm f) A,r⟩
 ·refine(I.Al b u e).FG (fun c v a q=>k c v ?_ q) (fun _ q=>q) fun _ _ q=>q;rcases a with z|z
  ·rw[z];exact d b u e
  ·exact d c _ z
theorem Inv.tok(I:Inv X pins σ H s)(t:Nat):Inv X pins σ H {s with toks:=t}:=I.un (h':=s.heap) (t':=t) Un.refl I.Al
theorem Inv.kept{t':Nat}(I:Inv X pins σ H s)(k:∀b u,s.heap.get? b=some u->h'.get? b=some u):Inv X pins σ H {s with heap:=h',toks:=t'}:=I.un (Un.kept k) (I.Al.kept k)
theorem Inv.laid{a:Addr}{o:HO}{t':Nat}(I:Inv X pins σ H s)(k:∀b u,s.heap.get? b=some u->h'.get? b=some u)(c:s.heap.objs.size<=a)(new:Ah X.prog X.w (upd H a o) h' a o):
  Inv X pins σ (upd H a o) {s with heap:=h',toks:=t'}:=I.un (Un.laid k c (I.Al.fresh c)) (I.Al.laid k c new)
theorem Inv.write{x e:Addr}{o:HO}{t':Nat}(I:Inv X pins σ H s)(c:bR (H x))(d:e=x∨H e=some (.own x))(k:∀b u,b≠e->s.heap.get? b=some u->h'.get? b=some u)(a:∃u,h'.get? e=some u)(new:Ah X.prog X.w (upd H x o) h' x o):Inv X pins σ (upd H x o) {s with heap:=h',toks:=t'}:=I.un (Un.write c d k a) (I.Al.write c d k a new)
theorem Inv.Nd{a:List (Addr×Obj)}(I:Inv X pins σ H s)(h:∀p∈a,s.heap.get? p.1=some p.2/\H p.1=none/\p.1≠X.env.locals/\p.1∉X.fs/\∀v,p.2.data≠.cell v):Inv X a σ H s:=
 ⟨I.ok,I.os,I.bare,I.base,I.loc,I.cell,I.free,I.BS,fun p b=>(List.mem_append.mp b).elim (fun z=>I.pin p (List.mem_append_left _ z)) (h p),I.Al,I.len⟩
theorem Jz(c:N.Nodup){j:Nat}{x:Str}(a:N[i]?=some x)(b:N[j]?=some x):i=j:=by
 obtain⟨d,e1⟩:=p' a;obtain⟨e,e2⟩:=p' b;exact(List.getElem_inj c).mp (e1.trans e2.symm)
theorem HV{x:Str}{Q:Unit->Shared->Prop}(I:Inv X pins σ H s)(hN:X.N.Nodup)(J:X.N[i]?=some x)(l:Loc X.env.scope x)(r:RelV v u)(h:∀s',Inv X pins (σ.set i (some v)) H s'->(∃a,Heap.SameBut a s.heap s'.heap/\(a=X.env.locals∨X.env.cells.lookup x=some a))->Q () s')(hf:X.fn x=true∨X.env.scope.names.lookup x=some .local:=by first|exact .inl rfl|exact .inr rfl|assumption):wpAny M A (storeName X.env x u) Q E s:=by
 obtain⟨m,Y,hl⟩:=id I.loc;have K:(X.env.scope.kind==.class||(X.env.scope.kind==.module&&X.env.locals !=X.env.globals))=false:=by rw[I.ok.kind];rfl
 have B:i<σ.length:=by rw[I.len];exact(p' J).1
 have Us:=I.Us;have tracked:∀{a:Addr}{h':Heap},(∃o,s.heap.get? a=some o/\H a=none)->Heap.SameBut a s.heap h'->Cf X.prog X.w H h':=fun{a h'} ha f b ob e=>by
  obtain⟨_,_,t⟩:=ha;refine(I.Al b ob e).FG (fun c S g q=>(f.2 c ?_).trans q) (fun _ q=>q) fun _ _ q=>q;rintro rfl;rcases g with rfl|g
  ·rw[t]at e;cases e
  ·rw[t]at g;cases g
 rcases l with C|C
 ·refine wpAny_storeName_local C Y (fun h' Z f=>?_) K;obtain⟨oL,_,_,W,_⟩:=id Y;refine h _ ⟨I.ok,I.os,I.bare,⟨fun b o e n D l=>?_,fun b o e n D l=>?_,I.base.free,fun b o e l=>?_,I.base.Dl,I.base.DV,I.base.Du⟩,⟨_,Z,fun j y v' e1 e2 e3=>?_⟩,fun y c e=>?_,I.free,I.BS,fun p hp=>?_,tracked ⟨oL,W,I.free⟩ f,by simpa using I.len⟩ ⟨_,f,.inl rfl⟩
  ·exact(f.2 b (Nat.ne_of_lt (Nat.lt_of_lt_of_le (Heap.lt_size e) I.ok.above))).trans (I.base.keep b o e n D l)
  ·obtain⟨sl,e1⟩:=I.base.slot b o e n D l;exact⟨sl,(f.2 b (Nat.ne_of_lt (Nat.lt_of_lt_of_le (Heap.lt_size e) I.ok.above))).trans e1⟩
  ·obtain⟨o',e1⟩:=I.base.there b o e l;exact⟨o',(f.2 b (Nat.ne_of_lt (Nat.lt_of_lt_of_le (Heap.lt_size e) I.ok.above))).trans e1⟩
  ·by_cases F:j=i
   ·subst F;rw[J]at e1;cases e1;rw[List.getElem?_set_self B]at e2;cases e2;exact⟨u,r,.inl ⟨C,by simp⟩⟩
   ·rw[List.getElem?_set_ne (Ne.symm F)]at e2;obtain⟨u',r',q⟩:=hl j y v' e1 e2 e3;refine⟨u',r',?_⟩;rcases q with⟨k,e⟩|⟨k,c,e,z⟩
    ·refine .inl ⟨k,?_⟩;have:y≠x:=fun e=>F (Jz hN e1 (e▸J));simp[this,e]
    ·exact .inr ⟨k,c,e,z.sameBut f (Us y c e)⟩
  ·obtain⟨S,z⟩:=I.cell y c e;exact⟨S,z.sameBut f (Us y c e)⟩
  ·obtain⟨e,n,T,nf,d⟩:=I.pin p hp;exact⟨(f.2 p.1 T).trans e,n,T,nf,d⟩
 ·have G:X.fn x=true:=by
   rcases hf with z|z
   ·exact z
   ·rw[z]at C;cases C
  obtain⟨c,g⟩:=I.ok.has x (.inl C);obtain⟨S,z⟩:=I.cell x c g;refine wpAny_storeName_cell I.ok.kind C g z (fun h' L f=>?_);obtain⟨oc,O,P⟩:=id z;refine h {s with heap:=h'} ⟨I.ok,I.os,I.bare,⟨fun b o e n D l=>?_,fun b o e n D l=>?_,I.base.free,fun b o e l=>?_,I.base.Dl,I.base.DV,I.base.Du⟩,⟨m,Y.sameBut f (Ne.symm (Us x c g)),fun j y v' e1 e2 e3=>?_⟩,fun y U e=>?_,I.free,I.BS,fun p hp=>?_,tracked ⟨oc,O,I.BS x c g⟩ f,by simpa using I.len⟩ ⟨c,f,.inr g⟩
  ·exact(f.2 b (Nat.ne_of_lt (Nat.lt_of_lt_of_le (Heap.lt_size e) (I.ok.XT x c G g)))).trans (I.base.keep b o e n D l)
  ·obtain⟨sl,e1⟩:=I.base.slot b o e n D l;exact⟨sl,(f.2 b (Nat.ne_of_lt (Nat.lt_of_lt_of_le (Heap.lt_size e) (I.ok.XT x c G g)))).trans e1⟩
  ·obtain⟨o',e1⟩:=I.base.there b o e l;exact⟨o',(f.2 b (Nat.ne_of_lt (Nat.lt_of_lt_of_le (Heap.lt_size e) (I.ok.XT x c G g)))).trans e1⟩
  ·by_cases F:j=i
   ·subst F;rw[J]at e1;cases e1;rw[List.getElem?_set_self B]at e2;cases e2;exact⟨u,r,.inr ⟨.inl C,c,g,L⟩⟩
   ·rw[List.getElem?_set_ne (Ne.symm F)]at e2;obtain⟨u',r',q⟩:=hl j y v' e1 e2 e3;refine⟨u',r',?_⟩;rcases q with q|⟨k,U,e,z'⟩
    ·exact .inl q
    ·refine .inr ⟨k,U,e,z'.sameBut f ?_⟩;rintro rfl;exact F (Jz hN e1 (I.ok.inj _ _ _ e g▸J))
  ·by_cases R:U=c
   ·subst R;exact⟨_,L⟩
   ·obtain⟨w2,z2⟩:=I.cell y U e;exact⟨w2,z2.sameBut f R⟩
  ·obtain⟨e,n,T,nf,d⟩:=I.pin p hp;refine⟨(f.2 p.1 ?_).trans e,n,T,nf,d⟩;intro q;rw[q,O]at e;have q':oc=p.2:=qB e;exact d S (by rw[<-q'];exact P)
theorem C_{x:Str}{Q:Unit->Shared->Prop}(I:Inv X pins σ H s)(a:X.N.Nodup)(b:X.N[i]?=some x)(c:Loc X.env.scope x)(r:RelV v u)(h:∀s',Inv X pins (σ.set i (some v)) H s'->Q () s')(d:X.fn x=true∨X.env.scope.names.lookup x=some .local:=by first|exact .inl rfl|exact .inr rfl|assumption):wpAny M A (storeName X.env x u) Q E s:=
 HV I a b c r (fun s' e _=>h s' e) d
theorem Inv.HW(I:Inv X pins σ H s)(f:s'.os=s.os)(u:Un (II X.stack) ch H H' s.heap s'.heap)(a:Cf X.prog X.w H' s'.heap)(g:AllBare s'.gens)(d:∀b∈ch,(b∈X.ex∨X.s₀.heap.objs.size<=b)/\b≠X.env.locals/\(∀x c,X.env.cells.lookup x=some c->c≠b)/\∀p∈X.pn++pins,p.1≠b):Inv X pins σ H' s':=by
 obtain⟨h',g',d',t',h⟩:=s';have e:h=s.os:=f;subst e;exact I.call (g':=g') (t':=t') (d':=d') u a g d
end
abbrev XK:=Value->Option Addr->Hp->Prop
abbrev St:=List (Option V)
abbrev VK:=V->Hp->Prop
abbrev TE:=St->Hp->VK->Prop
abbrev TT:=St->Hp->(Bool->Hp->Prop)->Prop
abbrev TA:=St->Hp->(List V->Hp->Prop)->Prop
structure Ends where
 nx:St->Hp->Prop
 rt:VK
 bk:St->Hp->Prop:=fun _ _=>False
 ct:St->Hp->Prop:=fun _ _=>False
abbrev TS:=Ends->St->Hp->Prop
inductive jb(x:V)(H:Hp)(Q:Bool->Hp->Prop):Prop
 |mk(c:Bool)(e:x=.bl c)(q:Q c H)
inductive fU(a:TE)(b:St)(x:V)(H:Hp)(Q:VK):Prop
 |mk(c:Bool)(e:x=.bl c)(q:if c=true then a b H Q else Q (.bl false) H)
inductive ko(a:TE)(b:St)(x:V)(H:Hp)(Q:VK):Prop
 |mk(c:Bool)(e:x=.bl c)(q:if c=true then Q (.bl true) H else a b H Q)
inductive fV(x:V)(H:Hp)(Q:VK):Prop
 |mk(c:Bool)(e:x=.bl c)(q:Q (.bl (!c)) H)
inductive kq(x:V)(H:Hp)(Q:Option Int->Hp->Prop):Prop
 |mk(i:Int)(e:x=.int i)(q:Q (some i) H)
inductive EP(X:Cx)(pins:List (Addr×Obj))(b:St)(Q:VK)(u:Value)(s':Shared):Prop
 |mk(v:V)(a:Hp)(I:Inv X pins b a s')(r:RelV v u)(q:Q v a)
inductive TP(X:Cx)(pins:List (Addr×Obj))(c:St)(Q:Bool->Hp->Prop)(b:Bool)(s':Shared):Prop
 |mk(a:Hp)(I:Inv X pins c a s')(q:Q b a)
inductive AP(X:Cx)(pins:List (Addr×Obj))(b:St)(Q:List V->Hp->Prop)(us:List Value)(s':Shared):Prop
 |mk(vs:List V)(a:Hp)(I:Inv X pins b a s')(r:Vals vs us)(q:Q vs a)
variable{G:Prop}
theorem EP.elim{b:St}{Q:VK}(h:EP X pins b Q u s')(k:∀(v:V) (a:Hp),Inv X pins b a s'->RelV v u->Q v a->G):G:=by
 cases h with
 |mk v a I r q=>exact k v a I r q
theorem AP.elim{b:St}{Q:List V->Hp->Prop}(h:AP X pins b Q us s')(k:∀(vs:List V) (a:Hp),Inv X pins b a s'->Vals vs us->Q vs a->G):G:=by
 cases h with
 |mk v a I r q=>exact k v a I r q
theorem TP.elim{c:St}{Q:Bool->Hp->Prop}{b:Bool}(h:TP X pins c Q b s')(k:∀a:Hp,Inv X pins c a s'->Q b a->G):G:=by
 cases h with
 |mk a I q=>exact k a I q
inductive fW(X:Cx)(pins:List (Addr×Obj))(N:St->Hp->Prop)(s':Shared):Prop
 |mk(a:St)(b:Hp)(I:Inv X pins a b s')(q:N a b)
inductive kr(X:Cx)(pins:List (Addr×Obj))(Q:VK)(u:Value)(s':Shared):Prop
 |mk(v:V)(b:St)(a:Hp)(I:Inv X pins b a s')(r:RelV v u)(q:Q v a)
def SP(X:Cx)(pins:List (Addr×Obj))(D:Ends)(f:Flow)(s':Shared):Prop:=
 match f with
 | .next=>fW X pins D.nx s'
 | .brk=>fW X pins D.bk s'
 | .cont=>fW X pins D.ct s'
 | .ret u=>kr X pins D.rt u s'
def PE(X:Cx)(e:Expr)(t:TE):Prop:=
 ∀(pins:List (Addr×Obj))(s:Shared)(a:St)(H:Hp)(Q:VK),Inv X pins a H s->t a H Q->wpAny (model X.prog X.w) X.A (eval e X.env) (EP X pins a Q) X.xe s
def PT(X:Cx)(e:Expr)(t:TT):Prop:=
 ∀(pins:List (Addr×Obj))(s:Shared)(a:St)(H:Hp)(Q:Bool->Hp->Prop),Inv X pins a H s->t a H Q->wpAny (model X.prog X.w) X.A (isTrue e X.env (eval e X.env)) (TP X pins a Q) X.xe s
def PW(X:Cx)(e:Expr)(t:TT):Prop:=
 ∀(whole:Sem Value)(pins:List (Addr×Obj))(s:Shared)(a:St)(H:Hp)(Q:Bool->Hp->Prop),Inv X pins a H s->t a H Q->wpAny (model X.prog X.w) X.A (isTrue e X.env whole) (TP X pins a Q) X.xe s
variable{e:Expr}
theorem PW.pt{t:TT}(h:PW X e t):PT X e t:=h _
def PA(X:Cx)(b:List Expr)(t:TA):Prop:=
 ∀(pos:Pos)(pins:List (Addr×Obj))(s:Shared)(a:St)(H:Hp)(Q:List V->Hp->Prop),Inv X pins a H s->t a H Q->wpAny (model X.prog X.w) X.A (spliced (backTo pos (starEach b X.env))) (AP X pins a Q) X.xe s
def PS(X:Cx)(st:Stmt)(t:TS):Prop:=
 ∀(pins:List (Addr×Obj))(s:Shared)(a:St)(H:Hp)(D:Ends),Inv X pins a H s->t D a H->wpAny (model X.prog X.w) X.A (exec st X.env) (SP X pins D) X.xe s
def G'(X:Cx)(st:List Stmt)(t:TS):Prop:=
 ∀(pins:List (Addr×Obj))(s:Shared)(a:St)(H:Hp)(D:Ends),Inv X pins a H s->t D a H->wpAny (model X.prog X.w) X.A (execs st X.env) (SP X pins D) X.xe s
theorem Aw{b:Type}{t:Sem b}{Q c:b->Shared->Prop}(h:wpAny M A t Q E s)(d:∀a s,Q a s->c a s):wpAny M A t c E s:=wpAny_mono h d fun _ _ x=>x
variable{Q:Value->Shared->Prop}{op:CmpOp}{ta tb:TE}
section
inductive bT(i:Nat)(a:St)(H:Hp)(Q:VK):Prop
 |mk(v:_)(b:a[i]?=some (some v))(c:Q v H)
def YD(i:Nat):TE:=fun a H Q=>bT i a H Q
def tC(v:V):TE:=fun _ H Q=>Q v H
theorem YE{x:Str}{pos:Pos}(j:X.N[i]?=some x)(k:bS X.env.scope x)(d:(x==("__debug__":Str))=false:=by decide)(f:(x==("__classdict__":Str))=false:=by decide):PE X (.Name x pos) (YD i):=by
 intro pins s n H Q I h;obtain⟨v,e,h⟩:=h;obtain⟨m,o,p⟩:=I.loc;obtain⟨u,r,l⟩:=p i x v j e k;have fin:EP X pins n Q u s:=⟨v,H,I,r,h⟩;rcases l with⟨b,q⟩|⟨b,c,g,a⟩
 ·exact wpAny_Name (wpAny_loadName_local I.ok.kind b o q fin) d
 ·rcases b with b|b
  ·exact wpAny_Name (wpAny_loadName_cell I.ok.kind b g a fin) d
  ·exact wpAny_Name (wpAny_loadName_free I.ok.kind b g a fin f) d
theorem AF{c j pos}:PE X (.Constant (.int c) j pos) (tC (.int c)):=fun _ _ _ H _ I h=>wpAny_Constant_int ⟨.int c,H,I.tok _,⟨_,rfl⟩,h⟩
theorem DY{c j pos}:PE X (.Constant (.bool c) j pos) (tC (.bl c)):=fun _ _ _ H _ I h=>Constant_bool ⟨.bl c,H,I,rfl,h⟩
theorem Fm{j pos}:PE X (.Constant .none j pos) (tC .Ae):=fun _ _ _ H _ I h=>Constant_none ⟨.Ae,H,I,rfl,h⟩
theorem AL{x j pos}:PE X (.Constant (.str x) j pos) (tC (.str x)):=fun _ _ _ H _ I h=>Calls.Constant_str ⟨.str x,H,I.tok _,⟨_,rfl⟩,h⟩
def Gl(X:Cx)(x:Str):Prop:=X.env.kindOf x=some .globalImplicit
theorem Bv{a:St}{x:Str}{pos:Pos}(I:Inv X pins a H s)(b:Gl X x)(c:X.mg x=some u)(h:Q u s)(d:(x==("__debug__":Str))=false:=by decide):wpAny (model X.prog X.w) X.A (eval (.Name x pos) X.env) Q E s:=
 Calls.Name_function_global I.ok.kind b (Calls.loadGlobal_global (by rw[I.ok.glob];exact I.mod.glob.keeps I.bk) c h) d
theorem ET{a:St}{x:Str}{pos:Pos}(I:Inv X pins a H s)(b:Gl X x)(c:X.mg x=none)(d:bootBuiltins x=some u)(h:Q u s)(e:x≠"__name__":=by decide)(f:(x==("__debug__":Str))=false:=by decide):wpAny (model X.prog X.w) X.A (eval (.Name x pos) X.env) Q E s:=by
 obtain⟨j,g,i⟩:=I.mod.blt;exact Calls.Name_function_global I.ok.kind b (Calls.loadGlobal_builtin (by rw[I.ok.glob];exact I.mod.glob.keeps I.bk) c (by rw[I.ok.blt];exact g.keeps I.bk) ((i x e).trans d) h) f
theorem Au{x:Str}{pos:Pos}(a:Gl X x)(b:X.mg x=some u)(r:RelV v u)(c:(x==("__debug__":Str))=false:=by decide):PE X (.Name x pos) (tC v):=
 fun _ _ _ H _ I h=>Bv I a b ⟨v,H,I,r,h⟩ c
theorem Ut{x:Str}{pos:Pos}(a:Gl X x)(b:X.mg x=none)(c:bootBuiltins x=some u)(r:RelV v u)(d:x≠"__name__":=by decide)(e:(x==("__debug__":Str))=false:=by decide):PE X (.Name x pos) (tC v):=
 fun _ _ _ H _ I h=>ET I a b c ⟨v,H,I,r,h⟩ d e
variable{a b:Expr} {pos:Pos}
def PC(X:Cx)(op:CmpOp)(a b:Expr)(t:TE):Prop:=
 ∀(pins:List (Addr×Obj))(s:Shared)(e:St)(H:Hp)(Q:VK),Inv X pins e H s->t e H Q->
  wpAny (model X.prog X.w) X.A (eval a X.env) (fun v c=>wpAny (model X.prog X.w) X.A (eval b X.env) (fun u d=>wpAny (model X.prog X.w) X.A (compareOp op v u) (EP X pins e Q) X.xe d) X.xe c) X.xe s
def tB(t:TE):TT:=fun c H Q=>t c H fun x d=>jb x d Q
theorem YF{t:TE}(h:PC X op a b t)(d:behindInMarks op b=false:=by first|exact c _ (by decide) (by decide)|rfl):PE X (.Compare a [op] [b] pos) t:=fun pins s e H Q I hw=>wpAny_Compare1 (h pins s e H Q I hw) d
theorem BM{t:TE}(h:PE X e t)(c:∀whole,isTrue e X.env whole=(do let v<-whole;standAt e.pos;holding [v] (truthy v)):=by intro _;rfl):PT X e (tB t):=by
 intro pins s f H Q I hw;refine isTrue_plain (Aw (h pins s f H _ I hw) fun v m g=>g.elim fun x i j k l=>?_) (c _);obtain⟨d,rfl,q⟩:=l;cases k;exact wpAny_truthy_bool ⟨i,j,q⟩
variable{tA eY:TT} {rest:List Expr}
def fX(t u:TT):TT:=fun d H Q=>t d H fun c e=>if c=true then u d e Q else Q false e
def kv(t u:TT):TT:=fun d H Q=>t d H fun c e=>if c=true then Q true e else u d e Q
def fY(t:TT):TT:=fun d H Q=>t d H fun c e=>Q (!c) e
theorem pw_and1(d:PT X a tA):PW X (.BoolOp .And [a] pos) tA:=by
 intro g pins s f H Q I h;refine isTrue_and (Aw (d pins s f H Q I h) fun c i e=>?_);cases c with
 |true=>exact isTrue_and_nil e
 |false=>exact e
theorem pw_or1(d:PT X a tA):PW X (.BoolOp .Or [a] pos) tA:=by
 intro g pins s f H Q I h;refine isTrue_or (Aw (d pins s f H Q I h) fun c i e=>?_);cases c with
 |false=>exact isTrue_or_nil e
 |true=>exact e
theorem pw_and(i:PT X a tA)(j:PW X (.BoolOp .And (b::rest) pos) eY):PW X (.BoolOp .And (a::b::rest) pos) (fX tA eY):=by
 intro k pins s d H Q I h;refine isTrue_and (Aw (i pins s d H _ I h) fun c l m=>m.elim fun e f g=>?_);cases c with
 |true=>exact j k pins l d e Q f g
 |false=>exact⟨e,f,g⟩
theorem pw_or(i:PT X a tA)(j:PW X (.BoolOp .Or (b::rest) pos) eY):PW X (.BoolOp .Or (a::b::rest) pos) (kv tA eY):=by
 intro k pins s d H Q I h;refine isTrue_or (Aw (i pins s d H _ I h) fun c l m=>m.elim fun e f g=>?_);cases c with
 |true=>exact⟨e,f,g⟩
 |false=>exact j k pins l d e Q f g
theorem CK(e:PT X a tA):PT X (.UnaryOp .Not a pos) (fY tA):=by
 intro pins s f H Q I h;exact isTrue_not (Aw (e pins s f H (fun c d=>Q (!c) d) I h) fun c k g=>g.elim fun d i j=>⟨d,i,j⟩)
def bU(ta tb:TE):TE:=fun c H Q=>ta c H fun x d=>fU tb c x d Q
def fZ(ta tb:TE):TE:=fun c H Q=>ta c H fun x d=>ko tb c x d Q
def bV(ta:TE):TE:=fun c H Q=>ta c H fun x d=>fV x d Q
theorem Bc{d}{t:TE}(h:PE X a t):PE X (.BoolOp d [a] pos) t:=fun pins s c H Q I hw=>BoolOp_one (h pins s c H Q I hw)
theorem Bi(i:PE X a ta)(j:PE X (.BoolOp .And (b::rest) pos) tb):PE X (.BoolOp .And (a::b::rest) pos) (bU ta tb):=by
 intro pins s e H Q I h;refine BoolOp_and (Aw (i pins s e H _ I h) fun v k l=>l.elim fun x f g m d=>?_);obtain⟨c,rfl,d⟩:=d;cases m;refine wpAny_truthy_bool ?_;cases c with
 |true=>exact j pins k e f Q g d
 |false=>exact⟨.bl false,f,g,rfl,d⟩
theorem Nf(i:PE X a ta)(j:PE X (.BoolOp .Or (b::rest) pos) tb):PE X (.BoolOp .Or (a::b::rest) pos) (fZ ta tb):=by
 intro pins s e H Q I h;refine BoolOp_or (Aw (i pins s e H _ I h) fun v k l=>l.elim fun x f g m d=>?_);obtain⟨c,rfl,d⟩:=d;cases m;refine wpAny_truthy_bool ?_;cases c with
 |false=>exact j pins k e f Q g d
 |true=>exact⟨.bl true,f,g,rfl,d⟩
theorem Lj(e:PE X a ta):PE X (.UnaryOp .Not a pos) (bV ta):=by
 intro pins s f H Q I h;refine UnaryOp_ (Aw (e pins s f H _ I h) fun v l g=>g.elim fun x i j k d=>?_);obtain⟨c,rfl,d⟩:=d;cases k;exact not_of (wpAny_truthy_bool ⟨.bl (!c),i,j,rfl,d⟩)
end
def Ap(K:qG)(H:Hp)(a:Addr)(xs:List V):Prop:=
 Rd H a (.lst xs)∨
  ∃(o:Obj)(b:Array Value)(n:Nat),K.lookup a=some o/\o.cls=.type "list"/\o.dict=none/\o.data=.seq b n/\b.size<=sizeLine/\Vals xs b.toList
def Az(K:qG)(H:Hp)(a:Addr)(xs:List V):Prop:=
 Rd H a (.tup xs)∨
  ∃(o:Obj)(b:Array Value)(n:Nat),K.lookup a=some o/\o.cls=.type "tuple"/\o.data=.seq b n/\b.size<=sizeLine/\Vals xs b.toList
noncomputable def fb:Value->Option V
 | .none=>some .Ae
 | .bool b=>some (.bl b)
 | .int i _=>some (.int i)
 | .str x _=>some (.str x)
 | .bytes b _=>some (.Nc b)
 | .float b _=>some (.YA b)
 | .ref a=>some (.ref a)
 | .type n=>some (.ty n)
 |_=>none
theorem RelV.abs{x:V}(r:RelV x u):fb u=some x:=by
 cases x with
 |Ae=>cases r;rfl
 |bl _=>cases r;rfl
 |int _=>obtain⟨t,rfl⟩:=r;rfl
 |str _=>obtain⟨t,rfl⟩:=r;rfl
 |Nc _=>obtain⟨t,rfl⟩:=r;rfl
 |YA _=>obtain⟨t,rfl⟩:=r;rfl
 |ref _=>cases r;rfl
 |ty _=>cases r;rfl
variable{y:V}
theorem RelV.inj{x:V}(r:RelV x u)(q:RelV y u):x=y:=qB (r.abs.symm.trans q.abs)
theorem Vals.inj{xs ys:List V}{us:List Value}(r:Vals xs us)(s:Vals ys us):xs=ys:=by
 induction r generalizing ys with
 |nil=>exact(List.eq_nil_of_length_eq_zero (Paired.length s)).symm
 |cons a _ b=>
  cases ys with
  |nil=>exact absurd (Paired.length s) (Nat.succ_ne_zero _).symm
  |cons y c=>
   obtain⟨u,d,e,h,t⟩:=Vals.inv s;injection e with e1 e2;subst e1 e2;rw[a.inj h,b t]
variable{K:qG}{σ:St}
section
variable {xs:List V}
theorem Ap.of(h:H a=some (.lst xs)):Ap K H a xs:=.inl (.inl h)
theorem Az.of(h:H a=some (.tup xs)):Az K H a xs:=.inl (.inl h)
theorem Inv.list(I:Inv X pins σ H s)(h:Ap X.K H a xs):∃its:List Value,Vals xs its/\PlainL s.heap a its.toArray/\xs.length<=sizeLine:=by
 rcases h with h|⟨o,its,n,b,c,d,f,g,r⟩
 ·obtain⟨z,its,n,r,e⟩:=h.ok I.Al;exact⟨its,r,⟨_,n,e,rfl,rfl,rfl⟩,z⟩
 ·refine⟨its.toList,r,⟨o,n,I.CH a o b,c,d,by simpa using f⟩,?_⟩;have e:=r.length;simp only[Array.length_toList]at e;lia
theorem Inv.tuple(I:Inv X pins σ H s)(h:Az X.K H a xs):∃its:List Value,Vals xs its/\IsTup s.heap a its.toArray/\xs.length<=sizeLine:=by
 rcases h with h|⟨o,its,n,b,c,d,f,r⟩
 ·obtain⟨z,its,r,p⟩:=h.ok I.Al;exact⟨its,r,p,z⟩
 ·refine⟨its.toList,r,⟨o,I.CH a o b,c,n,by simpa using d⟩,?_⟩;have e:=r.length;simp only[Array.length_toList]at e;lia
theorem Inv.J_(I:Inv X pins σ H s)(h:Ap X.K H a xs)(h':Ap X.K H a ys):xs=ys:=by
 obtain⟨c,r,⟨o,n,e,_,_,d⟩,_⟩:=I.list h;obtain⟨b,i,⟨k,l,f,_,_,g⟩,_⟩:=I.list h';rw[e]at f;cases f;rw[d]at g;injection g with j _;have:c=b:=by simpa using congrArg Array.toList j
 subst this;exact r.inj i
theorem Inv.PQ(I:Inv X pins σ H s)(h:Az X.K H a xs)(h':Az X.K H a ys):xs=ys:=by
 obtain⟨c,r,⟨o,e,_,n,d⟩,_⟩:=I.tuple h;obtain⟨b,i,⟨k,f,_,l,g⟩,_⟩:=I.tuple h';rw[e]at f;cases f;rw[d]at g;injection g with j _;have:c=b:=by simpa using congrArg Array.toList j
 subst this;exact r.inj i
end
abbrev Cx.FH(X:Cx)(E:Value->Shared->Prop):Cx:={X with xe:=E}
abbrev Cx.Uu(X:Cx):Cx:=X.FH fun _ _=>False
theorem Cx.Ok.FH(ok:X.Ok)(E:Value->Shared->Prop):(X.FH E).Ok:=
 ⟨ok.mod,ok.kind,ok.glob,ok.blt,ok.above,ok.inj,ok.has,ok.XT,ok.hd,ok.frames,ok.YB,ok.YC,ok.bs,ok.PN,ok.Jx,ok.Jy,ok.Cz,ok.Qz⟩
theorem Cx.Ok.CL(ok:(X.FH E).Ok):X.Ok:=
 ⟨ok.mod,ok.kind,ok.glob,ok.blt,ok.above,ok.inj,ok.has,ok.XT,ok.hd,ok.frames,ok.YB,ok.YC,ok.bs,ok.PN,ok.Jx,ok.Jy,ok.Cz,ok.Qz⟩
section
theorem Inv.FH(I:Inv X pins σ H s)(E:Value->Shared->Prop):Inv (X.FH E) pins σ H s:=⟨I.ok.FH E,I.os,I.bare,I.base,I.loc,I.cell,I.free,I.BS,I.pin,I.Al,I.len⟩
theorem Inv.CL(I:Inv (X.FH E) pins σ H s):Inv X pins σ H s:=⟨I.ok.CL,I.os,I.bare,I.base,I.loc,I.cell,I.free,I.BS,I.pin,I.Al,I.len⟩
theorem SP.CL{D:Ends}{f:Flow}{s':Shared}(h:SP (X.FH E) pins D f s'):SP X pins D f s':=by
 cases f with
 |next=>obtain⟨a,b,I,q⟩:=h;exact⟨a,b,I.CL,q⟩
 |brk=>obtain⟨a,b,I,q⟩:=h;exact⟨a,b,I.CL,q⟩
 |cont=>obtain⟨a,b,I,q⟩:=h;exact⟨a,b,I.CL,q⟩
 |ret u=>obtain⟨v,a,b,I,r,q⟩:=h;exact⟨v,a,b,I.CL,r,q⟩
theorem G'.Uu{st:List Stmt}{t:TS}(h:G' X.Uu st t):G' X st t:=fun pins s σ H D I hw=>
 wpAny_mono (h pins s σ H D (I.FH _) hw) (fun _ _ q=>q.CL) fun _ _ z=>False.elim z
end
variable{te:TE}
section
variable {st:Stmt} {rest:List Stmt} {t u:TS} {pos:Pos}
def XU:TS:=fun D a H=>D.nx a H
def PR(t u:TS):TS:=fun D a H=>t {D with nx:=u D} a H
theorem AO:G' X [] XU:=fun _ _ a H _ I h=>wpAny_execs_nil ⟨a,H,I,h⟩
theorem AE(b:PS X st t)(c:G' X rest u):G' X (st::rest) (PR t u):=by
 intro pins s d H D I h;refine wpAny_execs_cons (Aw (b pins s d H {D with nx:=u D} I h) fun f g q=>?_);cases f with
 |next=>
  obtain⟨a,i,j,q⟩:=q;exact c pins g a i D j q
 |ret v=>exact q
 |brk=>exact q
 |cont=>exact q
theorem AB(a:PS X st t):G' X [st] t:=by
 intro pins s b H D I h;refine wpAny_execs_cons (Aw (a pins s b H D I h) fun f c q=>?_);cases f with
 |next=>exact wpAny_execs_nil q
 |ret v=>exact q
 |brk=>exact q
 |cont=>exact q
theorem Inv.quiet{a:St}(I:Inv X pins a H s):interactive X.env=false:=by simp[interactive,I.ok.kind]
def bW(te:TE):TS:=fun D a H=>te a H fun _ b=>D.nx a b
theorem Cj(b:PE X e te)(c:swapsWith e none pos.line X.env=pure false:=by rfl):PS X (.Expr e pos) (bW te):=by
 intro pins s a H D I h;exact wpAny_Expr_any (Aw (b pins s a H _ I h) fun v j d=>d.elim fun x f g k i=>⟨a,f,g,i⟩) I.quiet c
def fc(te:TE):TS:=fun D a H=>te a H D.rt
theorem AK(b:PE X e te):PS X (.Return (some e) pos) (fc te):=by
 intro pins s a H D I h;exact wpAny_Return_some (Aw (b pins s a H _ I h) fun v j c=>c.elim fun x d f g i=>⟨x,a,d,f,g,i⟩)
def Uv(c:TT)(t u:TS):TS:=fun D a H=>c a H fun b d=>if b=true then t D a d else u D a d
theorem Ai{c:Expr}{a b:List Stmt}{g:TT}(m:PT X c g)(n:G' X a t)(o:G' X b u):PS X (.If c a b pos) (Uv g t u):=by
 intro pins s f H D I h;refine wpAny_If (Aw (m pins s f H _ I h) fun d i p=>p.elim fun j k l=>?_);cases d with
 |true=>exact n pins i f j D k l
 |false=>exact o pins i f j D k l
end
abbrev TG:=V->St->Hp->(St->Hp->Prop)->Prop
abbrev Uw:=List V->St->Hp->(St->Hp->Prop)->Prop
def PG(X:Cx)(target:Expr)(t:TG):Prop:=
 ∀(pins:List (Addr×Obj))(s:Shared)(b:St)(H:Hp)(v:V)(u:Value)(Q:St->Hp->Prop),Inv X pins b H s->RelV v u->t v b H Q->
  wpAny (model X.prog X.w) X.A (assign target X.env u) (fun _ d=>∃a c,Inv X pins a c d/\Q a c) X.xe s
def eZ(X:Cx)(f:List Expr)(t:Uw):Prop:=
 ∀(pins:List (Addr×Obj))(s:Shared)(b:St)(H:Hp)(c:List V)(d:List Value)(Q:St->Hp->Prop),Inv X pins b H s->Vals c d->t c b H Q->
  wpAny (model X.prog X.w) X.A (assignInOrder ((assignEach f X.env).map (·.2)) d) (fun _ g=>∃a e,Inv X pins a e g/\Q a e) X.xe s
abbrev YG:=V->V->V->Hp->(Hp->Prop)->Prop
def bX(X:Cx)(t:YG):Prop:=
 ∀(pins:List (Addr×Obj))(s:Shared)(a:St)(H:Hp)(o i v:V)(b c u:Value)(Q:Hp->Prop),Inv X pins a H s->RelV o b->RelV i c->RelV v u->t o i v H Q->
  wpAny (model X.prog X.w) X.A (setItem b c u) (fun _ e=>∃d,Inv X pins a d e/\Q d) X.xe s
variable{k n:Nat}
section
variable {pos:Pos}
def Fn(i:Nat):TG:=fun v a H Q=>Q (a.set i (some v)) H
theorem IJ{x:Str}(a:X.N.Nodup)(b:X.N[i]?=some x)(c:Loc X.env.scope x)(d:X.fn x=true∨X.env.scope.names.lookup x=some .local:=by first|exact .inl rfl|exact .inr rfl|assumption):PG X (.Name x pos) (Fn i):=by
 intro pins s f H v u Q I r h;exact wpAny_assign_Name (C_ I a b c r (fun g e=>⟨_,H,e,h⟩) d)
def fg:Uw:=fun a b H Q=>a=[]/\Q b H
inductive YH(t:TG)(u:Uw)(vs:List V)(b:St)(H:Hp)(Q:(St->Hp->Prop)):Prop
 |mk(v r:_)(d:vs=v::r)(e:t v b H fun a c=>u r a c Q)
def bY(t:TG)(u:Uw):Uw:=fun a b H Q=>YH t u a b H Q
theorem Ng:eZ X [] fg:=by
 intro pins s a H b c Q I r h;obtain⟨e,h⟩:=h;subst e;cases r;exact assignInOrder_nil ⟨a,H,I,h⟩
theorem Dv{a:List Expr}{t:TG}{u:Uw}(c:PG X e t)(d:eZ X a u)(f:(assignEach (e::a) X.env).map (·.2)=assign e X.env::(assignEach a X.env).map (·.2):=by rfl):eZ X (e::a) (bY t u):=by
 intro pins s g H n o Q I r h;obtain⟨v,p,e1,h⟩:=h;subst e1;cases r with
 |cons r i=>
  rw[f];refine assignInOrder_cons (Aw (c pins s g H _ _ _ I r h) fun _ j ⟨b,k,l,m⟩=>?_);exact d pins j b k _ _ Q l i m
inductive bZ(K:qG)(n:Nat)(t:Uw)(v:V)(b:St)(H:Hp)(Q:(St->Hp->Prop)):Prop
 |mk(a xs:_)(c:v=.ref a)(d:Az K H a xs)(e:xs.length=n)(f:t xs b H Q)
def fh(K:qG)(n:Nat)(t:Uw):TG:=fun v a H Q=>bZ K n t v a H Q
theorem Q_{c:List Expr}{t:Uw}(i:X.calm=true)(h:eZ X c t)(j:(assignEach c X.env).length=n:=by rfl)(d:(assignEach c X.env).findIdx? (·.1)=none:=by rfl):PG X (.Tuple c k pos) (fh X.K n t):=by
 intro pins s f H v u Q I r hw;obtain⟨a,xs,e1,l,m,hw⟩:=hw;subst e1;cases r;obtain⟨p,g,q,z⟩:=I.tuple l;refine assign_Tuple_tuple (I.ok.hd i) q (by simp[j,<-m,g.length]) d fun w x=>?_;have y:Inv X pins f H {s with heap:=w}:=I.kept (t':=s.toks) fun b o e=>x b o (Nat.ne_of_lt (Heap.lt_size e)) e;exact h pins _ f H xs _ Q y (by simpa using g) hw
def fj(b c:TE)(t:YG):TG:=fun v a H Q=>b a H fun o d=>c a d fun i e=>t o i v e fun f=>Q a f
theorem RA{o i:Expr}{e f:TE}{t:YG}(g:PE X o e)(j:PE X i f)(k:bX X t)(l:∀v,assign (.Subscript o i pos) X.env v=(do
   let a<-holding [v] (eval o X.env)
   let b<-holding [v,a] (eval i X.env)
   standAt pos
   holding [v,a,b] (setItem a b v)
   release [v,a,b] []):=by intro _;rfl):PG X (.Subscript o i pos) (fj e f t):=by
 intro pins s c H v u Q I r h;rw[l];refine wpAny_bind (wpAny_holding (Aw (g pins s c H _ I h) fun a m d=>d.elim fun x n p q w=>?_));refine wpAny_bind (wpAny_holding (Aw (j pins m c n _ p w) fun b z d=>d.elim fun y A B C D=>?_));refine wpAny_bind (wpAny_standAt (wpAny_bind (wpAny_holding (Aw (k pins z c A x y v a b u _ B q C r D) fun _ J ⟨E,F,G⟩=>?_))));exact wpAny_release ⟨c,E,F,G⟩
def YI(b:TE)(g:TG):TS:=fun D a H=>b a H fun x c=>g x a c D.nx
theorem Lk{a:Expr}{c:TE}{g:TG}(f:PE X e c)(i:PG X a g)(j:swapsWithSole [a] e pos.line X.env=pure false:=by rfl)(hw:swappedStores [a] e X.env=pure none:=by rfl)(k:(assignEach [a] X.env).map (·.2)=[assign a X.env]:=by rfl):PS X (.Assign [a] e pos) (YI c g):=by
 intro pins s d H D I h;refine wpAny_Assign_stores (Aw (f pins s d H _ I h) fun v l m=>m.elim fun x n o p q=>?_) j hw;rw[k];exact Aw (i pins l d n x v _ o p q) fun _ w ⟨b,r,t,u⟩=>⟨b,r,t,u⟩
theorem BA{i:Nat}{x:Str}{e:Expr}{a:TE}{pos':Pos}(b:X.N.Nodup)(c:X.N[i]?=some x)(d:Loc X.env.scope x)(f:PE X e a)(g:swapsWith e (some (.Name x pos')) pos.line X.env=pure false:=by rfl)(j:X.fn x=true∨X.env.scope.names.lookup x=some .local:=by first|exact .inl rfl|exact .inr rfl|assumption):
  PS X (.Assign [.Name x pos'] e pos) (YI a (Fn i)):=by
 intro pins s k H D I h;refine wpAny_Assign_Name (Aw (f pins s k H _ I h) fun v r l=>l.elim fun y m n o p=>?_) g;exact C_ n b c d o (fun t q=>⟨_,m,q,p⟩) j
end
variable{body:List Stmt}{c:Expr}
section
variable {pos:Pos}
inductive Ux(c:TT)(h:TS)(D:Ends)(a:St)(H:Hp):Prop
 |mk(W:Nat->St->Hp->Prop)(i:(∃m,W m a H))(j:∀m a H,W m a H->c a H fun b e=>if b=true then∃N:St->Hp->Prop,(∀d f,N d f->∃g,g<m/\W g d f)/\h {D with nx:=N,ct:=N,bk:=D.nx} a e else D.nx a e)
def RB(c:TT)(a:TS):TS:=fun D b H=>Ux c a D b H
theorem J'{q:TT}{r:TS}(t:PassesOwn (model X.prog X.w) X.A X.env X.xe)(C:PT X c q)(E:G' X body r):PS X (.While c body [] pos) (RB q r):=by
 intro pins s F H D I h;obtain⟨W,⟨G,J⟩,turn⟩:=h;refine wpAny_While (codeAny_whileLoop (fun n K=>∃e u,Inv X pins e u K/\W n e u) ?_ G ⟨F,H,I,J⟩);rintro n L ⟨d,x,M,O⟩;refine wpAny_passesOwn t (Aw (C pins L d x _ M (turn n d x O)) fun b P Q=>Q.elim fun y z i=>?_);cases b with
 |true=>
  obtain⟨N,B,i⟩:=i;rw[if_pos rfl];refine wpAny_passesOwn t (Aw (E pins P d y _ z i) fun f R j=>?_);cases f with
  |next=>
   obtain⟨a,g,k,l⟩:=j;obtain⟨m,o,p⟩:=B a g l;exact⟨m,o,a,g,k,p⟩
  |cont=>
   obtain⟨a,g,k,l⟩:=j;obtain⟨m,o,p⟩:=B a g l;exact⟨m,o,a,g,k,p⟩
  |brk=>exact j
  |ret v=>exact j
 |false=>
  rw[if_neg Bool.false_ne_true];exact wpAny_execs_nil ⟨d,y,z,i⟩
end
structure It where
 go:Nat->Hp->Prop
 XW:Nat->Hp->V->Hp->Prop
 stop:Nat->Hp->Prop
def DA(X:Cx)(pins:List (Addr×Obj))(H:Hp)(b:Addr):Prop:=
 H b=none/\b≠X.env.locals/\b∉X.fs/\(b∈X.ex∨X.s₀.heap.objs.size<=b)/\(∀x c,X.env.cells.lookup x=some c->c≠b)/\∀p∈X.pn++pins,p.1≠b
theorem Inv.KA{f:St}{d:Hp}(I:Inv X pins f H s)(a:s.heap.objs.size<=b)(g:d b=none):DA X pins d b:=by
 refine⟨g,Nat.ne_of_gt (Nat.lt_of_lt_of_le I.lt a),I.fS a,.inr (Nat.le_trans I.sz a),fun x c e z=>?_,fun p h z=>?_⟩
 ·obtain⟨v,q⟩:=I.cell x c e;exact absurd (Nat.lt_of_lt_of_le q.lt (by rw[z];exact a)) (Nat.lt_irrefl _)
 ·exact absurd (Nat.lt_of_lt_of_le (Heap.lt_size (I.pin p h).1) (by rw[z];exact a)) (Nat.lt_irrefl _)
structure Turn(P:Program)(w:World)(K:qG)(tg:Expr)(J:It)(fp:List Addr)(it:Addr)(tn:Nat->Heap->Prop):Prop where
 mem:it∈fp
 obj:∀i h,tn i h->∀b∈fp,∃o,h.get? b=some o/\∀v,o.data≠.cell v
 keep:∀i h h',tn i h->(∀b∈fp,∀o,h.get? b=some o->h'.get? b=some o)->tn i h'
 item:∀(X:Cx),X.prog=P->X.w=w->X.K=K->X.calm=true->∀(i:Nat)(pins:List (Addr×Obj))(s:Shared)(σ:St)(H:Hp)(E:Value->Shared->Prop),Inv X pins σ H s->(∀b∈fp,DA X pins H b)->tn i s.heap->J.go i H->
  wpAny (model P w) X.A (pyNext (.ref it)) (fun r s1=>∃u,r=some u/\
   wpAny (model P w) X.A (letOwnedTupleGo tg (.ref it) u) (fun _ s2=>∃x H',Inv X pins σ H' s2/\RelV x u/\J.XW i H x H'/\tn (i+1) s2.heap/\∀b∈fp,H' b=none) E s1) E s
 done:∀(X:Cx),X.prog=P->X.w=w->X.K=K->X.calm=true->∀(i:Nat)(pins:List (Addr×Obj))(s:Shared)(σ:St)(H:Hp)(E:Value->Shared->Prop),Inv X pins σ H s->(∀b∈fp,DA X pins H b)->tn i s.heap->J.stop i H->
  wpAny (model P w) X.A (pyNext (.ref it)) (fun r s1=>r=none/\Inv X pins σ H s1) E s
 self:∀(A:Around)(i:Nat)(s:Shared)(Q:Value->Shared->Prop)(E:Value->Shared->Prop),tn i s.heap->Q (.ref it) s->wpAny (model P w) A (pyIter (.ref it)) Q E s
abbrev TI:=St->Hp->(It->Hp->Prop)->Prop
inductive jc(X:Cx)(pins:List (Addr×Obj))(i:St)(j:Expr)(R:It->Hp->Prop)(a:Value)(d:Shared):Prop
 |mk(it:Addr)(g:List Addr)(h:Nat->Heap->Prop)(J:It)(c:Hp)(e:a=.ref it)(I:Inv X pins i c d)(t:Turn X.prog X.w X.K j J g it h)(z:h 0 d.heap)(f:∀b∈g,DA X pins c b)(q:R J c)
def PI(X:Cx)(b iter:Expr)(c:TI):Prop:=
 ∀(pins:List (Addr×Obj))(s:Shared)(a:St)(H:Hp)(R:It->Hp->Prop),Inv X pins a H s->c a H R->
  wpAny (model X.prog X.w) X.A (eval iter X.env) (fun v d=>wpAny (model X.prog X.w) X.A (pyIter v) (jc X pins a b R) X.xe d) X.xe s
theorem HX{b:Expr}{it:Addr}{o:Obj}{n:String}{vs:Array Value}{Q:Unit->Shared->Prop}(c:s.heap.get? it=some o)(d:o.cls=.type n)(e:o.data=.fields vs)(f:["enumerate","zip","dict_itemiterator","dict_reverseitemiterator","odict_iterator","itertools.zip_longest","itertools.pairwise"].contains n=false)(a:Q () s):wpAny M A (letOwnedTupleGo b (.ref it) u) Q E s:=by
 unfold letOwnedTupleGo;cases b<;>first
  |exact wpAny_pure a
  |(cases u<;>first
    |exact wpAny_pure a
    |(refine wpAny_bind (wpAny_load c ?_)
      rw[d,e];show wpAny M A (if(["enumerate","zip","dict_itemiterator","dict_reverseitemiterator","odict_iterator","itertools.zip_longest","itertools.pairwise"].contains n&&vs[0]?==some (rawInt _))=true then _ else _) Q E s;rw[if_neg (by intro h;rw[f,Bool.false_and]at h;cases h)];exact wpAny_pure a))
def fm(K:qG)(a:Addr):It:=
 ⟨fun i H=>∃xs x,Ap K H a xs/\xs[i]?=some x,fun i H x b=>b=H/\∀xs,Ap K H a xs->xs[i]?=some x,fun i H=>∃xs,Ap K H a xs/\xs.length<=i⟩
def jd(K:qG)(a:Addr):It:=
 ⟨fun i H=>∃xs x,Az K H a xs/\xs[i]?=some x,fun i H x b=>b=H/\∀xs,Az K H a xs->xs[i]?=some x,fun i H=>∃xs,Az K H a xs/\xs.length<=i⟩
def ef(lo:Int)(n:Nat):It:=⟨fun i _=>i<n,fun i H x a=>a=H/\x=.int (lo+i),fun i _=>n<=i⟩
variable{tg:Expr}
theorem PU(a it:Addr):Turn P w K tg (fm K a) [it] it (fun i h=>h.IsListIter it a i)where
 mem:=by simp
 obj:=fun i h st b hb=>by
  have e:b=it:=by simpa using hb
  subst e;obtain⟨o,e,c,d⟩:=st;exact⟨o,e,fun v z=>by rw[d]at z;cases z⟩
 keep:=fun i h h' st k=>st.at fun o e=>k it (by simp) o e
 item:=by
  intro X hP hw hK hc i pins s σ H E I hf st hg;subst hP hw hK;obtain⟨xs,x,hq,hx⟩:=hg;obtain⟨its,rv,p,hz⟩:=I.list hq;obtain⟨u,hu,ru⟩:=rv.get hx;obtain⟨f0,f1,f2,f3,f4,f5⟩:=hf it (by simp);refine wpAny_pyNext_list_item st p.isList (x:=u) (by simpa using hu) fun h' Lg sb=>?_;have I1:Inv X pins σ H {s with heap:=h'}:=I.turned (t':=s.toks) (fun b o hb e=>(sb.2 b hb).trans e) f0 f1 f3 f4 f5;obtain⟨o,e,c,d⟩:=id Lg;exact⟨u,rfl,HX (s:={s with heap:=h'}) e c d (by decide) ⟨x,H,I1,ru,⟨rfl,fun ys hy=>by rw[I.J_ hy hq];exact hx⟩,Lg,fun b hb=>(hf b hb).1⟩⟩
 done:=by
  intro X hP hw hK hc i pins s σ H E I hf st hg;subst hP hw hK;obtain⟨xs,hq,hx⟩:=hg;obtain⟨its,rv,p,hz⟩:=I.list hq;obtain⟨f0,f1,f2,f3,f4,f5⟩:=hf it (by simp);have hl:=rv.length;exact wpAny_pyNext_list_end (I.ok.hd hc) st p.isList (by simp;lia) fun h' eb=>⟨rfl,I.turned (t':=s.toks) (fun b o hb e=>eb b o hb e) f0 f1 f3 f4 f5⟩
 self:=fun _ _ _ _ _ st h=>wpAny_pyIter_listiter st h
theorem Ll(a it:Addr):Turn P w K tg (jd K a) [it] it (fun i h=>h.IsTupleIter it a i)where
 mem:=by simp
 obj:=fun i h st b hb=>by
  have e:b=it:=by simpa using hb
  subst e;obtain⟨o,e,c,d⟩:=st;exact⟨o,e,fun v z=>by rw[d]at z;cases z⟩
 keep:=fun i h h' st k=>st.at fun o e=>k it (by simp) o e
 item:=by
  intro X hP hw hK hc i pins s σ H E I hf st hg;subst hP hw hK;obtain⟨xs,x,hq,hx⟩:=hg;obtain⟨its,rv,p,hz⟩:=I.tuple hq;obtain⟨u,hu,ru⟩:=rv.get hx;obtain⟨f0,f1,f2,f3,f4,f5⟩:=hf it (by simp);refine wpAny_pyNext_tuple_item st (show s.heap.IsTuple a its.toArray from p) (x:=u) (by simpa using hu) fun h' Lg sb=>?_;have I1:Inv X pins σ H {s with heap:=h'}:=I.turned (t':=s.toks) (fun b o hb e=>(sb.2 b hb).trans e) f0 f1 f3 f4 f5;obtain⟨o,e,c,d⟩:=id Lg;exact⟨u,rfl,HX (s:={s with heap:=h'}) e c d (by decide) ⟨x,H,I1,ru,⟨rfl,fun ys hy=>by rw[I.PQ hy hq];exact hx⟩,Lg,fun b hb=>(hf b hb).1⟩⟩
 done:=by
  intro X hP hw hK hc i pins s σ H E I hf st hg;subst hP hw hK;obtain⟨xs,hq,hx⟩:=hg;obtain⟨its,rv,p,hz⟩:=I.tuple hq;obtain⟨f0,f1,f2,f3,f4,f5⟩:=hf it (by simp);have hl:=rv.length;exact wpAny_pyNext_tuple_end (I.ok.hd hc) st (show s.heap.IsTuple a its.toArray from p) (by simp;lia) fun h' eb=>⟨rfl,I.turned (t':=s.toks) (fun b o hb e=>eb b o hb e) f0 f1 f3 f4 f5⟩
 self:=fun _ _ _ _ _ st h=>wpAny_pyIter_tupleiter st h
theorem Lm(it:Addr)(lo:Int)(n:Nat):Turn P w K tg (ef lo n) [it] it (fun i h=>IsRangeIter h it (lo+(i:Nat)*1) ((n:Int)-(i:Nat)) 1)where
 mem:=by simp
 obj:=fun i h st b hb=>by
  have e:b=it:=by simpa using hb
  subst e;exact⟨_,st,fun v z=>by
   have z':Data.fields _=Data.cell v:=z;cases z'⟩
 keep:=fun i h h' st k=>k it (by simp) _ st
 item:=by
  intro X hP hw hK hc i pins s σ H E I hf st hg;subst hP hw hK;obtain⟨f0,f1,f2,f3,f4,f5⟩:=hf it (by simp);have W:=Walks.range (prog:=X.prog) (w:=X.w) (I.ok.hd hc) it lo 1 n;refine W.item i s _ _ hg st fun v h' tk hv Lg kk=>?_;obtain⟨t,rfl⟩:=hv;have I1:Inv X pins σ H {s with heap:=h',toks:=tk}:=I.turned (fun b o hb e=>kk b o (by simpa using hb) e) f0 f1 f3 f4 f5;refine⟨_,rfl,HX (s:={s with heap:=h',toks:=tk}) (n:="range_iterator") Lg rfl rfl (by decide) ⟨.int (lo+i),H,I1,⟨t,?_⟩,⟨rfl,rfl⟩,Lg,fun b hb=>(hf b hb).1⟩⟩;rw[Int.mul_one]
 done:=by
  intro X hP hw hK hc i pins s σ H E I hf st hg;subst hP hw hK;obtain⟨f0,f1,f2,f3,f4,f5⟩:=hf it (by simp);exact wpAny_pyNext_range_end (I.ok.hd hc) st (by have:n<=i:=hg;lia) fun h' eb=>⟨rfl,I.turned (t':=s.toks) (fun b o hb e=>eb b o hb e) f0 f1 f3 f4 f5⟩
 self:=fun _ _ _ _ _ st h=>wpAny_pyIter_rangeiter st h
variable{p:Pos}
section
def ba(K:qG)(tl:TE):TI:=fun c H R=>tl c H fun x b=>∃a,x=.ref a/\(∃xs,Ap K b a xs)/\R (fm K a) b
def fo(K:qG)(tl:TE):TI:=fun c H R=>tl c H fun x b=>∃a,x=.ref a/\(∃xs,Az K b a xs)/\R (jd K a) b
theorem FW{l:Expr}{tl:TE}(f:PE X l tl):PI X tg l (ba X.K tl):=by
 intro pins s g H R I h;refine Aw (f pins s g H _ I h) fun v c i=>i.elim fun x j d k m=>?_;obtain⟨a,e,⟨xs,n⟩,q⟩:=m;subst e;cases k;obtain⟨r,u,p,w⟩:=d.list n;refine wpAny_pyIter_list p.isList ?_;refine⟨c.heap.objs.size,[c.heap.objs.size],_,_,j,rfl,d.kept (t':=c.toks) fun b o e=>Heap.get?_push_of_some _ e,PU a _,⟨_,Heap.get?_push_size _ rfl,rfl,rfl⟩,fun b t=>?_,q⟩;have e:b=c.heap.objs.size:=by simpa using t
 subst e;exact d.KA (Nat.le_refl _) (d.Al.fresh (Nat.le_refl _))
theorem RC{l:Expr}{tl:TE}(g:PE X l tl):PI X tg l (fo X.K tl):=by
 intro pins s i H R I h;refine Aw (g pins s i H _ I h) fun v c j=>j.elim fun x k d m n=>?_;obtain⟨a,e,⟨xs,r⟩,q⟩:=n;subst e;cases m;obtain⟨f,u,p,w⟩:=d.tuple r;refine wpAny_pyIter_tuple (show c.heap.IsTuple a f.toArray from p) ?_;refine⟨c.heap.objs.size,[c.heap.objs.size],_,_,k,rfl,d.kept (t':=c.toks) fun b o e=>Heap.get?_push_of_some _ e,Ll a _,⟨_,Heap.get?_push_size _ rfl,rfl,rfl⟩,fun b t=>?_,q⟩;have e:b=c.heap.objs.size:=by simpa using t
 subst e;exact d.KA (Nat.le_refl _) (d.Al.fresh (Nat.le_refl _))
theorem RD{c:St}{R:It->Hp->Prop}{lo a:Int}{t u v:Tok}{tk:Nat}(I:Inv X pins c H s)(f: -(2 ^ 62)<=lo)(g:lo<2 ^ 62)(h: -(2 ^ 62)<=a)(i:a<2 ^ 62)(q:R (ef lo (a-lo).toNat) H):wpAny (model X.prog X.w) X.A (pyIter (.ref s.heap.objs.size)) (jc X pins c tg R) E {s with heap:=s.heap.push {cls:=.type "range",data:=.fields #[.int lo t,.int a u,.int 1 v]},toks:=tk}:=by
 refine wpAny_pyIter_range (IsRange.new ..) (small_one f g h i) ?_;have d:Inv X pins c H {s with heap:=s.heap.push {cls:=.type "range",data:=.fields #[.int lo t,.int a u,.int 1 v]},toks:=tk}:=I.kept fun b o e=>Heap.get?_push_of_some _ e;refine⟨(s.heap.push {cls:=.type "range",data:=.fields #[.int lo t,.int a u,.int 1 v]}).objs.size,[(s.heap.push {cls:=.type "range",data:=.fields #[.int lo t,.int a u,.int 1 v]}).objs.size],_,_,H,rfl,
  d.kept (t':=tk) fun b o e=>Heap.get?_push_of_some _ e,Lm _ lo (a-lo).toNat,?_,fun b j=>?_,q⟩
 ·have e1:lo+((0:Nat):Int)*1=lo:=by simp
  have e2:(((a-lo).toNat:Nat):Int)-((0:Nat):Int)=Builtin.Range.rangeSize lo a 1:=by rw[rangeSize_one];split<;>lia
  show IsRangeIter _ _ (lo+((0:Nat):Int)*1) ((((a-lo).toNat:Nat):Int)-((0:Nat):Int)) 1;rw[e1,e2];exact Heap.get?_push_size _ rfl
 ·have e:b=(s.heap.push {cls:=.type "range",data:=.fields #[.int lo t,.int a u,.int 1 v]}).objs.size:=by simpa using j
  subst e;exact d.KA (Nat.le_refl _) (d.Al.fresh (Nat.le_refl _))
def bb(a:TA):TI:=fun b H R=>a b H fun c d=>∃j:Int,c=[.int j]/\ -(2 ^ 62)<=j/\j<2 ^ 62/\R (ef 0 j.toNat) d
theorem Bj{a:Expr}{c:TA}{pos:Pos}(d:Gl X "range")(f:X.mg "range"=none)(g:PA X [a] c)(i:starEach [a] X.env=[(false,eval a X.env)]:=by rfl):PI X tg (.Call (.Name "range" p) [a] [] pos) (bb c):=by
 intro pins s k H R I h;refine Call_ (ET I d f boot_range (PyProof.Rows.callWith_type1 (Aw (g pos pins s k H _ I h) fun v w l=>l.elim fun x y m n b=>?_) i rfl));obtain⟨j,e,b,o,q⟩:=b;subst e;cases n with
 |cons r u=>
  cases u;obtain⟨t,rfl⟩:=r;exact call_range_1 (RD m (by lia) (by lia) b o (by simpa using q))
structure Go(D:Ends)(P:St->Hp->Prop)(e:Ends):Prop where
 n:∀{σ H},P σ H->e.nx σ H
 r:∀{v H},D.rt v H->e.rt v H
def Uy(J:It)(g:TG)(f:TS)(D:Ends)(a:St)(h:Hp):Prop:=∃W:Nat->Nat->St->Hp->Prop,(∃m,W 0 m a h)/\∀i m a H,W i m a H-> (J.stop i H/\D.nx a H)∨(J.go i H/\∃N:St->Hp->Prop,(∀b c,N b c->∃e,e<m/\W (i+1) e b c)/\∀x c,J.XW i H x c->g x a c fun d j=>f {D with nx:=N,ct:=N,bk:=D.nx} d j)
def bc(b:TI)(g:TG)(c:TS):TS:=fun D a H=>b a H fun J d=>Uy J g c D a d
def Fo(a:List Addr)(h:Heap):List (Addr×Obj):=a.filterMap fun b=>(h.get? b).map fun o=>(b,o)
theorem Ck{a:List Addr}{o:Obj}(c:b∈a)(e:h.get? b=some o):(b,o)∈Fo a h:=List.mem_filterMap.mpr ⟨b,c,by rw[e];rfl⟩
theorem PV{a:List Addr}{p:Addr×Obj}(c:p∈Fo a h):p.1∈a/\h.get? p.1=some p.2:=by
 obtain⟨b,d,e⟩:=List.mem_filterMap.mp c;cases q:h.get? b with
 |none=>rw[q]at e;cases e
 |some o=>
  rw[q]at e;have f:(b,o)=p:=qB e;subst f;exact⟨d,q⟩
theorem Inv.pinned{c:St}{a:List Addr}(I:Inv X pins c H s)(h:∀b∈a,DA X pins H b)(i:∀b∈a,∃o,s.heap.get? b=some o/\∀v,o.data≠.cell v):Inv X (pins++Fo a s.heap) c H s:=
 I.Nd fun p j=>(List.mem_append.mp j).elim (fun z=>I.pin p (List.mem_append_right _ z)) fun z=>by
  obtain⟨f,e⟩:=PV z;obtain⟨k,l,m,_⟩:=h p.1 f;obtain⟨o,g,d⟩:=i p.1 f;rw[e]at g;cases g;exact⟨e,k,l,m,d⟩
theorem Inv.DB{pl:List (Addr×Obj)}{a:St}(I:Inv X (pins++pl) a H s):Inv X pins a H s:=I.Nd fun p b=>I.pin p (List.mem_append_right _ (List.mem_append_left _ b))
theorem RE{iter:Expr}{S:TI}{g:TG}{U:TS}{pos:Pos}(B:PassesOwn (model X.prog X.w) X.A X.env X.xe)(V:X.calm=true)(hi:PI X tg iter S)(hg:PG X tg g)(c:G' X body U)(hs:∀x,foldedSetIterable iter X.env x=pure x:=by intro _;rfl):PS X (.For tg iter body [] pos) (bc S g U):=by
 intro pins s Y H D I h;refine wpAny_For (Aw (hi pins s Y H _ I h) fun v s1 h1=>Aw h1 fun oQ s2 h2=>?_) hs;obtain⟨it,C,Z,J,H2,e,I2,T,L,f2,W,⟨m0,w0⟩,turn⟩:=h2;subst e;have j:∀{t:Hp},(∀b∈C,t b=none)->∀b∈C,DA X pins t b:=fun hn b c=>⟨hn b c,(f2 b c).2⟩;refine codeAny_forLoop_any (fun n s'=>∃i k t,Inv X pins k t s'/\Z i s'.heap/\(∀b∈C,t b=none)/\W i n k t) ?_ m0 ⟨0,Y,H2,I2,L,fun b c=>(f2 b c).1,w0⟩;rintro n s3 ⟨i,l,K,I3,E,F,w3⟩;rcases turn i n l K w3 with⟨stop,qn⟩|⟨go,N,hN,step⟩
 ·refine wpAny_passesOwn B (Aw (T.done X rfl rfl rfl V i pins s3 l K X.xe I3 (j F) E stop) fun r s4 ⟨M,I4⟩=>?_);subst M;exact wpAny_execs_nil ⟨l,K,I4,qn⟩
 ·refine wpAny_passesOwn B (Aw (T.item X rfl rfl rfl V i pins s3 l K X.xe I3 (j F) E go) fun r s4 ⟨u,M,h4⟩=>?_);subst M;refine wpAny_passesOwn B (Aw h4 fun _ s5 ⟨x,H5,I5,r5,y5,z,O⟩=>?_);have P:=I5.pinned (j O) (T.obj _ _ z);refine wpAny_passesOwn B (Aw (hg _ s5 l H5 x u _ P r5 (step x H5 y5)) fun _ s6 ⟨Q,H6,I6,q6⟩=>?_);refine wpAny_passesOwn B (Aw (c _ s6 Q H6 _ I6 q6) fun f R y=>?_);have again:∀{a:St}{p:Hp},Inv X (pins++Fo C s5.heap) a p R->N a p->∃m,m<n/\∃i k t,Inv X pins k t R/\Z i R.heap/\(∀b∈C,t b=none)/\W i m k t:=fun{a p} q G=>by
   obtain⟨m',hm,w7⟩:=hN a p G;refine⟨m',hm,i+1,a,p,q.DB,T.keep _ _ _ z fun b c o e=>(q.pin (b,o) (List.mem_append_right _ (List.mem_append_right _ (Ck c e)))).1,fun b c=>?_,w7⟩;obtain⟨o,e,d⟩:=T.obj _ _ z b c;exact(q.pin (b,o) (List.mem_append_right _ (List.mem_append_right _ (Ck c e)))).2.1
  cases f with
  |next=>obtain⟨a,p,q,G⟩:=y;exact again q G
  |cont=>obtain⟨a,p,q,G⟩:=y;exact again q G
  |brk=>obtain⟨a,p,q,y⟩:=y;exact⟨a,p,q.DB,y⟩
  |ret v=>obtain⟨x7,a,p,q,r7,y⟩:=y;exact⟨x7,a,p,q.DB,r7,y⟩
end
theorem KC{xs:List V}{g:TG}{d:TS}{D:Ends}{b:St}(Pv:Nat->St->Hp->Prop)(f:Pv 0 b H)(h:∀i b H,i<=xs.length->Pv i b H->Ap K H a xs)(j:∀i x b H e,Go D (Pv (i+1)) e->xs[i]?=some x->Pv i b H->g x b H (d e))(k:∀b H,Pv xs.length b H->D.nx b H):
  Uy (fm K a) g d D b H:=by
 refine⟨fun i m b H=>m=xs.length-i/\i<=xs.length/\Pv i b H,⟨xs.length,by simp,Nat.zero_le _,f⟩,?_⟩;rintro i m b H ⟨rfl,l,p⟩;have q:=h i b H l p;by_cases c:i<xs.length
 ·refine .inr ⟨⟨xs,xs[i],q,by simp[c]⟩,Pv (i+1),fun n o r=>⟨xs.length-(i+1),by lia,rfl,c,r⟩,fun x o y=>?_⟩;obtain⟨e,y⟩:=y;subst e;exact j i x b _ _ ⟨id,id⟩ (y xs q) p
 ·have e:i=xs.length:=by lia
  subst e;exact .inl ⟨⟨xs,q,Nat.le_refl _⟩,k b H p⟩
theorem CM{lo:Int}{g:TG}{c:TS}{D:Ends}{a:St}(Pv:Nat->St->Hp->Prop)(d:Pv 0 a H)(f:∀i a H e,Go D (Pv (i+1)) e->i<n->Pv i a H->g (.int (lo+i)) a H (c e))(h:∀a H,Pv n a H->D.nx a H):
  Uy (ef lo n) g c D a H:=by
 refine⟨fun i m a H=>m=n-i/\i<=n/\Pv i a H,⟨n,by simp,Nat.zero_le _,d⟩,?_⟩;rintro i m a H ⟨rfl,o,p⟩;by_cases b:i<n
 ·refine .inr ⟨b,Pv (i+1),fun j k l=>⟨n-(i+1),by lia,rfl,b,l⟩,fun x k y=>?_⟩;obtain⟨e,y⟩:=y;subst e y;exact f i a _ _ ⟨id,id⟩ b p
 ·have e:i=n:=by lia
  subst e;exact .inl ⟨Nat.le_refl _,h a H p⟩
abbrev R2:=V->V->Hp->VK->Prop
def DC(X:Cx)(f:Value->Value->Sem Value)(r:R2):Prop:=
 ∀(pins:List (Addr×Obj))(s:Shared)(a:St)(H:Hp)(x y:V)(v u:Value)(Q:VK),Inv X pins a H s->RelV x v->RelV y u->r x y H Q->
  wpAny (model X.prog X.w) X.A (f v u) (EP X pins a Q) X.xe s
def fq(X:Cx)(f:Value->Sem Value)(r:V->Hp->VK->Prop):Prop:=
 ∀(pins:List (Addr×Obj))(s:Shared)(a:St)(H:Hp)(x:V)(v:Value)(Q:VK),Inv X pins a H s->RelV x v->r x H Q->
  wpAny (model X.prog X.w) X.A (f v) (EP X pins a Q) X.xe s
def BG(X:Cx)(f:Value)(r:List V->Hp->VK->Prop):Prop:=
 ∀(pins:List (Addr×Obj))(s:Shared)(a:St)(H:Hp)(xs:List V)(b:List Value)(Q:VK),Inv X pins a H s->Vals xs b->r xs H Q->
  wpAny (model X.prog X.w) X.A (call f b) (EP X pins a Q) X.xe s
def fu(X:Cx)(r:V->Hp->(Bool->Hp->Prop)->Prop):Prop:=
 ∀(pins:List (Addr×Obj))(s:Shared)(a:St)(H:Hp)(x:V)(v:Value)(Q:Bool->Hp->Prop),Inv X pins a H s->RelV x v->r x H Q->
  wpAny (model X.prog X.w) X.A (truthy v) (TP X pins a Q) X.xe s
def bG(r:R2)(b c:TE):TE:=fun a H Q=>b a H fun x d=>c a d fun y e=>r x y e Q
def kx(r:V->Hp->VK->Prop)(a:TE):TE:=fun b H Q=>a b H fun x c=>r x c Q
inductive ky(C:Int->Int->Prop)(g:Int->Int->V)(x y:V)(H:Hp)(Q:VK):Prop
 |mk(i j:_)(a:x=.int i)(b:y=.int j)(c:C i j)(d:Q (g i j) H)
def rI(C:Int->Int->Prop)(g:Int->Int->V):R2:=fun x y H Q=>ky C g x y H Q
inductive fw(g:Int->Int->V)(x y:V)(H:Hp)(Q:VK):Prop
 |mk(i j:_)(a:x=.int i)(b:y=.int j)(c:Q (g i j) H)
def YJ(g:Int->Int->V):R2:=fun x y H Q=>fw g x y H Q
inductive kz(g:Int->V)(x:V)(H:Hp)(Q:VK):Prop
 |mk(i:_)(a:x=.int i)(b:Q (g i) H)
def rU(g:Int->V):V->Hp->VK->Prop:=fun x H Q=>kz g x H Q
variable{f:Value->Value->Sem Value}{g:Int->Int->Int}{d:St}
section
variable {a b:Expr} {tc:TE} {pos:Pos}
theorem YK(m:PE X a ta)(n:PE X b tb){R:V->V->Hp->Prop}(I:Inv X pins d H s)(h:ta d H fun x k=>tb d k fun y e=>R x y e)(o:∀v u j x y e,Inv X pins d e j->RelV x v->RelV y u->R x y e->wpAny (model X.prog X.w) X.A (f v u) Q X.xe j):
  wpAny (model X.prog X.w) X.A (eval a X.env) (fun v g=>wpAny (model X.prog X.w) X.A (eval b X.env) (fun u i=>wpAny (model X.prog X.w) X.A (f v u) Q X.xe i) X.xe g) X.xe s:=by
 refine Aw (m pins s d H _ I h) fun v p l=>l.elim fun x k q r t=>?_;refine Aw (n pins p d k _ q t) fun u j l=>l.elim fun y e z B C=>?_;exact o v u j x y e z r B C
theorem AN{op:Operator}{r:R2}(d:DC X (binaryOp op) r)(e:PE X a ta)(f:PE X b tb):PE X (.BinOp a op b pos) (bG r ta tb):=by
 intro pins s g H Q I h;exact wpAny_BinOp (YK e f I h fun v u i x y j k l m q=>d pins i g j x y v u Q k l m q)
theorem RF{op:UnaryOp}{r:V->Hp->VK->Prop}(e:fq X (unaryOp op) r)(f:PE X a ta):PE X (.UnaryOp op a pos) (kx r ta):=by
 intro pins s d H Q I h;exact UnaryOp_ (Aw (f pins s d H _ I h) fun v g i=>i.elim fun x j k l m=>e pins g d j x v Q k l m)
theorem ei{C:Int->Int->Prop}(rule:∀(i j:Int) (t u:Tok) (s:Shared) (Q:Value->Shared->Prop) (E:Value->Shared->Prop),C i j->Q (.int (g i j) s.toks) {s with toks:=s.toks+1}->wpAny (model X.prog X.w) X.A (f (.int i t) (.int j u)) Q E s):
  DC X f (rI C fun i j=>.int (g i j)):=by
 intro pins s m H x y v u Q I d e h;obtain⟨i,j,rfl,rfl,k,q⟩:=h;obtain⟨t,rfl⟩:=d;obtain⟨l,rfl⟩:=e;exact rule i j t l s _ _ k ⟨.int (g i j),H,I.tok _,⟨_,rfl⟩,q⟩
theorem fy  (rule:∀(i j:Int)(t u:Tok)(s:Shared)(Q:Value->Shared->Prop)(E:Value->Shared->Prop),Q (.int (g i j) s.toks) {s with toks:=s.toks+1}->wpAny (model X.prog X.w) X.A (f (.int i t) (.int j u)) Q E s):
  DC X f (YJ fun i j=>.int (g i j)):=by
 intro pins s l H x y v u Q I d e h;obtain⟨i,j,rfl,rfl,q⟩:=h;obtain⟨t,rfl⟩:=d;obtain⟨k,rfl⟩:=e;exact rule i j t k s _ _ ⟨.int (g i j),H,I.tok _,⟨_,rfl⟩,q⟩
theorem Uz{g:Int->Int->Bool}(rule:∀(i j:Int) (t u:Tok) (s:Shared) (Q:Value->Shared->Prop) (E:Value->Shared->Prop),Q (.bool (g i j)) s->wpAny (model X.prog X.w) X.A (f (.int i t) (.int j u)) Q E s):
  DC X f (YJ fun i j=>.bl (g i j)):=by
 intro pins s l H x y v u Q I d e h;obtain⟨i,j,rfl,rfl,q⟩:=h;obtain⟨t,rfl⟩:=d;obtain⟨k,rfl⟩:=e;exact rule i j t k s _ _ ⟨.bl (g i j),H,I,rfl,q⟩
def fz(i j:Int):Prop:=0<j/\j<1073741824
def f_(i j:Int):Prop:=0<=j/\j<=1000000/\i.natAbs<2 ^ 64
def YL(i j:Int):Prop:=(-(2 ^ 64)<i/\i<2 ^ 64)∨(-(2 ^ 64)<j/\j<2 ^ 64)
theorem YL.ok{i j:Int}(h:YL i j):IntMulOk i j:=by
 rcases h with⟨d,e⟩|⟨d,e⟩
 ·exact .of_left (intBits_le_64 d e)
 ·exact .of_right (intBits_le_64 d e)
theorem BN:DC X (binaryOp .Add) (YJ fun i j=>.int (i+j)):=fy fun _ _ _ _ _ _ _ q=>add_int q
theorem DD:DC X (binaryOp .Mult) (rI YL fun i j=>.int (i*j)):=ei fun _ _ _ _ _ _ _ d q=>mul_int q d.ok
theorem Dw:DC X (binaryOp .FloorDiv) (rI fz fun i j=>.int (i/j)):=ei fun i j _ _ _ _ _ d q=>by
 have e:(0:Int)<j:=d.1;have f:j<1073741824:=d.2;exact floordiv_int (by lia) (by rw[Int.fdiv_eq_ediv_of_nonneg i (by lia)];exact q) (.inl (PyProof.noPylong_small (by lia)))
theorem As:DC X (binaryOp .Mod) (rI (fun _ j=>0<j) fun i j=>.int (i % j)):=ei fun i j _ _ _ _ _ d q=>by
 have e:(0:Int)<j:=d;exact mod_int' (by lia) (by rw[Int.fmod_eq_emod_of_nonneg i (by lia)];exact q)
theorem RG:DC X (binaryOp .Pow) (rI f_ fun i j=>.int (i ^ j.toNat)):=ei fun _ _ _ _ _ _ _ d q=>pow_int_small d.1 d.2.1 d.2.2 q
theorem k_{f:Value->Sem Value}{g:Int->Int}(rule:∀(i:Int) (t:Tok) (s:Shared) (Q:Value->Shared->Prop) (E:Value->Shared->Prop),Q (.int (g i) s.toks) {s with toks:=s.toks+1}->wpAny (model X.prog X.w) X.A (f (.int i t)) Q E s):
  fq X f (rU fun i=>.int (g i)):=by
 intro pins s e H x v Q I d h;obtain⟨i,rfl,q⟩:=h;obtain⟨t,rfl⟩:=d;exact rule i t s _ _ ⟨.int (g i),H,I.tok _,⟨_,rfl⟩,q⟩
theorem Ln:fq X (unaryOp .USub) (rU fun i=>.int (-i)):=k_ fun _ _ _ _ _ q=>neg_int q
end
noncomputable def bf:V->V->Bool
 | .Ae,.Ae=>true| .Ae,.int _=>true| .int _,.Ae=>true| .Ae,.bl _=>true| .bl _,.Ae=>true| .Ae,.str _=>true| .str _,.Ae=>true
 | .int _,.int _=>true| .bl _,.bl _=>true| .str _,.str _=>true| .Nc _,.Nc _=>true
 | .int _,.str _=>true| .str _,.int _=>true| .bl _,.str _=>true| .str _,.bl _=>true
 |_,_=>false
def lA:R2:=fun x y H Q=>bf x y=true/\Q (.bl (decide (x=y))) H
def lB:R2:=fun x y H Q=>bf x y=true/\Q (.bl (!decide (x=y))) H
theorem Nh{i j:Int}:decide (V.int i=V.int j)=(i==j):=by
 rw[Bool.eq_iff_iff];simp
theorem RH{i j:Bool}:decide (V.bl i=V.bl j)=(i==j):=by
 rw[Bool.eq_iff_iff];simp
theorem Ni{i j:Str}:decide (V.str i=V.str j)=(i==j):=by
 rw[Bool.eq_iff_iff];simp
theorem Nj{i j:Array UInt8}:decide (V.Nc i=V.Nc j)=(i.toList==j.toList):=by
 rw[Bool.eq_iff_iff];cases i;cases j;simp
variable{r:R2}
section
variable {a b:Expr} {tc:TE} {pos:Pos}
theorem Ac{Q:VK}{k f:Bool}(I:Inv X pins d H s)(q:Q (.bl k) H)(e:k=f):EP X pins d Q (.bool f) s:=by
 subst e;exact⟨.bl k,H,I,rfl,q⟩
theorem BX:DC X (compareOp .Eq) lA:=by
 intro pins s k H x y v u Q I g d h;obtain⟨f,q⟩:=h;cases x with
 |Ae=>
  cases g;cases y with
  |Ae=>cases d;exact PySem.EqNone.eq_none_none (Ac I q (by simp))
  |bl j=>cases d;exact PySem.EqNone.eq_none_bool (Ac I q (by simp))
  |int j=>obtain⟨e,rfl⟩:=d;exact PySem.EqNone.eq_none_int (Ac I q (by simp))
  |str j=>obtain⟨e,rfl⟩:=d;exact PySem.EqNone.eq_none_str (Ac I q (by simp))
  |_=>exact absurd (show false=true from f) Bool.false_ne_true
 |bl i=>
  cases g;cases y with
  |Ae=>cases d;exact PySem.EqNone.eq_bool_none (Ac I q (by simp))
  |bl j=>cases d;exact eq_bool (Ac I q RH)
  |str j=>obtain⟨e,rfl⟩:=d;exact PySem.EqMixed.eq_bool_str (Ac I q (by simp))
  |_=>exact absurd (show false=true from f) Bool.false_ne_true
 |int i=>
  obtain⟨t,rfl⟩:=g;cases y with
  |Ae=>cases d;exact PySem.EqNone.eq_int_none (Ac I q (by simp))
  |int j=>obtain⟨e,rfl⟩:=d;exact eq_int (Ac I q Nh)
  |str j=>obtain⟨e,rfl⟩:=d;exact PySem.EqMixed.eq_int_str (Ac I q (by simp))
  |_=>exact absurd (show false=true from f) Bool.false_ne_true
 |str i=>
  obtain⟨t,rfl⟩:=g;cases y with
  |Ae=>cases d;exact PySem.EqNone.eq_str_none (Ac I q (by simp))
  |bl j=>cases d;exact PySem.EqMixed.eq_str_bool (Ac I q (by simp))
  |int j=>obtain⟨e,rfl⟩:=d;exact PySem.EqMixed.eq_str_int (Ac I q (by simp))
  |str j=>obtain⟨e,rfl⟩:=d;exact eq_str (Ac I q Ni)
  |_=>exact absurd (show false=true from f) Bool.false_ne_true
 |Nc i=>
  obtain⟨t,rfl⟩:=g;cases y with
  |Nc j=>obtain⟨e,rfl⟩:=d;exact PySem.W.eq_bytes (Ac I q Nj)
  |_=>exact absurd (show false=true from f) Bool.false_ne_true
 |_=>cases y<;>exact absurd (show false=true from f) Bool.false_ne_true
theorem RI:DC X (compareOp .NotEq) lB:=by
 intro pins s k H x y v u Q I g d h;obtain⟨f,q⟩:=h;cases x with
 |Ae=>
  cases g;cases y with
  |Ae=>cases d;exact PySem.EqNone.ne_none_none (Ac I q (by simp))
  |bl j=>cases d;exact PySem.EqNone.ne_none_bool (Ac I q (by simp))
  |int j=>obtain⟨e,rfl⟩:=d;exact PySem.EqNone.ne_none_int (Ac I q (by simp))
  |str j=>obtain⟨e,rfl⟩:=d;exact PySem.EqNone.ne_none_str (Ac I q (by simp))
  |_=>exact absurd (show false=true from f) Bool.false_ne_true
 |bl i=>
  cases g;cases y with
  |Ae=>cases d;exact PySem.EqNone.ne_bool_none (Ac I q (by simp))
  |bl j=>cases d;exact ne_bool (Ac I q (congrArg not RH))
  |str j=>obtain⟨e,rfl⟩:=d;exact PySem.EqMixed.ne_bool_str (Ac I q (by simp))
  |_=>exact absurd (show false=true from f) Bool.false_ne_true
 |int i=>
  obtain⟨t,rfl⟩:=g;cases y with
  |Ae=>cases d;exact PySem.EqNone.ne_int_none (Ac I q (by simp))
  |int j=>obtain⟨e,rfl⟩:=d;exact ne_int (Ac I q (congrArg not Nh))
  |str j=>obtain⟨e,rfl⟩:=d;exact PySem.EqMixed.ne_int_str (Ac I q (by simp))
  |_=>exact absurd (show false=true from f) Bool.false_ne_true
 |str i=>
  obtain⟨t,rfl⟩:=g;cases y with
  |Ae=>cases d;exact PySem.EqNone.ne_str_none (Ac I q (by simp))
  |bl j=>cases d;exact PySem.EqMixed.ne_str_bool (Ac I q (by simp))
  |int j=>obtain⟨e,rfl⟩:=d;exact PySem.EqMixed.ne_str_int (Ac I q (by simp))
  |str j=>obtain⟨e,rfl⟩:=d;exact ne_str (Ac I q (congrArg not Ni))
  |_=>exact absurd (show false=true from f) Bool.false_ne_true
 |Nc i=>
  obtain⟨t,rfl⟩:=g;cases y with
  |Nc j=>obtain⟨e,rfl⟩:=d;exact PySem.W.ne_bytes (Ac I q (congrArg not Nj))
  |_=>exact absurd (show false=true from f) Bool.false_ne_true
 |_=>cases y<;>exact absurd (show false=true from f) Bool.false_ne_true
theorem XX:DC X (compareOp .Lt) (YJ fun i j=>.bl (decide (i<j))):=Uz fun _ _ _ _ _ _ _ q=>lt_int q
theorem Nk:DC X (compareOp .LtE) (YJ fun i j=>.bl (decide (i<=j))):=Uz fun _ _ _ _ _ _ _ q=>le_int q
theorem HY:DC X (compareOp .Gt) (YJ fun i j=>.bl (decide (j<i))):=Uz fun _ _ _ _ _ _ _ q=>gt_int q
theorem RJ:DC X (compareOp .GtE) (YJ fun i j=>.bl (decide (j<=i))):=Uz fun _ _ _ _ _ _ _ q=>ge_int q
inductive IK(x y:V)(H:Hp)(Q:VK):Prop
 |mk(i j:_)(d:x=.str i)(e:y=.str j)(f:Q (.bl (!(Builtin.Str.occurrences j i 0 j.length 1).isEmpty)) H)
def KD:V->V->Hp->VK->Prop:=fun x y H Q=>IK x y H Q
theorem PX:DC X (compareOp .In) KD:=by
 intro pins s f H x y v u Q I d e h;obtain⟨i,j,rfl,rfl,q⟩:=h;obtain⟨t,rfl⟩:=d;obtain⟨g,rfl⟩:=e;exact in_str (Ac I q rfl)
theorem YM:DC X (compareOp .Is) (fun x y H Q=>y=.Ae/\Q (.bl (decide (x=.Ae))) H):=by
 intro pins s f H x y v u Q I d e h;obtain⟨rfl,q⟩:=h;cases e;refine is_none_gen (Ac I q ?_);cases x<;>first
  |(cases d;rfl)
  |(obtain⟨t,rfl⟩:=d;rfl)
theorem AQ(b:Expr)(h:op≠.In:=by decide)(d:op≠.NotIn:=by decide):behindInMarks op b=false:=by
 have e1:(op==CmpOp.In)=false:=by cases op<;>first|rfl|exact absurd rfl h
 have e2:(op==CmpOp.NotIn)=false:=by cases op<;>first|rfl|exact absurd rfl d
 cases b<;>simp[behindInMarks,e1,e2]
theorem BD(d:DC X (compareOp op) r)(e:PE X a ta)(f:PE X b tb)(g:behindInMarks op b=false):PE X (.Compare a [op] [b] pos) (bG r ta tb):=by
 intro pins s i H Q I h;exact wpAny_Compare1 (YK e f I h fun v u j x y k l m n q=>d pins j i k x y v u Q l m n q) g
def bg(t:TE):TT:=fun d H Q=>t d H fun x e=>jb x e Q
theorem AR(f:DC X (compareOp op) r)(g:PE X a ta)(i:PE X b tb)(j:behindInMarks op b=false):PT X (.Compare a [op] [b] pos) (bg (bG r ta tb)):=by
 intro pins s d H Q I h;refine wpAny_isTrue_Compare1 (Aw (g pins s d H _ I h) fun v l m=>m.elim fun x n o p q=>Aw (i pins l d n _ o q) fun u t ⟨y,w,A,B,C⟩=>
  Aw (f pins t d w x y v u _ A p B C) fun c J ⟨z,D,E,F,k,e,G⟩=>?_) j
 subst e;cases F;exact wpAny_truthy_bool ⟨D,E,G⟩
def YN(r f:R2)(ta tb tc:TE):TE:=fun d H Q=>ta d H fun x g=>tb d g fun y h=>r x y h fun z e=>∃k,z=.bl k/\ (if k=true then tc d e fun i j=>f y i j Q else Q (.bl false) e)
theorem RK{f:CmpOp}{l:R2}(q:DC X (compareOp op) r)(i:DC X (compareOp f) l)(t:PE X a ta)(w:PE X b tb)(A:PE X c tc)(B:lastMarks [op,f] [b,c]=false:=by with_unfolding_all rfl):PE X (.Compare a [op,f] [b,c] pos) (YN r l ta tb tc):=by
 intro pins s g H Q I h;refine Compare_chain (Aw (t pins s g H _ I h) fun v C j=>j.elim fun x D E F G=>chain_link (Aw (w pins C g D _ E G) fun u J ⟨y,K,L,m,M⟩=>
  Aw (q pins J g K x y v u _ L F m M) fun d N ⟨z,n,o,O,k,e,p⟩=>?_)) B
 subst e;cases O;refine wpAny_truthy_bool ?_;cases k with
 |false=>exact ite_ff ⟨.bl false,n,o,rfl,p⟩
 |true=>exact ite_tt (chain_last (Aw (A pins N g n _ o p) fun P R j=>j.elim fun S T U V Y=>i pins R g T y S u P Q U m V Y))
def bh(K:qG)(x:V)(H:Hp)(k:Bool):Prop:=
 match x with
 | .Ae=>k=false
 | .bl b=>k=b
 | .int i=>k=(i !=0)
 | .str y=>y.length<=sizeLine/\k=((y.length:Int) !=0)
 | .Nc y=>y.size<=sizeLine/\k=((y.size:Int) !=0)
 | .ref p=>(∃xs,Ap K H p xs/\k= !xs.isEmpty)∨(∃xs,Az K H p xs/\k= !xs.isEmpty)∨∃d,H p=some (.dK d)/\k= !d.isEmpty
 |_=>False
theorem Lo{d:Type}{kvs:List (d×V)}{vs:List (d×Value)}(r:KV kvs vs):(!vs.isEmpty)= !kvs.isEmpty:=by
 cases r<;>rfl
theorem Fp{xs:List V}{its:List Value}(r:Vals xs its):(!its.toArray.isEmpty)= !xs.isEmpty:=by
 cases r<;>simp
theorem Dm:(sizeLine:Nat)<2 ^ 63:=by rw[sizeLine_eq];decide
theorem YO:fu X (fun x H Q=>∃k,bh X.K x H k/\Q k H):=by
 intro pins s B H x v Q I g h;obtain⟨k,e,q⟩:=h;have C:=Dm;have D:sizeLine=16777216:=sizeLine_eq;cases x with
 |Ae=>
  cases g;have d:k=false:=e;subst d;exact truthy_none ⟨H,I,q⟩
 |bl b=>
  cases g;have d:k=b:=e;subst d;exact wpAny_truthy_bool ⟨H,I,q⟩
 |int i=>
  obtain⟨t,rfl⟩:=g;have d:k=(i !=0):=e;subst d;exact PySem.P.truthy_int ⟨H,I,q⟩
 |str y=>
  obtain⟨t,rfl⟩:=g;obtain⟨z,d⟩:y.length<=sizeLine/\k=((y.length:Int) !=0):=e;subst d;exact PySem.P.truthy_str (by lia) ⟨H,I.tok _,q⟩
 |Nc y=>
  obtain⟨t,rfl⟩:=g;obtain⟨z,d⟩:y.size<=sizeLine/\k=((y.size:Int) !=0):=e;subst d;exact PySem.W.truthy_bytes (by lia) ⟨H,I.tok _,q⟩
 |ref p=>
  cases g;have d:(∃xs,Ap X.K H p xs/\k= !xs.isEmpty)∨(∃xs,Az X.K H p xs/\k= !xs.isEmpty)∨∃f,H p=some (.dK f)/\k= !f.isEmpty:=e;rcases d with⟨xs,j,d⟩|⟨xs,j,d⟩|⟨f,j,d⟩
  ·subst d;obtain⟨n,r,o,u⟩:=I.list j;have hlen:=r.length;exact wpAny_truthy_list o.isList (by simp only[List.size_toArray];lia) ⟨H,I.tok _,by rw[Fp r];exact q⟩
  ·subst d;obtain⟨n,r,o,u⟩:=I.tuple j;have hlen:=r.length;exact truthy_tuple o (by simp only[List.size_toArray];lia) ⟨H,I.tok _,by rw[Fp r];exact q⟩
  ·subst d;obtain⟨u,A,l,r,m⟩:f.length<=sizeLine/\(p==sysModules)=false/\∃l,KV f l/\s.heap.DictOf (Ag X.prog X.w) p l:=I.Al p _ j;have hlen:f.length=l.length:=Paired.length r;exact wpAny_truthy_dict A m (by lia) ⟨H,I.tok _,by rw[Lo r];exact q⟩
 |_=>exact(show False from e).elim
theorem KG(f:PE X a ta)(g:∀whole,isTrue a X.env whole=(do let v<-whole;standAt a.pos;holding [v] (truthy v))):
  PT X a (fun d H Q=>ta d H fun x e=>∃k,bh X.K x e k/\Q k e):=by
 intro pins s d H Q I h;exact isTrue_plain (Aw (f pins s d H _ I h) fun v i j=>j.elim fun x l m n o=>YO pins i d l x v Q m n o) (g _)
inductive HE(x y:V)(H:Hp)(Q:VK):Prop
 |mk(i j:_)(d:x=.str i)(e:y=.str j)(f:i.length+j.length<=sizeLine)(g:Q (.str (i++j)) H)
def IL:V->V->Hp->VK->Prop:=fun x y H Q=>HE x y H Q
theorem Dn:DC X (binaryOp .Add) IL:=by
 intro pins s k H x y v u Q I d e h;obtain⟨i,j,rfl,rfl,f,q⟩:=h;obtain⟨t,rfl⟩:=d;obtain⟨g,rfl⟩:=e;exact add_str (fun g l=>⟨.str (i++j),H,I.tok _,⟨_,rfl⟩,q⟩) f
theorem vals1{x:V}(r:Vals [x] us):∃u,us=[u]/\RelV x u:=by
 cases r with
 |cons d e=>cases e;exact⟨_,rfl,d⟩
theorem vals2{x:V}(r:Vals [x,y] us):∃u d,us=[u,d]/\RelV x u/\RelV y d:=by
 cases r with
 |cons e f=>
  cases f with
  |cons g h=>cases h;exact⟨_,_,rfl,e,g⟩
theorem EU:BG X (.type "int") (fun xs H Q=>(∃i,xs=[.int i]/\Q (.int i) H)∨∃k,xs=[.bl k]/\Q (.int (if k then 1 else 0)) H):=by
 intro pins s e H xs f Q I r h;rcases h with⟨i,rfl,q⟩|⟨k,rfl,q⟩
 ·obtain⟨u,rfl,t,rfl⟩:=vals1 r;exact call_int_int ⟨.int i,H,I,⟨_,rfl⟩,q⟩
 ·obtain⟨u,rfl,d⟩:=vals1 r;cases d;exact call_int_bool ⟨.int (if k then 1 else 0),H,I.tok _,⟨_,rfl⟩,q⟩
end
structure Lp(h:Heap)(x dx C:Addr)(mA:Str->Option Value):Prop where
 obj:h.get? x=some (PySem.W.instObj C dx)
 ns:h.Ns1 dx mA
 ne:dx≠x
theorem PY{c:Addr}{d:Str->Option Value}(n:h.Ns1 c d):∃od,h.get? c=some od/\∀name,PySem.W.lookIn name od=some (d name):=by
 obtain⟨o,f,p,g,i,j,_,k⟩:=n;refine⟨o,g,fun name=>?_⟩;have e:=k name;unfold nsFind findBy at e;rw[<-Array.find?_toList]at e;unfold PySem.W.lookIn;rw[i];dsimp only;split
 ·rename_i y q
  rw[q]at e;exact congrArg some e
 ·rename_i q
  rw[q]at e;have a:f.toList.any (·.refKey)=false:=by
   rw[List.any_eq_false];intro y l;obtain⟨z,t,b⟩:=j y (Array.mem_toList_iff.mp l);simp[DictEntry.refKey,b]
  have m:¬f.toList.any (·.refKey)=true:=by rw[a];exact Bool.false_ne_true
  rw[if_neg m];exact congrArg some e
variable{C:Addr}
theorem Lp.look{x:Addr}{b:Str->Option Value}(I:Lp h x a C b):∃od,PySem.W.InstAt h x (PySem.W.instObj C a) C (some od)/\∀name,PySem.W.lookIn name od=some (b name):=
 let⟨od,c,d⟩:=PY I.ns
 ⟨od,⟨I.obj,rfl,rfl,c⟩,d⟩
variable{pl:Sem Bool}{prog:Program}{dx:Addr}
section
variable {x f:Addr} {mA:Str->Option Value} {name:Str} {v:Value}
theorem get_map{expr:Bool}(X:K.In s.heap)(I:Lp s.heap x dx C mA)(b:PySem.W.plainGet K C name=true)(c:PySem.W.hasDictIn K C=true)(d:PySem.W.findIn K (.ref C) name=some none)(e:mA name=some v)(a:PySem.W.handedIn v=true)(h:Q v {s with toks:=s.toks+1}):
  wpAny (model prog w) A (getAttr (.ref x) name expr) Q E s:=by
 obtain⟨i,J,g⟩:=I.look;exact PySem.W.get_value X J (PySem.W.plainGet_of b).1 (PySem.W.findObj_own c d rfl (by rw[g,e])) a h
theorem RL{Q:Value×List Value->Shared->Prop}(X:K.In s.heap)(I:Lp s.heap x dx C mA)(a:PySem.W.plainGet K C name=true)(b:PySem.W.findIn K (.ref C) name=some (some (.ref f)))(c:PySem.W.isFn K (.ref f)=true)(d:mA name=none)(h:Q (.ref f,[.ref x]) s):
  wpAny (model prog w) A (getMethod (.ref x) name pl) Q E s:=by
 obtain⟨e,J,g⟩:=I.look;exact PySem.W.method_fn X J (PySem.W.plainGet_of a).1 (PySem.W.plainGet_of a).2 b (beq_iff_eq.mp c) (by show(PySem.W.lookIn name e).map (·.isSome)=some false;rw[g,d];rfl) h
theorem U_{ns:List Str}{Q:Unit->Shared->Prop}(X:K.In s.heap)(I:Lp s.heap x dx C mA)(k:PySem.W.findIn K (.ref C) "__setattr__"=some (some (.builtin "object.__setattr__")))(l:PySem.W.plainOver K C=true)(m:PySem.W.takerIn K C name=some none)(n:PySem.W.hasDictIn K C=true)(hw:PySem.Within mA ns)(hsz:ns.length<=sizeLine)(h:∀h',Lp h' x dx C (fun y=>if y=name then some v else mA y)->Heap.SameBut dx s.heap h'->Q () {s with heap:=h',toks:=s.toks+2}):
  wpAny (model prog w) A (setAttr (.ref x) name v) Q E s:=by
 obtain⟨u,J,z⟩:=I.look;refine PySem.W.set_plain X J k (PySem.W.osa_open (s:={s with toks:=s.toks+1}) (r:=none) X J l m fun b=>?_);obtain⟨B,o,e⟩:=PySem.W.any_some n;have p:s.heap.get? x=some ⟨.ref C,some dx,.plain, #[]⟩:=I.obj;refine wpAny_bind (wpAny_pure (wpAny_bind (wpAny_bind (wpAny_loadPart p (wpAny_bind (PySem.W.Looks.here (s:={s with toks:=s.toks+1}) (PySem.W.looks_clsIn X o) ?_))))));rw[e];refine wpAny_pure (a:=some dx) (wpAny_bind (wpAny_pure (wpAny_bind ?_)));refine wpAny_nsSet1 (s:={s with toks:=s.toks+1}) I.ns fun h' c d=>?_;obtain⟨D,q,t,g,i,j⟩:=c.count (PySem.Within.cons name v hw);refine wpAny_bind (wpAny_lookBehind g (by rw[i];exact pastItsLine_dict (Nat.le_trans j (by rw[List.length_cons];lia))) ?_);exact wpAny_pure (h _ ⟨(d.2 _ (Ne.symm I.ne)).trans I.obj,c,I.ne⟩ d)
theorem KH{R:Result->Shared->Prop}{vs:List Value}{a:List (Str×Value)}(X:K.In s.heap)(b:PySem.W.makesIn K C=true)(c:PySem.W.findIn K (.ref C) "__init__"=some (some (.ref f)))(e:PySem.W.typeIn K (.ref f)=some (.type "function"))(h:codeAny (model prog w) (A.under (.builtin "type.__call__" ⟨.ref C::vs,a⟩)) (.call (.ref f) ⟨.ref (s.heap.objs.size+1)::vs,a⟩) (PySem.W.InitBack (s.heap.objs.size+1) R)
   {s with heap:=(s.heap.push PySem.W.emptyDict).push (PySem.W.instObj C s.heap.objs.size)}):
  codeAny (model prog w) A (.call (.ref C) ⟨vs,a⟩) R s:=by
 obtain⟨i,g,d,t,os⟩:=s;exact PySem.W.make_core (PySem.W.makes_of X b) (PySem.W.looks_findIn X c) (fun self=>PySem.W.bind_fn X self e) (.inl rfl) h
end
noncomputable def Cm(f:Str)(v:V):List (Str×V)->List (Str×V)
 |[]=>[(f,v)]
 |(g,x)::r=>if g=f then(g,v)::r else(g,x)::Cm f v r
theorem Es(f g:Str)(v:V):∀fs:List (Str×V),(Cm f v fs).lookup g=if g=f then some v else fs.lookup g
 |[]=>by
  show List.lookup g [(f,v)]=_;by_cases h:g=f
  ·have a:(g==f)=true:=beq_iff_eq.mpr h;simp only[List.lookup,a,if_pos h]
  ·have a:(g==f)=false:=beq_eq_false_iff_ne.mpr h;simp only[List.lookup,a,if_neg h]
 |(k,x)::r=>by
  have c:=Es f g v r;rw[show Cm f v ((k,x)::r)=(if k=f then(k,v)::r else(k,x)::Cm f v r)from rfl];by_cases b:k=f
  ·rw[if_pos b];by_cases h:g=k
   ·have a:(g==k)=true:=beq_iff_eq.mpr h;simp only[List.lookup,a,if_pos (h.trans b)]
   ·have a:(g==k)=false:=beq_eq_false_iff_ne.mpr h;simp only[List.lookup,a,if_neg (fun e:g=f=>h (e.trans b.symm))]
  ·rw[if_neg b];by_cases h:g=k
   ·have a:(g==k)=true:=beq_iff_eq.mpr h;simp only[List.lookup,a,if_neg (fun e:g=f=>b (h.symm.trans e))]
   ·have a:(g==k)=false:=beq_eq_false_iff_ne.mpr h;simp only[List.lookup,a];exact c
theorem EV(f:Str)(v:V):∀fs:List (Str×V),f∈(Cm f v fs).map (·.1)/\∀g,g∈fs.map (·.1)->g∈(Cm f v fs).map (·.1)
 |[]=>⟨by simp[Cm],fun g h=>by simp at h⟩
 |(k,x)::r=>by
  obtain⟨b,c⟩:=EV f v r;rw[show Cm f v ((k,x)::r)=(if k=f then(k,v)::r else(k,x)::Cm f v r)from rfl];by_cases a:k=f
  ·rw[if_pos a];subst a;exact⟨by simp,fun g h=>by simpa using h⟩
  ·rw[if_neg a];refine⟨?_,fun g h=>?_⟩
   ·rw[List.map_cons];exact List.mem_cons_of_mem _ b
   ·rw[List.map_cons]at h⊢;rcases List.mem_cons.mp h with e|e
    ·exact List.mem_cons.mpr (.inl e)
    ·exact List.mem_cons_of_mem _ (c g e)
theorem Et(f:Str)(v:V):∀fs:List (Str×V),(Cm f v fs).length<=fs.length+1
 |[]=>by simp[Cm]
 |(k,x)::r=>by
  have b:=Et f v r;rw[show Cm f v ((k,x)::r)=(if k=f then(k,v)::r else(k,x)::Cm f v r)from rfl];by_cases a:k=f
  ·rw[if_pos a,List.length_cons,List.length_cons];lia
  ·rw[if_neg a,List.length_cons,List.length_cons];lia
theorem Cg.some_of{o:Option Value}(r:Cg (some v) o):∃u,o=some u/\RelV v u:=by
 cases o with
 |none=>exact(show False from r).elim
 |some u=>exact⟨u,rfl,r⟩
theorem Cg.none_of{o:Option Value}(r:Cg none o):o=none:=by
 cases o with
 |none=>rfl
 |some u=>exact(show False from r).elim
theorem PZ(r:RelV v u):PySem.W.handedIn u=true:=by
 cases v with
 |Ae=>cases(show u=Value.none from r);rfl
 |bl b=>cases(show u=Value.bool b from r);rfl
 |int i=>obtain⟨t,e⟩:=(show∃t,u=Value.int i t from r);cases e;rfl
 |str x=>obtain⟨t,e⟩:=(show∃t,u=Value.str x t from r);cases e;rfl
 |Nc b=>obtain⟨t,e⟩:=(show∃t,u=Value.bytes b t from r);cases e;rfl
 |YA b=>obtain⟨t,e⟩:=(show∃t,u=Value.float b t from r);cases e;rfl
 |ref a=>cases(show u=Value.ref a from r);rfl
 |ty n=>cases(show u=Value.type n from r);rfl
section
variable {fs km:List (Str×V)}
theorem FX(c:Cf P w H h)(e:H a=some (.ins C dx fs)):∃b,Lp h a dx C b/\(∀f,Cg (fs.lookup f) (b f))/\PySem.Within b (fs.map (·.1))/\fs.length<=1000/\H dx=some (.own a):=by
 obtain⟨d,z,g,i,b,n,r,q⟩:=(show Ah P w H h a (.ins C dx fs)from c a _ e);exact⟨b,⟨i,n,g⟩,r,q,z,d⟩
end
structure DW(K:qG)(C:Addr):Prop where
 pg:PySem.W.plainGet K C Str.empty=true
 hd:PySem.W.hasDictIn K C=true
 po:PySem.W.plainOver K C=true
 sa:PySem.W.findIn K (.ref C) "__setattr__"=some (some (.builtin "object.__setattr__"))
theorem DW.get(c:DW K C)(f:Str):PySem.W.plainGet K C f=true:=c.pg
def AS(K:qG)(C:Addr)(f:Str):Prop:=PySem.W.findIn K (.ref C) f=some none
theorem AS.bj{f:Str}(n:AS K C f):PySem.W.takerIn K C f=some none:=by
 unfold PySem.W.takerIn;rw[show PySem.W.findIn K (.ref C) f=some none from n];rfl
structure Meth(K:qG)(C:Addr)(m:Str)(f:Addr):Prop where
 at_:PySem.W.findIn K (.ref C) m=some (some (.ref f))
 fn:PySem.W.isFn K (.ref f)=true
 kp:PySem.W.keepIn K (.ref f)=true
variable{m:Str}
section
variable {fs:List (Str×V)} {f:Str} 
theorem Lq{b:Bool}(I:Inv X pins σ H s)(e:H a=some (.ins C dx fs))(c:DW X.K C)(n:AS X.K C f)(l:fs.lookup f=some v)(h:∀u s',Inv X pins σ H s'->RelV v u->Q u s'):wpAny (model X.prog X.w) A (getAttr (.ref a) f b) Q E s:=by
 obtain⟨g,O,r,_,_,_⟩:=FX I.Al e;obtain⟨u,i,d⟩:=Cg.some_of (v:=v) (o:=g f) (by rw[<-l];exact r f);exact get_map I.CH O (c.get f) c.hd n i (PZ d) (h u _ (I.tok _) d)
theorem Fs{g:Addr}{Q:Value×List Value->Shared->Prop}(I:Inv X pins σ H s)(e:H a=some (.ins C dx fs))(c:DW X.K C)(k:Meth X.K C m g)(l:fs.lookup m=none)(h:Q (.ref g,[.ref a]) s):wpAny (model X.prog X.w) A (getMethod (.ref a) m pl) Q E s:=by
 obtain⟨b,O,r,_,_,_⟩:=FX I.Al e;have d:b m=none:=Cg.none_of (by rw[<-l];exact r m);exact RL I.CH O (c.get m) k.at_ k.fn d h
theorem Lr{Q:Unit->Shared->Prop}(I:Inv X pins σ H s)(e:H a=some (.ins C dx fs))(c:DW X.K C)(n:AS X.K C f)(G:fs.length<1000)(l:RelV y u)(h:∀s',Inv X pins σ (upd H a (.ins C dx (Cm f y fs))) s'->Q () s'):wpAny (model X.prog X.w) A (setAttr (.ref a) f u) Q E s:=by
 obtain⟨i,O,r,j,_,k⟩:=FX I.Al e;have m:(fs.map (·.1)).length<=sizeLine:=by rw[List.length_map,sizeLine_eq];lia
 refine U_ I.CH O c.sa c.po n.bj c.hd j m fun p d t=>h _ ?_;have hd:∃o,p.get? dx=some o:=let⟨o,_,_,B,_⟩:=d.ns;⟨o,B⟩;refine I.write (x:=a) (e:=dx) (by rw[e];exact True.intro) (.inr k) (fun b q D z=>(t.2 b D).trans z) hd ?_;refine⟨by rw[AH O.ne];exact k,?_,O.ne,d.obj,_,d.ns,fun g=>?_,fun g F=>?_⟩
 ·have:=Et f y fs;lia
 ·show Cg ((Cm f y fs).lookup g) (if g=f then some u else i g);rw[Es];by_cases q:g=f
  ·rw[if_pos q,if_pos q];exact l
  ·rw[if_neg q,if_neg q];exact r g
 ·by_cases q:g=f
  ·rw[q];exact(EV f y fs).1
  ·refine(EV f y fs).2 g (j g fun z=>F ?_);show(if g=f then some u else i g)=none;rw[if_neg q];exact z
theorem Inv.made(I:Inv X pins σ H s):Inv X pins σ (upd (upd H s.heap.objs.size (.own (s.heap.objs.size+1))) (s.heap.objs.size+1) (.ins C s.heap.objs.size []))
  {s with heap:=(s.heap.push PySem.W.emptyDict).push (PySem.W.instObj C s.heap.objs.size)}:=by
 have e1:(s.heap.push PySem.W.emptyDict).get? s.heap.objs.size=some PySem.W.emptyDict:=Heap.get?_push_size s.heap rfl;have e2:((s.heap.push PySem.W.emptyDict).push (PySem.W.instObj C s.heap.objs.size)).get? (s.heap.objs.size+1)=some (PySem.W.instObj C s.heap.objs.size):=by
  have:=Heap.get?_push_size (s.heap.push PySem.W.emptyDict) (o:=PySem.W.instObj C s.heap.objs.size) rfl;rwa [Heap.size_push]at this
 have e3:(s.heap.push PySem.W.emptyDict).Ns s.heap.objs.size (fun _=>none):=⟨PySem.W.emptyDict, #[],_,e1,rfl,(fun e d=>absurd d (by simp)),fun _=>rfl⟩;have g:=I.laid (a:=s.heap.objs.size) (o:=.own (s.heap.objs.size+1)) (h':=s.heap.push PySem.W.emptyDict) (t':=s.toks) (fun b u q=>Heap.get?_push_of_some _ q) (Nat.le_refl _) ⟨_,e1⟩;refine g.laid (a:=s.heap.objs.size+1) (o:=.ins C s.heap.objs.size []) (t':=s.toks) (fun b u q=>Heap.get?_push_of_some _ q) (Nat.le_of_eq (Heap.size_push _ _)) ?_;have c:s.heap.objs.size≠s.heap.objs.size+1:=Nat.ne_of_lt (Nat.lt_succ_self _);refine⟨by rw[AH c,AD],Nat.zero_le _,c,e2,fun _=>none,(Heap.Ns1.of_empty e3).at fun o q=>Heap.get?_push_of_some _ q,fun _=>True.intro,fun y h=>absurd rfl h⟩
theorem Nl{env:Env}{pos:Pos}(c:attributeBase e f env (eval e env)=eval e env)(h:wpAny (model prog w) A (eval e env) (fun o b=>wpAny (model prog w) A (getAttr o f true) Q E b) E s):wpAny (model prog w) A (eval (.Attribute e f pos) env) Q E s:=
 Attribute_any_ h (by rw[arm_eval_Attribute,c])
end
def f'(K:qG)(c:TE)(f:Str):TE:=fun d H Q=>c d H fun x b=>∃a C e fs v,x=.ref a/\b a=some (.ins C e fs)/\DW K C/\AS K C f/\fs.lookup f=some v/\Q v b
def gB(K:qG)(e g:TE)(f:Str):TS:=fun D b H=>g b H fun y h=>e b h fun x c=>∃a C d fs,x=.ref a/\c a=some (.ins C d fs)/\DW K C/\AS K C f/\fs.length<1000/\
 D.nx b (upd c a (.ins C d (Cm f y fs)))
section
variable {o value:Expr} {f:Str} {pos pos' gC:Pos} {tv:TE}
theorem BQ(b:PE X e ta)(d:attributeBase e f X.env (eval e X.env)=eval e X.env):PE X (.Attribute e f pos) (f' X.K ta f):=by
 intro pins s g H Q I h;refine Nl d (Aw (b pins s g H _ I h) fun u w ⟨x,i,j,k,a,C,y,fs,v,m,p,c,n,l,q⟩=>?_);subst m;obtain rfl:u=Value.ref a:=k;exact Lq j p c n l fun z A r t=>⟨v,i,r,t,q⟩
theorem BR(d:PE X o ta)(g:PE X value tv)(i:swapsWith value (some (.Attribute o f pos')) pos.line X.env=pure false):PS X (.Assign [.Attribute o f pos'] value pos) (gB X.K ta tv f):=by
 intro pins s b H D I h;refine plainObj_wpAny_Assign_Attribute (Aw (g pins s b H _ I h) fun u j k=>k.elim fun y m p r q=>Aw (d pins j b m _ p q) fun t F ⟨x,G,v,w,a,C,J,fs,z,A,c,n,l,B⟩=>?_) i;subst z;obtain rfl:t=Value.ref a:=w;exact Lr v A c n l r fun L E=>⟨b,_,E,B⟩
end
section
variable {c:Value} {b:Bool}
inductive FI(K:qG)(H:Hp):V->Value->Prop where
 |Ae:FI K H .Ae (.type "NoneType")
 |bl (x:Bool):FI K H (.bl x) (.type "bool")
 |int (i:Int):FI K H (.int i) (.type "int")
 |str (x:Str):FI K H (.str x) (.type "str")
 |YA (x:UInt64):FI K H (.YA x) (.type "float")
 |lst {a:Addr} {xs:List V} (e:H a=some (.lst xs)):FI K H (.ref a) (.type "list")
 |Ci {a:Addr} {o:Obj} {xs:List V} (e:H a=some (.Ci o (.lst xs))):FI K H (.ref a) (.type "list")
 |tup {a:Addr} {xs:List V} (e:H a=some (.tup xs)):FI K H (.ref a) (.type "tuple")
 |dK {a:Addr} {kvs:List (Key×V)} (e:H a=some (.dK kvs)):FI K H (.ref a) (.type "dict")
 |dT {a:Addr} {kvs:List (List Key×V)} (e:H a=some (.dT kvs)):FI K H (.ref a) (.type "dict")
 |ins {a C d:Addr} {fs:List (Str×V)} (e:H a=some (.ins C d fs)) (cl:DW K C) (g:PySem.W.findIn K (.ref C) "__class__"=some (some (.builtin "object.__class__"))) (h:PySem.W.specialIn K (.builtin "object.__class__") "__get__"=some (some (.builtin "getset_descriptor.__get__"))) (f:PySem.W.takesIn K (.builtin "object.__class__")=some true) (j:PySem.W.mroIn K C (.type "object")=some true):FI K H (.ref a) (.ref C)
theorem CN{x:V}{t:Value}(I:Inv X pins σ H s)(d:RelV x u)(ty:FI X.K H x t)(e:PySem.W.kitOne X.K t c=some b)(h:∀tk,Q (.bool b) {s with toks:=tk}):
  wpAny (model X.prog X.w) A (call (.builtin "isinstance") [u,c]) Q E s:=by
 cases ty with
 |Ae=>cases(show u=Value.none from d);exact PySem.W.kia_one PySem.W.kitx_none I.CH True.intro e (fun z=>nomatch z) h
 |bl y=>cases(show u=Value.bool y from d);exact PySem.W.kia_one PySem.W.kitx_bool I.CH True.intro e (fun z=>nomatch z) h
 |int i=>obtain⟨t,q⟩:=(show∃t,u=Value.int i t from d);cases q;exact PySem.W.kia_one PySem.W.kitx_int I.CH True.intro e (fun z=>nomatch z) h
 |str y=>obtain⟨t,q⟩:=(show∃t,u=Value.str y t from d);cases q;exact PySem.W.kia_one PySem.W.kitx_str I.CH True.intro e (fun z=>nomatch z) h
 |YA y=>obtain⟨t,q⟩:=(show∃t,u=Value.float y t from d);cases q;exact PySem.W.kia_one PySem.W.kitx_float I.CH True.intro e (fun z=>nomatch z) h
 |@lst a xs f=>
  cases(show u=Value.ref a from d);obtain⟨_,_,n,_,g⟩:=(show Ah X.prog X.w H s.heap a (.lst xs)from I.Al a _ f);exact PySem.W.kia_one PySem.W.kitx_list I.CH ⟨_,g,rfl⟩ e (fun z=>nomatch z) h
 |@Ci a r xs f=>
  cases(show u=Value.ref a from d);obtain⟨_,_,_,n,_,g⟩:=(show Ah X.prog X.w H s.heap a (.Ci r (.lst xs))from I.Al a _ f);exact PySem.W.kia_one PySem.W.kitx_list I.CH ⟨_,g,rfl⟩ e (fun z=>nomatch z) h
 |@tup a xs f=>
  cases(show u=Value.ref a from d);obtain⟨_,_,_,p⟩:=(show Ah X.prog X.w H s.heap a (.tup xs)from I.Al a _ f);obtain⟨o,g,k,_⟩:=p;exact PySem.W.kia_one PySem.W.kitx_tuple I.CH ⟨o,g,k⟩ e (fun z=>nomatch z) h
 |@dK a j f=>
  cases(show u=Value.ref a from d);obtain⟨_,_,L,_,p⟩:=(show Ah X.prog X.w H s.heap a (.dK j)from I.Al a _ f);obtain⟨o,v,B,g,k,_⟩:=p;exact PySem.W.kia_one PySem.W.kitx_dict I.CH ⟨o,g,k.1⟩ e (fun z=>nomatch z) h
 |@dT a j f=>
  cases(show u=Value.ref a from d);obtain⟨_,_,xs,_,o,v,B,g,k,_⟩:=(show Ah X.prog X.w H s.heap a (.dT j)from I.Al a _ f);exact PySem.W.kia_one PySem.W.kitx_dict I.CH ⟨o,g,k.1⟩ e (fun z=>nomatch z) h
 |@ins a C M fs f m D F l G=>
  cases(show u=Value.ref a from d);obtain⟨N,O,_⟩:=FX I.Al f;obtain⟨P,J,_⟩:=O.look;exact PySem.W.kia_one (PySem.W.kitx_own (m.get _) m.hd D F l G) I.CH J e (fun z=>nomatch z) h
end
structure Aq(k:Nat)(A:Around):Prop where
 hd:A.handled=none
 dp:A.depth+3*k+5<recursionLimit
 un:A.units+16*k+200<cLine
 gd:A.guards=some []
theorem Aq.mono{j:Nat}(r:Aq k A)(h:j<=k):Aq j A:=⟨r.hd,by have:=r.dp;lia,by have:=r.un;lia,r.gd⟩
theorem Aq.deeper(r:Aq (k+1) A)(env:Env):Aq k (A.deeper env):=
 ⟨r.hd,by have:=r.dp;show A.depth+1+3*k+5<_;lia,by have:=r.un;show A.units+3+16*k+200<_;lia,r.gd⟩
theorem Ft{a:List (Str×Value)}:(A.under (.builtin "type.__call__" ⟨.ref C::us,a⟩)).depth=A.depth+1:=by
 first|rfl|simp[Around.under,Code.weight,Code.isCreation,Code.isGuard,Code.isCaller,Code.frames,Code.isFrame,guardIds]
theorem Fu{a:List (Str×Value)}:(A.under (.builtin "type.__call__" ⟨.ref C::us,a⟩)).units=A.units+1:=by
 first|rfl|simp[Around.under,Code.cUnits,Code.frames,Code.isFrame]
theorem Eu{f:List (Str×Value)}:(A.under (.builtin "type.__call__" ⟨.ref C::us,f⟩)).guards=A.guards:=by
 have e:(Code.builtin "type.__call__" ⟨.ref C::us,f⟩).isGuard=false:=by show guardIds.contains "type.__call__"=false;decide+kernel
 obtain⟨a,b,c,g,d⟩:=A;cases g<;>simp[Around.under,Code.guards,e,pushGuards]
theorem Aq.make(r:Aq (k+1) A)(C:Addr)(us:List Value)(a:List (Str×Value)):Aq k (A.under (.builtin "type.__call__" ⟨.ref C::us,a⟩)):=
 ⟨r.hd,by have:=r.dp;rw[Ft];lia,by have:=r.un;rw[Fu];lia,by rw[Eu];exact r.gd⟩
theorem Aq.depth(r:Aq k A):A.depth<recursionLimit:=by have:=r.dp;lia
theorem Aq.units(r:Aq k A):A.units+64<cLine:=by have:=r.un;lia
theorem Aq.IM(r:Aq k A):A.units<cLine:=by have:=r.un;lia
def Ls:TA:=fun _ H Q=>Q [] H
def Fv(b:TE)(tr:TA):TA:=fun a H Q=>b a H fun x c=>tr a c fun xs d=>Q (x::xs) d
variable{es:List Expr}{t:TA}
section
variable {pos:Pos}
theorem AI:PA X [] Ls:=fun _ _ _ _ H Q I h=>Calls.spliced_nil ⟨[],H,I,.nil,h⟩
theorem AA(c:PE X e te)(d:PA X es t)(f:starEach (e::es) X.env=(false,eval e X.env)::starEach es X.env:=by rfl):PA X (e::es) (Fv te t):=by
 intro pos pins s b H Q I h;rw[f];show wpAny _ _ (spliced ((false,eval e X.env)::backTo pos (starEach es X.env))) _ _ s;refine Calls.spliced_cons (Aw (c pins s b H _ I h) fun u g a=>a.elim fun x i j k l=>?_);exact Aw (d pos pins g b i _ j l) fun q r a=>a.elim fun xs m n o p=>⟨x::xs,m,n,.cons k o,p⟩
def gD(t:TA):TE:=fun a H Q=>t a H fun xs b=>xs.length<=sizeLine/\Uk b (.tup xs) Q
def gE(t:TA):TE:=fun a H Q=>t a H fun xs b=>xs.length<=sizeLine/\Uk b (.lst xs) Q
theorem AM{l}(h:PA X es t):PE X (.Tuple es l pos) (gD t):=by
 intro pins s g H Q I i;refine wpAny_Tuple_spliced (Aw (h pos pins s g H _ I i) fun j a ⟨xs,c,d,r,z,q⟩=>⟨by rw[<-r.length];exact z,?_⟩);have k:c a.heap.objs.size=none:=d.Al.fresh (Nat.le_refl _);refine⟨.ref a.heap.objs.size,upd c a.heap.objs.size (.tup xs),d.laid (t':=a.toks) (fun b u e=>Heap.get?_push_of_some _ e) (Nat.le_refl _) ?_,rfl,q _ k⟩;exact⟨z,j,r,⟨_,Heap.get?_push_size _ rfl,rfl,_,rfl⟩⟩
theorem BB(h:PA X es t):PE X (.List es pos) (gE t):=by
 intro pins s f H Q I g;refine wpAny_List_spliced (Aw (h pos pins s f H _ I g) fun i a ⟨xs,c,d,r,z,q⟩=>⟨by rw[<-r.length];exact z,?_⟩);have j:c a.heap.objs.size=none:=d.Al.fresh (Nat.le_refl _);refine⟨.ref a.heap.objs.size,upd c a.heap.objs.size (.lst xs),d.laid (t':=a.toks) (fun b u e=>Heap.get?_push_of_some _ e) (Nat.le_refl _) ?_,rfl,q _ j⟩;exact⟨z,i,0,r,Heap.get?_push_size _ rfl⟩
end
abbrev Sp:=List V->Hp->VK->XK->Prop
abbrev HZ:=List Env->Hp->Shared->XK->Value->Shared->Prop
structure Fw(P:Program)(w:World)(K:qG)(mg:Str->Option Value)(base:Heap)(A:Around)(outer:List Env)(s:Shared)(H:Hp):Prop where
 frames:A.frames=some outer
 mod:Mod K mg base
 bs:∀b o,base.get? b=some o->s.heap.get? b=some o/\H b=none
 PN:base.objs.size<=s.heap.objs.size
 Cz:s.heap.FunFrames base outer
 Qz:∀b∈II outer,H b=none
 Al:Cf P w H s.heap
 bare:AllBare s.gens
inductive CE(outer:List Env)(P:Program)(w:World)(H:Hp)(s:Shared)(Q:VK)(u:Value)(s':Shared):Prop
 |mk(v:V)(a:Hp)(os:s'.os=s.os)(bare:AllBare s'.gens)(un:Un (II outer) [] H a s.heap s'.heap)(b:Cf P w a s'.heap)(r:RelV v u)(q:Q v a)
def CR(CX:HZ)(outer:List Env)(P:Program)(w:World)(H:Hp)(s:Shared)(Q:VK)(E:XK)(r:Result)(s':Shared):Prop:=
 match r with
 | .ok (.ret u)=>CE outer P w H s Q u s'
 | .ok _=>False
 | .error e=>CX outer H s E e s'
structure AV(P:Program)(w:World)(K:qG)(mg:Str->Option Value)(base:Heap)(CX:HZ)(k:Nat)(f:Addr)(fd:FuncData)(ps:List Str)(sp:Sp):Prop where
 len:∀vs H Q E,sp vs H Q E->vs.length=ps.length
 run:∀(A:Around)(outer:List Env)(s:Shared)(H:Hp)(args:Args)(us:List Value)(vs:List V)(Q:VK)(E:XK),Aq k A->Fw P w K mg base A outer s H->BindsTo s fd args (ps.zip us)->Vals vs us->sp vs H Q E->
  codeAny (model P w) A (.call (.ref f) args) (CR CX outer P w H s Q E) s
theorem AV.mono{P:Program}{w:World}{K:qG}{mg:Str->Option Value}{base:Heap}{CX:HZ}{j k:Nat}{f:Addr}{a:FuncData}{ps:List Str}{sp:Sp}(F:AV P w K mg base CX j f a ps sp)(h:j<=k):
  AV P w K mg base CX k f a ps sp:=⟨F.len,fun A outer s H args b c Q E d=>F.run A outer s H args b c Q E (d.mono h)⟩
variable{mg:Str->Option Value}{ps:List Str}{base:Heap}{CX:HZ}{sp:Sp}
theorem AV.imp{f:Addr}{b:FuncData}{a:Sp}(F:AV P w K mg base CX k f b ps sp)(h:∀vs H Q E,a vs H Q E->sp vs H Q E):AV P w K mg base CX k f b ps a:=
 ⟨fun vs H Q E q=>F.len vs H Q E (h _ _ _ _ q),fun A outer s H args c vs Q E d e g i j=>F.run A outer s H args c vs Q E d e g i (h _ _ _ _ j)⟩
variable{outer:List Env}
theorem Fw.make(e:Fw P w K mg base A outer s H)(C:Addr)(us:List Value)(a:List (Str×Value)):
  Fw P w K mg base (A.under (.builtin "type.__call__" ⟨.ref C::us,a⟩)) outer s H:=⟨by first|exact e.frames|(simpa[Around.under,Code.envs,Code.isFrame,pushEnvs]using e.frames),e.mod,e.bs,e.PN,e.Cz,e.Qz,e.Al,e.bare⟩
section
theorem Inv.Pa(I:Inv X pins σ H s):Fw X.prog X.w X.K X.mg X.base X.A X.stack s H:=
 ⟨I.ok.frames,I.ok.mod,I.bs,Nat.le_trans I.ok.PN I.sz,I.stack,I.DP,I.Al,I.bare⟩
theorem Inv.after{Q:VK}(I:Inv X pins σ H s)(h:CE X.stack X.prog X.w H s Q u s'):EP X pins σ Q u s':=by
 obtain⟨v,e,os,bare,un,a,r,q⟩:=h;obtain⟨f,g,d,t,c⟩:=s';obtain rfl:c=s.os:=os;exact⟨v,e,I.call (h':=f) (g':=g) (d':=d) (t':=t) (ch:=[]) un a bare (fun b z=>absurd z (by simp)),r,q⟩
end
def XY(sp:Sp)(a:List V)(E:XK)(t:TA):TE:=fun b H Q=>t b H fun c d=>sp (c++a) d Q E
def bo(C:Addr)(m:Str)(sp:Sp)(b:List V)(E:XK)(e:TE)(t:TA):TE:=fun c H Q=>e c H fun x d=>∃a f fs,x=.ref a/\d a=some (.ins C f fs)/\fs.lookup m=none/\
 t c d fun g h=>sp (x::(g++b)) h Q E
def bp(C:Addr)(sp:Sp)(b:List V)(E:XK)(t:TA):TE:=fun d H Q=>t d H fun e c=>∀x a,c x=none->c a=none->a≠x->
 sp (.ref x::(e++b)) (upd (upd c a (.own x)) x (.ins C a [])) (fun v f=>v=.Ae/\Q (.ref x) f) E
def Binds(K:qG)(c:FuncData)(ps:List Str)(b:List Value):Prop:=
 ∀(s:Shared)(a:List Value),K.In s.heap->(a++b).length=ps.length->BindsTo s c ⟨a,[]⟩ (ps.zip (a++b))
theorem Binds.all{a:FuncData}(h:∀us:List Value,us.length=ps.length->bindArgs a ⟨us,[]⟩=pure (ps.zip us)):Binds K a ps []:=fun s us _ b=>by
 rw[List.append_nil]at b⊢;exact .of_eq (h us b)
def Passes(CX:HZ)(X:Cx)(E:XK):Prop:=∀(pins:List (Addr×Obj))(b:St)(H:Hp)(s:Shared)(e:Value)(a:Shared),Inv X pins b H s->CX X.stack H s E e a->X.xe e a
variable{vs:List V}{fd:FuncData}
section
variable {f:Addr} {Lu:List V} {ds:List Value} {E:XK} {x:Str} {pos apos:Pos} {o:Expr} 
theorem Lv{b:St}{Q:VK}(F:AV X.prog X.w X.K X.mg X.base CX k f fd ps sp)(d:Aq k X.A)(g:Binds X.K fd ps ds)(i:Vals Lu ds)(j:Passes CX X E)(I:Inv X pins b H s)(r:Vals vs us)(h:sp (vs++Lu) H Q E):wpAny (model X.prog X.w) X.A (call (.ref f) us) (EP X pins b Q) X.xe s:=by
 have c:Vals (vs++Lu) (us++ds):=r.append i;have l:(us++ds).length=ps.length:=by rw[<-c.length];exact F.len _ _ _ _ h
 refine wpAny_call (codeAny_mono (F.run X.A X.stack s H ⟨us,[]⟩ (us++ds) (vs++Lu) Q E d I.Pa (g s us I.CH l) c h) fun r n a=>?_);cases r with
 |error e=>exact j pins b H s e n I a
 |ok q=>
  cases q with
  |ret u=>exact I.after a
  |next=>exact False.elim a
  |brk=>exact False.elim a
  |cont=>exact False.elim a
theorem IQ(F:AV X.prog X.w X.K X.mg X.base CX k f fd ps sp)(d:Aq k X.A)(g:Gl X x)(i:X.mg x=some (.ref f))(j:PySem.W.keepIn X.K (.ref f)=true)(l:Binds X.K fd ps ds)(n:Vals Lu ds)(u:Passes CX X E)(v:PA X (e::es) t)(a:(x==("__debug__":Str))=false:=by decide)(y:starEach (e::es) X.env=(false,eval e X.env)::starEach es X.env:=by rfl)(b:(backTo pos (starEach es X.env)).any (·.1)=false:=by rfl):
  PE X (.Call (.Name x p) (e::es) [] pos) (XY sp Lu E t):=by
 intro pins s z H Q I h;refine wpAny_Call_Name_kw (Bv I g i ?_ a);refine PySem.W.callWith_K (h₀:=X.base) I.ok.mod.Qy j (Aw (v pos pins s z H _ I h) fun D G B=>B.elim fun J L c r q=>⟨c.CH,?_⟩) y b;exact Lv F d l n u c r q
theorem RM(i:PE X o ta)(c:DW X.K C)(d:Meth X.K C m f)(F:AV X.prog X.w X.K X.mg X.base CX k f fd ps sp)(j:Aq k X.A)(n:Binds X.K fd ps ds)(r:Vals Lu ds)(v:Passes CX X E)(y:eval (.Call (.Attribute o m apos) [] [] pos) X.env=(do
   let g<-eval o X.env
   standAt apos.atName
   let(f,first)<-holding [g] (getMethod g m pl)
   callWith pos f first (backTo pos (starEach [] X.env)) (backToKw pos (keywordEach [] X.env))):=by rfl):
  PE X (.Call (.Attribute o m apos) [] [] pos) (bo C m sp Lu E ta Ls):=by
 intro pins s z H Q I h;refine PySem.W.methodCall_KW (pl:=pl) (Aw (i pins s z H _ I h) fun u J ⟨x,L,b,B,a,M,fs,D,G,l,q⟩=>?_) y;subst D;obtain rfl:u=Value.ref a:=B;refine Fs b G c d l ?_;exact PySem.W.callWith_K0 (first:=[.ref a]) b.CH d.kp (Lv (us:=[.ref a]) (vs:=[.ref a]) F j n r v b (.cons rfl .nil) q)
structure Mk(K:qG)(C f:Addr):Prop where
 makes:PySem.W.makesIn K C=true
 init:PySem.W.findIn K (.ref C) "__init__"=some (some (.ref f))
 fn:PySem.W.isFn K (.ref f)=true
 kp:PySem.W.keepIn K (.ref C)=true
theorem RN{Q:VK}(M:Mk X.K C f)(F:AV X.prog X.w X.K X.mg X.base CX k f fd ps sp)(j:Aq (k+1) X.A)(l:Binds X.K fd ps ds)(n:Vals Lu ds)(q:Passes CX X E)(I:Inv X pins d H s)(r:Vals vs us)(h:∀x b,H x=none->H b=none->b≠x->sp (.ref x::(vs++Lu)) (upd (upd H b (.own x)) x (.ins C b [])) (fun v y=>v=.Ae/\Q (.ref x) y) E):
  wpAny (model X.prog X.w) X.A (call (.ref C) us) (EP X pins d Q) X.xe s:=by
 have g:=h (s.heap.objs.size+1) s.heap.objs.size (I.Al.fresh (Nat.le_succ _)) (I.Al.fresh (Nat.le_refl _)) (Nat.ne_of_lt (Nat.lt_succ_self _));have c:=Inv.made (C:=C) I;have i:Vals (V.ref (s.heap.objs.size+1)::(vs++Lu)) (Value.ref (s.heap.objs.size+1)::(us++ds)):=.cons rfl (r.append n);have z:(Value.ref (s.heap.objs.size+1)::us++ds).length=ps.length:=by
  have e:=i.length;rw[F.len _ _ _ _ g]at e;exact e.symm
 refine wpAny_call (KH (f:=f) I.CH M.makes M.init (beq_iff_eq.mp M.fn) (codeAny_mono (F.run _ X.stack _ _ ⟨Value.ref (s.heap.objs.size+1)::us,[]⟩ (Value.ref (s.heap.objs.size+1)::(us++ds)) _ _ E (j.make C us []) (c.Pa.make C us []) (l _ (Value.ref (s.heap.objs.size+1)::us) c.CH z) i g) fun r B a=>?_));cases r with
 |error e=>exact q pins d _ _ e B c a
 |ok D=>
  cases D with
  |ret u=>
   obtain⟨v,G,J,L,N,O⟩:=c.after a;subst N;exact⟨L,⟨V.ref (s.heap.objs.size+1),G,J,rfl,O⟩⟩
  |next=>exact False.elim a
  |brk=>exact False.elim a
  |cont=>exact False.elim a
theorem Bw(M:Mk X.K C f)(F:AV X.prog X.w X.K X.mg X.base CX k f fd ps sp)(d:Aq (k+1) X.A)(g:Gl X x)(i:X.mg x=some (.ref C))(j:Binds X.K fd ps ds)(l:Vals Lu ds)(n:Passes CX X E)(u:PA X (e::es) t)(a:(x==("__debug__":Str))=false:=by decide)(v:starEach (e::es) X.env=(false,eval e X.env)::starEach es X.env:=by rfl)(b:(backTo pos (starEach es X.env)).any (·.1)=false:=by rfl):
  PE X (.Call (.Name x p) (e::es) [] pos) (bp C sp Lu E t):=by
 intro pins s y H Q I h;refine wpAny_Call_Name_kw (Bv I g i ?_ a);refine PySem.W.callWith_K (h₀:=X.base) I.ok.mod.Qy M.kp (Aw (u pos pins s y H _ I h) fun B D z=>z.elim fun G J c r q=>⟨c.CH,?_⟩) v b;exact RN M F d j l n c r q
end
section
variable {f:Addr} {ks:List Str} {E:XK} {x:Str} {pos apos lC:Pos} {o:Expr} {oR:List Keyword} {tk:TA} {nm:Option Str}
variable{g:List Value->List Value->List Value} {gV:List V->List V->List V}
end
structure BO(N P:List Str)(sc:Scope):Prop where
 kind:sc.kind=.function:=by rfl
 co:sc.isCoroutine=false:=by rfl
 gen:sc.isGenerator=false:=by rfl
 nd:N.Nodup:=by decide+kernel
 pre:N.take P.length=P:=by rfl
 par:∀x∈P,sc.names.lookup x=some .local∨sc.names.lookup x=some .cell:=by decide+kernel
 YQ:∀y∈sc.names,y.2≠.free:=by decide+kernel
theorem Hb{kindOf:Str->Option NameKind}{x:Str}:∀{binds:List (Str×Value)}{j:Str->Option Value},(∀v,(x,v)∉binds)->bindL kindOf binds j x=j x
 |[],_,_=>rfl
 |(n,v)::r,j,h=>by
  unfold bindL;rw[Hb fun w hw=>h w (List.mem_cons_of_mem _ hw)];split
  ·have:x≠n:=by rintro rfl;exact h v List.mem_cons_self
   simp[this]
  ·rfl
theorem Hc{kindOf:Str->Option NameKind}{x:Str}:∀{binds:List (Str×Value)}{j:Str->Option Value},(∀v,(x,v)∉binds)->bindC kindOf binds j x=j x
 |[],_,_=>rfl
 |(n,v)::r,j,h=>by
  unfold bindC;rw[Hc fun w hw=>h w (List.mem_cons_of_mem _ hw)];split
  ·rfl
  ·have:x≠n:=by rintro rfl;exact h v List.mem_cons_self
   simp[this]
theorem Hd{kindOf:Str->Option NameKind}{x:Str}{v:Value}:∀{j:List Str}{l:List Value}{i:Nat}{q:Str->Option Value},j.Nodup->j[i]?=some x->l[i]?=some v->kindOf x=some .local->
  bindL kindOf (j.zip l) q x=some v
 |[],_,_,_,_,h,_,_=>by simp at h
 |_::_,[],_,_,_,_,h,_=>by simp at h
 |p::j,w::l,0,q,c,a,b,d=>by
  simp at a b;subst a;subst b;show bindL kindOf ((p,w)::j.zip l) q p=_;unfold bindL;rw[Hb fun v e=>(List.nodup_cons.mp c).1 (List.of_mem_zip e).1,if_pos d];simp
 |p::j,w::l,i+1,q,c,a,b,d=>by
  show bindL kindOf ((p,w)::j.zip l) q x=_;unfold bindL;exact Hd (i:=i) (List.nodup_cons.mp c).2 (by simpa using a) (by simpa using b) d
theorem Hg{kindOf:Str->Option NameKind}{x:Str}{v:Value}:∀{j:List Str}{l:List Value}{i:Nat}{q:Str->Option Value},j.Nodup->j[i]?=some x->l[i]?=some v->kindOf x≠some .local->
  bindC kindOf (j.zip l) q x=some v
 |[],_,_,_,_,h,_,_=>by simp at h
 |_::_,[],_,_,_,_,h,_=>by simp at h
 |p::j,w::l,0,q,c,a,b,d=>by
  simp at a b;subst a;subst b;show bindC kindOf ((p,w)::j.zip l) q p=_;unfold bindC;rw[Hc fun v e=>(List.nodup_cons.mp c).1 (List.of_mem_zip e).1,if_neg d];simp
 |p::j,w::l,i+1,q,c,a,b,d=>by
  show bindC kindOf ((p,w)::j.zip l) q x=_;unfold bindC;exact Hg (i:=i) (List.nodup_cons.mp c).2 (by simpa using a) (by simpa using b) d
def start(N:List Str)(vs:List V):St:=vs.map some++List.replicate (N.length-vs.length) none
def CO(CX:HZ)(P:Program)(w:World)(K:qG)(mg:Str->Option Value)(base:Heap)(N:List Str)(qual:Str)(scope:Scope)(f:Addr)(cd:Value)(A:Around)(outer:List Env)(s:Shared)(H:Hp)(E:XK):Cx where
 prog:=P
 w:=w
 K:=K
 mg:=mg
 base:=base
 A:=A.deeper (envOfC qual scope s.heap.objs.size f cd)
 N:=N
 s₀:=s
 H₀:=H
 env:=envOfC qual scope s.heap.objs.size f cd
 outer:=outer
 stack:=envOfC qual scope s.heap.objs.size f cd::outer
 ex:=[]
 calm:=true
 fn:=fun _=>true
 pn:=[]
 xe:=fun e s'=>wpAny (model P w) (A.deeper (envOfC qual scope s.heap.objs.size f cd)) (leaving (envOfC qual scope s.heap.objs.size f cd) e) (fun _ ej=>CX outer H s E e ej) (fun e' ej=>CX outer H s E e' ej) s'
theorem KI{a:Scope}{x:Str}(h:a.names.lookup x=some .cell):∃c,(cellsFrom n a.names []).lookup x=some c:=by
 have q:=PySem.W.cellsFrom_some a.names n [] (.inl h);exact Option.isSome_iff_exists.mp q
variable{scope:Scope}
theorem Hh{qual:Str}{f:Addr}{t:Value}{D:Shared}{E:XK}(S:BO N ps scope)(I:A.handled=none)(g:Fw P w K mg base A outer s H)(O:vs.length=ps.length)(r:Vals vs us)(x:InCallC s s.heap.objs.size (bindL (envOfC qual scope s.heap.objs.size f t).kindOf (ps.zip us) fun _=>none) (cellsFrom (s.heap.objs.size+1) scope.names []) (bindC (envOfC qual scope s.heap.objs.size f t).kindOf (ps.zip us) fun _=>none) D):
  Inv (CO CX P w K mg base N qual scope f t A outer s H E) [] (start N vs) H D:=by
 have J:ps.length<=N.length:=by have:=congrArg List.length S.pre;rw[List.length_take]at this;lia
 obtain⟨B,Q,rfl,F⟩:=x.done;have j:∀b:Addr,b∉(CO CX P w K mg base N qual scope f t A outer s H E).ex:=fun b z=>absurd (show b∈([]:List Addr)from z) (by simp);refine⟨⟨g.mod,S.kind,rfl,rfl,Nat.le_refl _,fun y z c B d=>?_,fun y l=>?_,fun y c _ h=>?_,fun _=>I,Around.frames_deeper g.frames,.inr ⟨rfl,rfl⟩,fun b z=>absurd z (j b),g.bs,g.PN,fun b _ _=>j b,fun b z=>absurd z (j b),g.Cz,g.Qz⟩,
  rfl,g.bare,Un.kept F,⟨_,x.toInCall.ns,fun i y v B d R=>?_⟩,fun y c h=>⟨_,x.cell y c h⟩,g.Al.fresh (Nat.le_refl _),fun y c h=>?_,fun p m=>absurd (show p∈([]:List (Addr×Obj))from m) (by simp),g.Al.kept F,?_⟩
 ·exact name_of_addr x.apart (PySem.mem_of_lookup B) (PySem.mem_of_lookup d)
 ·have l:scope.names.lookup y=some .cell∨scope.names.lookup y=some .free:=l;rcases l with l|l
  ·exact KI l
  ·exact absurd rfl (S.YQ _ (PySem.mem_of_lookup l))
 ·exact Nat.le_of_lt (x.above y c (PySem.mem_of_lookup h))
 ·have C:i<vs.length:=by
   unfold start at d;by_cases C:i<vs.length
   ·exact C
   ·rw[List.getElem?_append_right (by simpa using C)]at d;rw[List.getElem?_replicate]at d;split at d<;>cases d
  have L:vs[i]?=some v:=by
   unfold start at d;rw[List.getElem?_append_left (by simpa using C),List.getElem?_map]at d;cases e:vs[i]? with
   |none=>rw[e]at d;cases d
   |some a=>rw[e]at d;cases d;rfl
  obtain⟨u,G,M⟩:=r.get L;have m:ps[i]?=some y:=by
   rw[<-S.pre,List.getElem?_take_of_lt (by lia)];exact B
  have o:ps.Nodup:=by rw[<-S.pre];exact S.nd.sublist (List.take_sublist _ _)
  refine⟨u,M,?_⟩;rcases S.par y (qF m)with k|k
  ·exact .inl ⟨k,Hd o m G k⟩
  ·obtain⟨c,e⟩:=KI (n:=s.heap.objs.size+1) k;refine .inr ⟨.inl k,c,e,?_⟩;have q:=x.cell y c e;rw[Hg o m G (by show scope.names.lookup y≠_;rw[k];decide)]at q;exact q
 ·exact g.Al.fresh (Nat.le_of_lt (x.above y c (PySem.mem_of_lookup h)))
 ·unfold start;show _=N.length;rw[List.length_append,List.length_map,List.length_replicate];lia
theorem XZ{f:Addr}{name qual:Str}{params:Arguments}{G kV j L a ct T:Value}{M od:Option Addr}{p:Array (Option Value)}(lk:K.lookup f=some ⟨T,od,.func (PySem.W.fnOf name qual params body scope G kV j L M a ct),p⟩)(z:PySem.W.codeIn K a qual=true)(S:BO N ps scope)(len:∀vs H Q E,sp vs H Q E->vs.length=ps.length)(g:∀(A:Around) (outer:List Env) (s:Shared) (H:Hp) (vs:List V) (Q:VK) (E:XK),Aq k (A.deeper (envOfC qual scope s.heap.objs.size f a))->sp vs H Q E->
   ∃t,G' (CO CX P w K mg base N qual scope f a A outer s H E) body t/\t {nx:=fun _ d=>Q .Ae d,rt:=Q} (start N vs) H):
  AV P w K mg base CX (k+1) f (PySem.W.fnOf name qual params body scope G kV j L M a ct) ps sp:=by
 refine⟨len,fun A outer s H args U vs Q E B l X r m=>?_⟩;have Y:=len _ _ _ _ m;have O:K.In s.heap:=l.mod.Qy.keeps fun b o e=>(l.bs b o e).1;have C:s.heap.NoLimit:=l.mod.nolimit.keeps fun b o e=>(l.bs b o e).1;have h:∀y∈ps.zip U,scope.names.lookup y.1=some .local∨(scope.names.lookup y.1=some .cell/\((cellsFrom (s.heap.objs.size+1) scope.names []).lookup y.1).isSome=true):=fun⟨n,v⟩ Z=>by
  rcases S.par n (List.of_mem_zip Z).1 with q|q
  ·exact .inl q
  ·exact .inr ⟨q,PySem.W.cellsFrom_some _ _ _ (.inl q)⟩
 refine codeAny_call_function B.depth (O _ _ lk) rfl S.co S.gen rfl (PySem.W.codeRec_of O z) (X _ _ _ _ ?_);refine wpAny_newFunctionEnv_cells S.kind h fun env he R x=>?_;subst he;refine⟨C.keeps x.toInCall.keep,codeAny_func ?_⟩;obtain⟨t,ht,hq⟩:=g A outer s H vs Q E (B.deeper _) m;have I:Inv (CO CX P w K mg base N qual scope f a A outer s H E) [] (start N vs) H R:=Hh S B.hd l Y r x;refine wpAny_mono (ht [] R (start N vs) H _ I hq) (fun fl D i=>?_) fun e D i=>i;have fin:∀{c:St}{d:Hp}{v:V}{u:Value},Inv (CO CX P w K mg base N qual scope f a A outer s H E) [] c d D->RelV v u->Q v d->CE outer P w H s Q u D:=
  fun{c d v u} J F q=>⟨v,d,J.os,J.bare,J.base,J.Al,F,q⟩
 cases fl with
 |ret u=>
  obtain⟨v,c,d,J,F,q⟩:=i;exact fin J F q
 |next=>
  obtain⟨c,d,J,q⟩:=i;exact fin (v:=V.Ae) (u:=Value.none) J rfl q
 |brk=>
  obtain⟨_,_,_,q⟩:=i;exact False.elim q
 |cont=>
  obtain⟨_,_,_,q⟩:=i;exact False.elim q
section
variable {x:Str} {pos:Pos} {id T:String} {r:List V->Hp->VK->Prop}
def el(r:List V->Hp->VK->Prop)(t:TA):TE:=fun a H Q=>t a H fun b c=>r b c Q
theorem An(d:BG X (.builtin id) r)(f:Gl X x)(g:X.mg x=none)(i:bootBuiltins x=some (.builtin id))(j:PA X (e::es) t)(k:x≠"__name__":=by decide)(a:(x==("__debug__":Str))=false:=by decide)(l:starEach (e::es) X.env=(false,eval e X.env)::starEach es X.env:=by rfl)(b:(backTo pos (starEach es X.env)).any (·.1)=false:=by rfl):PE X (.Call (.Name x p) (e::es) [] pos) (el r t):=by
 intro pins s c H Q I h;refine wpAny_Call_Name_kw (ET I f g i ?_ k a);exact PyProof.Rows.callWith_builtin1 (Aw (j pos pins s c H _ I h) fun m n o=>o.elim fun q u v w y=>d pins n c u q m Q v w y) l b
theorem Bk(d:BG X (.type T) r)(f:Gl X x)(g:X.mg x=none)(i:bootBuiltins x=some (.type T))(j:PA X (e::es) t)(k:x≠"__name__":=by decide)(a:(x==("__debug__":Str))=false:=by decide)(l:starEach (e::es) X.env=(false,eval e X.env)::starEach es X.env:=by rfl)(b:(backTo pos (starEach es X.env)).any (·.1)=false:=by rfl):PE X (.Call (.Name x p) (e::es) [] pos) (el r t):=by
 intro pins s c H Q I h;refine wpAny_Call_Name_kw (ET I f g i ?_ k a);exact PyProof.Rows.callWith_type1 (Aw (j pos pins s c H _ I h) fun m n o=>o.elim fun q u v w y=>d pins n c u q m Q v w y) l b
end
end L2
namespace HT
open PySem PyProof.Rows
section
open PySem.SeqAt
open PySem.AutoSeq1 (wpAny_loadPart')
open PySem.MeetsSeq PySem.MeetsSeq2 PySem.MeetsSeq3
end
variable{Q:Value->Shared->Prop}
section
variable{prog:Program} {w:World} {A:Around} {E:Value->Shared->Prop} {s:Shared}
theorem U'{t b:Addr}{vs a:List Value}(u:IsTup s.heap t vs.toArray)(v:IsTup s.heap b a.toArray)(k:vs≠[])(x:a=[]->Q (.ref t) s)(y:a≠[]->Q (.ref s.heap.objs.size) {s with heap:=s.heap.push {cls:=.type "tuple",data:=.seq (vs++a).toArray}})(j:vs.length+a.length<=sizeLine):wpAny (model prog w) A (binaryOp .Add (.ref t) (.ref b)) Q E s:=by
 obtain⟨⟨cls,l,data,m⟩,i,o,n,p⟩:=id u;obtain⟨⟨q,d,data2,f⟩,c,g,r,h⟩:=id v;simp only at o p g h;subst o p g h;have e:vs.toArray++a.toArray=(vs++a).toArray:=by simp
 by_cases hw:a=[]
 ·exact concat_meets ⟨_,i,rfl⟩ ⟨_,c,rfl⟩ noFill_tuple_add seq_tuple_add PySem.F.slot_tuple_add PySem.F.entry_tuple_add (PySem.F.args_tuple_add_2 _ _) (tuple_addW1 t b vs.toArray a.toArray n r l d m f (by simpa using k) (by simp[hw])) ⟨i,c,x hw⟩
 ·refine concat_meets ⟨_,i,rfl⟩ ⟨_,c,rfl⟩ noFill_tuple_add seq_tuple_add PySem.F.slot_tuple_add PySem.F.entry_tuple_add (PySem.F.args_tuple_add_2 _ _) (tuple_addW2 t b vs.toArray a.toArray n r l d m f (by simpa using k) (by simpa using hw) (by rw[List.size_toArray,List.size_toArray];exact j)) ⟨i,c,?_⟩;rw[e];exact y hw
noncomputable def BI(n d:Nat):Option Int->Nat
 |none=>d
 |some v=>if v<0 then(v+(n:Int)).toNat else min v.toNat n
theorem VA(n d k:Nat):BI n d (some (k:Int))=min k n:=by
 show(if(k:Int)<0 then((k:Int)+(n:Int)).toNat else min (k:Int).toNat n)=min k n;rw[if_neg (by lia),Int.toNat_natCast]
theorem YR(n d:Nat)(b:d<=n)(o:Option Int):BI n d o<=n:=by
 cases o with
 |none=>exact b
 |some v=>
  show(if v<0 then(v+(n:Int)).toNat else min v.toNat n)<=n;by_cases a:v<0
  ·rw[if_pos a];lia
  ·rw[if_neg a];exact Nat.min_le_right _ _
theorem Nn(v:Int)(n d:Nat):(if v<0 then max (v+(n:Int)) 0 else min v (n:Int))=((BI n d (some v):Nat):Int):=by
 show(if v<0 then max (v+(n:Int)) 0 else min v (n:Int))=(((if v<0 then(v+(n:Int)).toNat else min v.toNat n):Nat):Int);by_cases a:v<0
 ·simp only[if_pos a];exact(Int.toNat_eq_max _).symm
 ·simp only[if_neg a];obtain⟨m,rfl⟩:=Int.eq_ofNat_of_zero_le (Int.not_lt.mp a);show min (m:Int) (n:Int)=((min m n:Nat):Int);by_cases h:m<=n
  ·rw[Nat.min_eq_left h,Int.min_eq_left (Int.ofNat_le.mpr h)]
  ·rw[Nat.min_eq_right (Nat.le_of_not_le h),Int.min_eq_right (Int.ofNat_le.mpr (Nat.le_of_not_le h))]
theorem Lw(lo a:Option Int)(n:Nat):Builtin.Slice.sliceAdjust lo a 1 (n:Int)=(((BI n 0 lo:Nat):Int),((BI n n a:Nat):Int)):=by
 have b:¬((1:Int)<0):=by lia
 unfold Builtin.Slice.sliceAdjust;simp only[b,if_false];refine Prod.ext ?_ ?_
 ·cases lo with
  |none=>rfl
  |some v=>exact Nn v n 0
 ·cases a with
  |none=>rfl
  |some v=>exact Nn v n n
theorem Lx(i j:Nat):Builtin.Slice.slicePlaces (i:Int) (j:Int) 1=j-i:=by
 unfold Builtin.Slice.slicePlaces;have a:(1:Int)>0:=by lia
 simp only[a,if_true,Int.ediv_one];split<;>lia
theorem Fx{v:Value}{o:Option Int}{Q:Option Int->Shared->Prop}(p:IsPart v o)(h:Q o s):wpAny (model prog w) A (Builtin.Slice.slicePartIndex v) Q E s:=by
 cases p with
 |none=>exact slicePart_none h
 |int i t=>exact slicePart_int h
theorem CP{f:Addr}{d e:Value}{lo a:Option Int}{n:Nat}{Q:Int×Int×Nat->Shared->Prop}(g:s.heap.IsSliceOf f d e .none)(pl:IsPart d lo)(i:IsPart e a)(h:Q (((BI n 0 lo:Nat):Int),1,BI n n a-BI n 0 lo) s):wpAny (model prog w) A (Builtin.Slice.sliceApplied (.ref f) (pure (n:Int))) Q E s:=by
 obtain⟨os,b,j,c⟩:=id g;unfold Builtin.Slice.sliceApplied Builtin.Slice.sliceFields;refine wpAny_bind (wpAny_bind (wpAny_field b c (x:=d) rfl (wpAny_bind (wpAny_field b c (x:=e) rfl (wpAny_bind (wpAny_field b c (x:=.none) rfl (wpAny_pure ?_)))))));refine wpAny_bind (slicePart_none ?_);show wpAny _ _ (if((1:Int)==0)=true then _ else _) _ _ s;rw[if_neg (by decide)];refine wpAny_bind (Fx pl (wpAny_bind (Fx i (wpAny_bind (wpAny_pure ?_)))));show wpAny _ _ (match Builtin.Slice.sliceAdjust lo a 1 (n:Int)with|(lo,a)=>pure (lo,(1:Int),Builtin.Slice.slicePlaces lo a 1)) _ _ s;rw[Lw lo a n];show wpAny _ _ (pure (((BI n 0 lo:Nat):Int),(1:Int),Builtin.Slice.slicePlaces ((BI n 0 lo:Nat):Int) ((BI n n a:Nat):Int) 1)) _ _ s;rw[Lx];exact wpAny_pure h
theorem RO(xs:Array Value)(i k:Nat):((List.range k).filterMap fun(m:Nat)=>xs[((i:Int)+(m:Int)*1).toNat]?).toArray=((xs.toList.drop i).take k).toArray:=by
 have e:(fun(m:Nat)=>xs[((i:Int)+(m:Int)*1).toNat]?)=fun m=>xs[i+m]?:=by
  funext m;have:((i:Int)+(m:Int)*1).toNat=i+m:=by lia
  rw[this]
 rw[e];have:=pick_run xs i k;rw[List.filterMap_map]at this;have e2:((fun x=>xs[x]?)∘fun x=>i+x)=fun m=>xs[i+m]?:=rfl;rw[e2]at this;rw[this]
theorem Dx{t d:Addr}{items:Array Value}{j k:Value}{lo b:Option Int}(c:IsTup s.heap t items)(l:s.heap.IsSliceOf d j k .none)(pl:IsPart j lo)(n:IsPart k b)(hw:¬(BI items.size 0 lo=0/\BI items.size items.size b=items.size))(h:Q (.ref s.heap.objs.size) {s with heap:=s.heap.push {cls:=.type "tuple",data:=.seq ((items.toList.drop (BI items.size 0 lo)).take (BI items.size items.size b-BI items.size 0 lo)).toArray}})(o:items.size<=sizeLine):wpAny (model prog w) A (getItem (.ref t) (.ref d)) Q E s:=by
 have a:sizeOk (.seq ((items.toList.drop (BI items.size 0 lo)).take (BI items.size items.size b-BI items.size 0 lo)).toArray):=by
  show((items.toList.drop (BI items.size 0 lo)).take (BI items.size items.size b-BI items.size 0 lo)).toArray.size<=sizeLine;rw[List.size_toArray,List.length_take,List.length_drop,Array.length_toList];lia
 have r:BI items.size items.size b<=items.size:=YR _ _ (Nat.le_refl _) b;obtain⟨os,e,f,p⟩:=id l;have g:s.TypeIs (.ref d) "slice":=⟨os,e,f⟩;unfold getItem
 try with_reducible refine wpAny_holding ?_
 first|refine wpAny_bind (wpAny_pure ?_)|skip
 refine wpAny_bind (wpAny_sequenceKey c.typeIs (by decide) ?_);refine wpAny_bind (wpAny_callSpecial?_slot (name:=Str.ofString "__getitem__") c.typeIs PyProof.Rows.slot_tuple_getitem (wpAny_call_entry PyProof.Rows.slot_tuple_getitem c.typeIs entry_tuple_getitem ?_ (args_tuple_getitem _ _)));show wpAny _ _ (Builtin.Tuple.tupleItemsOf (.ref t)>>=_) _ _ s;refine wpAny_bind (tupleItemsOf_ c ?_);refine wpAny_bind (wpAny_typeOf g ?_);rw[if_pos (by decide)];refine wpAny_bind (CP l pl n ?_);have i:¬((((BI items.size 0 lo:Nat):Int)==0&&(1:Int)==1&&(BI items.size items.size b-BI items.size 0 lo)==items.size)=true):=by
  intro q;rw[Bool.and_eq_true,Bool.and_eq_true]at q;have u:((BI items.size 0 lo:Nat):Int)=0:=eq_of_beq q.1.1;have v:BI items.size items.size b-BI items.size 0 lo=items.size:=eq_of_beq q.2;exact hw ⟨by lia,by lia⟩
 show wpAny _ _ (if(((BI items.size 0 lo:Nat):Int)==0&&(1:Int)==1&&(BI items.size items.size b-BI items.size 0 lo)==items.size)=true then _ else _) _ _ s;rw[if_neg i,RO]
 first
  |exact wpAny_bind (m:=Builtin.Tuple.tupleExact _) (wpAny_newObj_type (wpAny_pure ⟨_,rfl,wpAny_pure h⟩) a)
  |exact wpAny_bind (m:=Builtin.Tuple.tupleExact _) (wpAny_newObj_type (wpAny_bind (wpAny_pure (wpAny_pure ⟨_,rfl,wpAny_pure h⟩))) a)
  |exact wpAny_bind (wpAny_bind (m:=Builtin.Tuple.tupleExact _) (wpAny_newObj_type (wpAny_pure (wpAny_pure ⟨_,rfl,wpAny_pure h⟩)) a))
  |exact wpAny_bind (wpAny_bind (m:=Builtin.Tuple.tupleExact _) (wpAny_newObj_type (wpAny_pure ⟨_,rfl,wpAny_pure h⟩) a))
end
end HT
namespace L2
open PySem PySem.Spec PyProof.Rows
abbrev TO:=St->Hp->(Option Int->Hp->Prop)->Prop
def PO(X:Cx)(e:Option Expr)(t:TO):Prop:=
 ∀(pins:List (Addr×Obj))(s:Shared)(a:St)(H:Hp)(Q:Option Int->Hp->Prop),Inv X pins a H s->t a H Q->
  wpAny (model X.prog X.w) X.A (evalPart e X.env) (fun u c=>∃o b,Inv X pins a b c/\IsPart u o/\Q o b) X.xe s
def VB:TO:=fun _ H Q=>Q none H
def bq(t:TE):TO:=fun a H Q=>t a H fun x b=>kq x b Q
variable{X:Cx}{us:List Value}{e:Expr}
section
variable {te:TE} {lo hi:Option Expr} {tl th:TO} {pos p2:Pos}
theorem Dy:PO X none VB:=by
 intro pins s a H Q I h;rw[evalPart_none];exact wpAny_pure ⟨none,H,I,.none,h⟩
theorem Cn(h:PE X e te):PO X (some e) (bq te):=by
 intro pins s a H Q I hw;rw[evalPart_some];refine Aw (h pins s a H _ I hw) fun u j b=>b.elim fun x c d f g=>?_;obtain⟨i,rfl,q⟩:=g;obtain⟨t,rfl⟩:=f;exact⟨some i,c,d,.int i t,q⟩
def br(X:Cx)(r:V->Option Int->Option Int->Hp->VK->Prop):Prop:=
 ∀(pins:List (Addr×Obj))(s:Shared)(a:St)(H:Hp)(x:V)(v b c:Value)(lo hi:Option Int)(d:Addr)(Q:VK),Inv X pins a H s->RelV x v->s.heap.IsSliceOf d b c .none->IsPart b lo->IsPart c hi->r x lo hi H Q->
  ∃T id,typeLookup (.type T) "__getitem__"=pure (some (.builtin id))/\s.TypeIs v T/\wpAny (model X.prog X.w) X.A (getItem v (.ref d)) (EP X pins a Q) X.xe s
def lD(r:V->Option Int->Option Int->Hp->VK->Prop)(te:TE)(tl th:TO):TE:=fun a H Q=>te a H fun x b=>tl a b fun l c=>th a c fun u d=>r x l u d Q
theorem CQ{r:V->Option Int->Option Int->Hp->VK->Prop}(i:br X r)(j:PE X e te)(k:PO X lo tl)(m:PO X hi th):PE X (.Subscript e (.Slice lo hi none p2) pos) (lD r te tl th):=by
 intro pins s c H Q I h;refine Subscript_ (Aw (j pins s c H _ I h) fun v n o=>o.elim fun x p t y z=>?_);refine wpAny_Slice (Aw (k pins n c p _ t z) fun d B ⟨l,C,D,E,F⟩=>Aw (m pins B c C _ D F) fun f a ⟨u,g,G,J,K⟩=>?_);rw[evalPart_none];refine wpAny_pure ?_;have L:Inv X pins c g {a with heap:=a.heap.push {cls:=.type "slice",data:=.fields #[d,f,.none]}}:=G.kept (t':=a.toks) fun b P q=>Heap.get?_push_of_some _ q;obtain⟨T,id,M,N,O⟩:=i pins {a with heap:=a.heap.push {cls:=.type "slice",data:=.fields #[d,f,.none]}} c g x v d f l u a.heap.objs.size Q L y (Heap.IsSliceOf.new ..) E J K;show wpAny (model X.prog X.w) X.A (subscriptTail e (.Slice lo hi none p2) v (.ref a.heap.objs.size)) (EP X pins c Q) X.xe {a with heap:=a.heap.push {cls:=.type "slice",data:=.fields #[d,f,.none]}};exact tail_any (ops:=[.ref a.heap.objs.size,v]) N M O (by with_unfolding_all rfl)
def HF(xs:List V)(lo hi:Option Int):List V:=(xs.drop (HT.BI xs.length 0 lo)).take (HT.BI xs.length xs.length hi-HT.BI xs.length 0 lo)
theorem Ew(xs:List V)(lo hi:Option Int):(HF xs lo hi).length<=xs.length:=by
 unfold HF;rw[List.length_take,List.length_drop];lia
inductive bt(K:qG)(x:V)(lo hi:Option Int)(H:Hp)(Q:VK):Prop
 |mk(a xs:_)(b:x=.ref a)(c:Az K H a xs)(d:¬(HT.BI xs.length 0 lo=0/\HT.BI xs.length xs.length hi=xs.length))(f:∀p,H p=none->Q (.ref p) (upd H p (.tup (HF xs lo hi))))
def gF(K:qG):V->Option Int->Option Int->Hp->VK->Prop:=fun x lo hi H Q=>bt K x lo hi H Q
theorem YS:br X (gF X.K):=by
 intro pins s m H x v n p lo hi t Q I g i j k h;obtain⟨a,xs,rfl,l,hw,q⟩:=h;cases g;obtain⟨c,r,d,f⟩:=I.tuple l;have hlen:c.toArray.size=xs.length:=by rw[List.size_toArray];exact r.length.symm
 refine⟨"tuple",_,PyProof.Rows.slot_tuple_getitem.lookup,d.typeIs,?_⟩;refine HT.Dx d i j k (by rw[hlen];exact hw) ?_ (by rw[hlen];exact f);rw[hlen];refine⟨.ref s.heap.objs.size,_,I.laid (t':=s.toks) (o:=.tup (HF xs lo hi)) (fun b u q=>Heap.get?_push_of_some _ q) (Nat.le_refl _) ?_,rfl,q _ (I.Al.fresh (Nat.le_refl _))⟩;exact⟨Nat.le_trans (Ew xs lo hi) f,_,(r.drop (HT.BI xs.length 0 lo)).take (HT.BI xs.length xs.length hi-HT.BI xs.length 0 lo),IsTup.new _ _⟩
inductive YT(K:qG)(x y:V)(H:Hp)(Q:VK):Prop
 |mk(a b xs ys:_)(c:x=.ref a)(d:y=.ref b)(f:Az K H a xs)(g:Az K H b ys)(h:xs≠[])(i:xs.length+ys.length<=sizeLine)(j:(ys=[]->Q (.ref a) H))(k:(ys≠[]->∀p,H p=none->Q (.ref p) (upd H p (.tup (xs++ys)))))
def bu(K:qG):R2:=fun x y H Q=>YT K x y H Q
theorem Vals.FY{xs:List V}(r:Vals xs us):us=[]↔xs=[]:=by
 cases r with
 |nil=>simp
 |cons _ _=>simp
theorem VC:DC X (binaryOp .Add) (bu X.K):=by
 intro pins s B H x y v u Q I i j h;obtain⟨a,b,xs,k,rfl,rfl,l,m,n,f,p,r⟩:=h;cases i;cases j;obtain⟨t,d,A,_⟩:=I.tuple l;obtain⟨g,c,p2,_⟩:=I.tuple m;refine HT.U' A p2 (fun z=>n (d.FY.mp z)) (fun z=>⟨.ref a,H,I,rfl,p (c.FY.mp z)⟩) (fun z=>?_) (by rw[<-d.length,<-c.length];exact f);refine⟨.ref s.heap.objs.size,_,I.laid (t':=s.toks) (o:=.tup (xs++k)) (fun b C q=>Heap.get?_push_of_some _ q) (Nat.le_refl _) ?_,rfl,r (fun w=>z (c.FY.mpr w)) _ (I.Al.fresh (Nat.le_refl _))⟩;exact⟨by rw[List.length_append];exact f,_,d.append c,IsTup.new _ _⟩
end
def Qv(n:Nat)(i:Int):Option Nat:=if 0<=i then(if i<n then some i.toNat else none)else if-(n:Int)<=i then some (i+n).toNat else none
def Jt{a:Type}(xs:List a)(i:Int):Option a:=(Qv xs.length i).bind fun j=>xs[j]?
variable{n:Nat}
theorem IS{i:Int}{j:Nat}(h:Qv n i=some j):seqIndex? i n=some j/\j<n/\ -(n:Int)<=i/\i<n:=by
 unfold Qv at h;by_cases b:0<=i
 ·rw[if_pos b]at h;by_cases a:i<n
  ·rw[if_pos a]at h;have e:i.toNat=j:=qB h;exact⟨by rw[seqIndex_of b a,e],by lia,by lia,a⟩
  ·rw[if_neg a]at h;cases h
 ·rw[if_neg b]at h;by_cases a: -(n:Int)<=i
  ·rw[if_pos a]at h;have e:(i+n).toNat=j:=qB h;exact⟨by rw[seqIndex_neg (by lia) a,e],by lia,a,by lia⟩
  ·rw[if_neg a]at h;cases h
theorem Dz{a:Type}{xs:List a}{i:Int}{v:a}(h:Jt xs i=some v):∃j,seqIndex? i xs.length=some j/\xs[j]?=some v/\j<xs.length/\ -(xs.length:Int)<=i/\i<xs.length:=by
 unfold Jt at h;cases e:Qv xs.length i with
 |none=>rw[e]at h;cases h
 |some j=>
  rw[e]at h;obtain⟨b,c,d,f⟩:=IS e;exact⟨j,b,h,c,d,f⟩
theorem Bd{a:Type}{xs:List a}{j:Nat}{v:a}(h:xs[j]?=some v):Jt xs (j:Int)=some v:=by
 have b:j<xs.length:=(p' h).1;have e:Qv xs.length (j:Int)=some j:=by
  unfold Qv;rw[if_pos (by lia),if_pos (by lia)];simp
 unfold Jt;rw[e];exact h
theorem KJ{a:Type}(xs:List a)(v:a):Jt (xs++[v]) (-1)=some v:=by
 have b:(xs++[v]).length=xs.length+1:=by simp
 have e:Qv (xs++[v]).length (-1)=some xs.length:=by
  unfold Qv;rw[b,if_neg (by decide),if_pos (by lia)];congr 1;lia
 unfold Jt;rw[e];show(xs++[v])[xs.length]?=some v;simp
def Np(b:Expr):Prop:=∀o i,subscripted b false o i=operate [o,i] (getItem o i)
def eo(X:Cx)(r:R2):Prop:=
 ∀(value slice:Expr)(pins:List (Addr×Obj))(s:Shared)(a:St)(H:Hp)(x y:V)(v u:Value)(Q:VK),Inv X pins a H s->RelV x v->RelV y u->r x y H Q->
  subscripted slice false v u=operate [v,u] (getItem v u)->wpAny (model X.prog X.w) X.A (subscriptTail value slice v u) (EP X pins a Q) X.xe s
def gG(X:Cx)(id:String)(r:V->List V->Hp->VK->Prop):Prop:=
 ∀(pins:List (Addr×Obj))(s:Shared)(a:St)(H:Hp)(x:V)(xs:List V)(v:Value)(b:List Value)(Q:VK),Inv X pins a H s->RelV x v->Vals xs b->r x xs H Q->
  wpAny (model X.prog X.w) X.A (call (.builtin id) (v::b)) (EP X pins a Q) X.xe s
variable{pins:List (Addr×Obj)}{s:Shared}{u:Value}{H:Hp}{A:Around}{y:V}{its:List Value}{T:String}{ys:List V}
section
variable {a b:Expr} {ta tb:TE} {pos:Pos}
theorem Be{r:R2}(c:eo X r)(d:PE X a ta)(e:PE X b tb)(f:Np b):PE X (.Subscript a b pos) (bG r ta tb):=by
 intro pins s g H Q I h;exact Subscript_ (YK d e I h fun v u i x y j k l m q=>c a b pins i g j x y v u Q k l m q (f _ _))
inductive bw(K:qG)(x y:V)(H:Hp)(Q:VK):Prop
 |mk(p xs i v:_)(c:x=.ref p)(d:y=.int i)(e:Ap K H p xs)(f:Jt xs i=some v)(g:Q v H)
def FJ(K:qG):R2:=fun x y H Q=>bw K x y H Q
inductive bz(K:qG)(x y:V)(H:Hp)(Q:VK):Prop
 |mk(p xs i v:_)(c:x=.ref p)(d:y=.int i)(e:Az K H p xs)(f:Jt xs i=some v)(g:Q v H)
def Pb(K:qG):R2:=fun x y H Q=>bz K x y H Q
inductive b_(x y:V)(H:Hp)(Q:VK):Prop
 |mk(z i c:_)(d:x=.str z)(e:y=.int i)(f:z.length<=sizeLine)(g:Jt z.cps.toList i=some c)(h:Q (.str ⟨#[c]⟩) H)
def gH:R2:=fun x y H Q=>b_ x y H Q
theorem Bf:eo X (FJ X.K):=by
 intro value slice pins s k H x y v u Q I o A h l;obtain⟨p,xs,i,z,rfl,rfl,B,C,q⟩:=h;cases o;obtain⟨t,rfl⟩:=A;obtain⟨d,r,e,L⟩:=I.list B;obtain⟨j,c,D,M,E,F⟩:=Dz C;obtain⟨w,m,f⟩:=r.get D;have G:=r.length;have N:=Dm;have fin:EP X pins k Q w s:=⟨z,H,I,f,q⟩;by_cases n:0<=i
 ·have g:i.toNat=j:=by
   rw[seqIndex_of n F]at c;exact qB c
  exact item_listR e.isList n (by lia) (by rw[g];simpa using m) fin l
 ·have g:(i+(d.toArray.size:Int)).toNat=j:=by
   rw[seqIndex_neg (by lia) E]at c;rw[List.size_toArray,<-G];exact qB c
  exact subscriptTail_builtinR (x:=w) e.isList.typeIs slot_list_getitem.lookup (wpAny_getItem_list_neg (Q:=fun r J=>r=w/\EP X pins k Q r J) e.isList (by lia) (by rw[List.size_toArray]<;>lia) (by lia) (by rw[g];simpa using m) ⟨rfl,fin⟩) l
theorem Fy:eo X (Pb X.K):=by
 intro value slice pins s d H x y v u Q I f g h k;obtain⟨p,xs,i,z,rfl,rfl,l,m,q⟩:=h;cases f;obtain⟨t,rfl⟩:=g;obtain⟨n,r,e,E⟩:=I.tuple l;obtain⟨j,o,A,F,G,J⟩:=Dz m;obtain⟨w,B,c⟩:=r.get A;have C:=r.length;have L:=Dm;have fin:EP X pins d Q w s:=⟨z,H,I,c,q⟩;exact subscriptTail_builtinR (x:=w) e.typeIs slot_tuple_getitem.lookup (getItem_tuple (j:=j) (Q:=fun r D=>r=w/\EP X pins d Q r D) e (by lia) (by lia) (by rw[List.size_toArray,<-C];exact o) (by simpa using B) ⟨rfl,fin⟩) k
theorem Ly:eo X gH:=by
 intro value slice pins s p H x y v u Q I e f h g;obtain⟨z,i,c,rfl,rfl,r,k,q⟩:=h;obtain⟨t,rfl⟩:=e;obtain⟨w,rfl⟩:=f;obtain⟨j,d,l,A,m,n⟩:=Dz k;have o:z.cps.toList.length=z.length:=by simp[Str.length]
 rw[o]at d m n;have B:=Dm;exact tail_any (typeIs_str s z t) slot_str_getitem.lookup (getItem_str (c:=c) (by
  have e1:decide (i< -(2 ^ 63:Int))=false:=decide_eq_false (by lia);have e2:decide (i≥2 ^ 63)=false:=decide_eq_false (by lia);rw[e1,e2,Bool.or_false]) (by rw[d];simpa using l) ⟨.str ⟨#[c]⟩,H,I.tok _,⟨_,rfl⟩,q⟩) g
theorem Lz(its:List Value)(n j:Nat)(u:Value):Obj.mapSeq (·.setIfInBounds j u) {cls:=.type "list",data:=.seq its.toArray n}={cls:=.type "list",data:=.seq (its.set j u).toArray n}:=by
 simp[Obj.mapSeq]
theorem Inv.lst{pins:List (Addr×Obj)}{c:St}{H:Hp}{s:Shared}{p:Addr}{xs:List V}(I:Inv X pins c H s)(h:H p=some (.lst xs)):
  ∃(its:List Value)(n:Nat),Vals xs its/\s.heap.get? p=some {cls:=.type "list",data:=.seq its.toArray n}/\xs.length<=sizeLine:=by
 obtain⟨z,its,n,r,e⟩:=I.Al p _ h;exact⟨its,n,r,e,z⟩
theorem Inv.YU{d:St}{p:Addr}{xs:List V}{its':List Value}{c:Nat}{f:Obj->Obj}(I:Inv X pins d H s)(h:H p=some (.lst xs))(i:s.heap.get? p=some {cls:=.type "list",data:=.seq its.toArray n})(g:f {cls:=.type "list",data:=.seq its.toArray n}={cls:=.type "list",data:=.seq its'.toArray c})(r:Vals ys its')(j:ys.length<=sizeLine)(t:Nat):
  Inv X pins d (upd H p (.lst ys)) {s with heap:=s.heap.update p f,toks:=t}:=by
 have e:(s.heap.update p f).get? p=some {cls:=.type "list",data:=.seq its'.toArray c}:=by
  rw[Heap.get?_update_self f i (by rw[g]<;>rfl),g]
 refine I.write (x:=p) (e:=p) (by rw[h];trivial) (.inl rfl) (fun b u k q=>(Heap.get?_update_other _ _ (Ne.symm k)).trans q) ⟨_,e⟩ ?_;exact⟨j,its',c,r,e⟩
inductive YV(o i v:V)(H:Hp)(Q:(Hp->Prop)):Prop
 |mk(p xs k j:_)(c:o=.ref p)(d:i=.int k)(e:H p=some (.lst xs))(f:Qv xs.length k=some j)(g:Q (upd H p (.lst (xs.set j v))))
def b':V->V->V->Hp->(Hp->Prop)->Prop:=fun o i v H Q=>YV o i v H Q
theorem set_list:bX X b':=by
 intro pins s z H o i v F G u Q I A B C h;obtain⟨p,xs,k,j,rfl,rfl,l,D,q⟩:=h;cases A;obtain⟨t,rfl⟩:=B;obtain⟨c,n,r,e,E⟩:=I.lst l;obtain⟨d,J,m,w⟩:=IS D;have f:=r.length;have K:=Dm;have x:Inv X pins z (upd H p (.lst (xs.set j v))) {s with heap:=s.heap.update p (Obj.mapSeq (·.setIfInBounds j u))}:=
  I.YU l e (Lz c n j u) (r.set C j) (by rw[List.length_set];exact E) s.toks
 by_cases y:0<=k
 ·have g:k.toNat=j:=by
   rw[seqIndex_of y w]at d;exact qB d
  exact PySem.W.ki_setAt e y (by lia) (by rw[List.size_toArray,<-f];exact w) (by rw[g];exact⟨_,x,q⟩)
 ·have g:(k+(c.toArray.size:Int)).toNat=j:=by
   rw[seqIndex_neg (by lia) m]at d;rw[List.size_toArray,<-f];exact qB d
  exact PySem.W.ki_setBack e (by lia) (by rw[List.size_toArray,<-f];exact m) (by lia) (by rw[g];exact⟨_,x,q⟩)
theorem IT(lo c:Option Int)(n:Nat):(sliceBounds lo c none n).1=((HT.BI n 0 lo:Nat):Int)/\(sliceBounds lo c none n).2.1=((HT.BI n n c:Nat):Int)/\(sliceBounds lo c none n).2.2=1:=by
 refine⟨?_,?_,rfl⟩
 ·cases lo with
  |none=>simp[sliceBounds,HT.BI]
  |some i=>
   simp only[sliceBounds,HT.BI,Option.getD_none,show(1:Int)>0 by decide,if_true];by_cases h:i<0
   ·simp only[h,if_true]<;>lia
   ·simp only[h,if_false]<;>lia
 ·cases c with
  |none=>simp[sliceBounds,HT.BI]
  |some i=>
   simp only[sliceBounds,HT.BI,Option.getD_none,show(1:Int)>0 by decide,if_true];by_cases h:i<0
   ·simp only[h,if_true]<;>lia
   ·simp only[h,if_false]<;>lia
theorem HG(its:List Value)(lo c:Option Int):slicePick its.toArray lo c none=((its.drop (HT.BI its.length 0 lo)).take (HT.BI its.length its.length c-HT.BI its.length 0 lo)).toArray:=by
 obtain⟨d,e,f⟩:=IT lo c its.toArray.size;unfold slicePick;rw[d,e,f];simp only[sliceRange_one,pick_run,List.size_toArray]<;>rfl
inductive cD(K:qG)(x:V)(lo c:Option Int)(H:Hp)(Q:VK):Prop
 |mk(a xs:_)(d:x=.ref a)(e:Ap K H a xs)(f:Uk H (.lst (HF xs lo c)) Q)
def YW(K:qG):V->Option Int->Option Int->Hp->VK->Prop:=fun x lo c H Q=>cD K x lo c H Q
theorem Nq:br X (YW X.K):=by
 intro pins s m H x v n p lo c t Q I e f g i h;obtain⟨a,xs,rfl,j,q⟩:=h;cases e;obtain⟨k,r,d,l⟩:=I.list j;have hlen:=r.length;refine⟨"list",_,slot_list_getitem.lookup,d.isList.typeIs,?_⟩;refine wpAny_getItem_list_slice d.isList f g i .none (by simp) ?_ (by rw[List.size_toArray]<;>lia);rw[HG,<-hlen];refine⟨.ref s.heap.objs.size,_,I.laid (t':=s.toks) (o:=.lst (HF xs lo c)) (fun b u q=>Heap.get?_push_of_some _ q) (Nat.le_refl _) ?_,rfl,q _ (I.Al.fresh (Nat.le_refl _))⟩;exact⟨Nat.le_trans (Ew xs lo c) l,_,0,(r.drop (HT.BI xs.length 0 lo)).take (HT.BI xs.length xs.length c-HT.BI xs.length 0 lo),Heap.get?_push_size _ rfl⟩
noncomputable def BJ:V->Bool
 | .Ae=>true
 | .bl _=>true
 | .int _=>true
 | .str _=>true
 |_=>false
noncomputable def L_:V->V->Bool
 | .Ae,.Ae=>true
 | .bl a,.bl b=>a==b
 | .bl a,.int b=>(if a then 1 else 0)==b
 | .int a,.bl b=>a==(if b then 1 else 0)
 | .int a,.int b=>a==b
 | .str a,.str b=>a==b
 |_,_=>false
theorem L'{x:V}{v:Value}(e:RelV y u)(c:RelV x v)(g:BJ y=true)(f:BJ x=true):SeqAt.EqAt A s u v (L_ y x):=by
 cases y with
 |Ae=>
  cases e;cases x with
  |Ae=>cases c;exact SeqAt.EqAt.same _
  |bl b=>cases c;exact SeqAt.EqAt.none_bool b
  |int b=>obtain⟨t,rfl⟩:=c;exact SeqAt.EqAt.none_int b t
  |str b=>obtain⟨t,rfl⟩:=c;exact SeqAt.EqAt.none_str b t
  |_=>exact absurd (show false=true from f) Bool.false_ne_true
 |bl a=>
  cases e;cases x with
  |Ae=>cases c;exact SeqAt.EqAt.bool_none a
  |bl b=>cases c;exact SeqAt.EqAt.bool_bool a b
  |int b=>obtain⟨t,rfl⟩:=c;exact SeqAt.EqAt.bool_int a b t
  |str b=>obtain⟨t,rfl⟩:=c;exact SeqAt.EqAt.bool_str a b t
  |_=>exact absurd (show false=true from f) Bool.false_ne_true
 |int a=>
  obtain⟨d,rfl⟩:=e;cases x with
  |Ae=>cases c;exact SeqAt.EqAt.int_none a d
  |bl b=>cases c;exact SeqAt.EqAt.int_bool a d b
  |int b=>obtain⟨t,rfl⟩:=c;exact SeqAt.EqAt.int_int a d b t
  |str b=>obtain⟨t,rfl⟩:=c;exact SeqAt.EqAt.int_str a d b t
  |_=>exact absurd (show false=true from f) Bool.false_ne_true
 |str a=>
  obtain⟨d,rfl⟩:=e;cases x with
  |Ae=>cases c;exact SeqAt.EqAt.str_none a d
  |bl b=>cases c;exact SeqAt.EqAt.str_bool a d b
  |int b=>obtain⟨t,rfl⟩:=c;exact SeqAt.EqAt.str_int a d b t
  |str b=>obtain⟨t,rfl⟩:=c;exact SeqAt.EqAt.str_str a d b t
  |_=>exact absurd (show false=true from f) Bool.false_ne_true
 |_=>exact absurd (show false=true from g) Bool.false_ne_true
def VD(x:V)(u:Value):Bool:=match u with
 | .none=>L_ .Ae x
 | .bool b=>L_ (.bl b) x
 | .int i _=>L_ (.int i) x
 | .str z _=>L_ (.str z) x
 |_=>false
theorem RP{x:V}(r:RelV y u)(f:BJ y=true):VD x u=L_ y x:=by
 cases y with
 |Ae=>cases r;rfl
 |bl b=>cases r;rfl
 |int i=>obtain⟨t,rfl⟩:=r;rfl
 |str z=>obtain⟨t,rfl⟩:=r;rfl
 |_=>exact absurd (show false=true from f) Bool.false_ne_true
theorem IU{x:V}:∀{xs:List V}{us:List Value},Vals xs us->xs.all BJ=true->us.any (VD x)=xs.any fun y=>L_ y x
 |_,_,.nil,_=>rfl
 |y::xs,u::us,.cons r t,f=>by
  rw[List.all_cons,Bool.and_eq_true]at f;rw[List.any_cons,List.any_cons,RP r f.1,IU t f.2]
theorem Fz{A:Around}{s:Shared}{x:V}{v:Value}(d:RelV x v)(e:BJ x=true):∀{xs:List V}{us:List Value},Vals xs us->xs.all BJ=true->∀u∈us,SeqAt.EqAt A s u v (VD x u)
 |_,_,.nil,_=>fun u c=>by cases c
 |y::xs,u::us,.cons r t,f=>fun g c=>by
  rw[List.all_cons,Bool.and_eq_true]at f;rcases List.mem_cons.mp c with rfl|c
  ·rw[RP r f.1];exact L' r d f.1 e
  ·exact Fz d e t f.2 g c
def Lh(x:V)(xs:List V):Bool:=xs.any fun y=>L_ y x
inductive gI(K:qG)(c:Bool)(x y:V)(H:Hp)(Q:VK):Prop
 |mk(p xs:_)(d:y=.ref p)(e:(Ap K H p xs∨Az K H p xs))(f:BJ x=true)(g:xs.all BJ=true)(h:Q (.bl (if c then !Lh x xs else Lh x xs)) H)
def bH(K:qG)(c:Bool):R2:=fun x y H Q=>gI K c x y H Q
theorem CS:DC X (compareOp .In) (bH X.K false):=by
 intro pins s k H x y v u Q I f i h;obtain⟨p,xs,rfl,d,g,fs,q⟩:=h;cases i;rcases d with d|d
 ·obtain⟨c,r,e,j⟩:=I.list d;refine SeqAt.in_listAt (VD x) e.isList (fun w hw=>Fz f g r fs w (by simpa using hw)) ⟨.bl _,H,I,rfl,?_⟩;rw[show c.toArray.any (VD x)=c.any (VD x)by simp,IU r fs];exact q
 ·obtain⟨c,r,e,j⟩:=I.tuple d;refine SeqAt.in_tupleAt (VD x) e (fun w hw=>Fz f g r fs w (by simpa using hw)) ⟨.bl _,H,I,rfl,?_⟩;rw[show c.toArray.any (VD x)=c.any (VD x)by simp,IU r fs];exact q
inductive FK(K:qG)(xs:List V)(H:Hp)(Q:VK):Prop
 |mk(p ys:_)(c:xs=[.ref p])(d:(Ap K H p ys∨Az K H p ys))(e:Q (.int ys.length) H)
def DE(K:qG):List V->Hp->VK->Prop:=fun xs H Q=>FK K xs H Q
theorem D_:BG X (.builtin "len") (DE X.K):=by
 intro pins s k H xs l Q I r h;obtain⟨p,g,rfl,c,q⟩:=h;obtain⟨u,rfl,i⟩:=vals1 r;cases i;have m:=Dm;rcases c with c|c
 ·obtain⟨d,e,f,j⟩:=I.list c;have hlen:=e.length;exact Calls.call_len_list f.isList (by simp only[List.size_toArray]<;>lia) ⟨.int g.length,H,I.tok _,⟨s.toks+1,by rw[List.size_toArray,hlen]⟩,q⟩
 ·obtain⟨d,e,f,j⟩:=I.tuple c;have hlen:=e.length;exact len_tuple f (by simp only[List.size_toArray]<;>lia) ⟨.int g.length,H,I.tok _,⟨s.toks+1,by rw[List.size_toArray,hlen]⟩,q⟩
inductive FL(xs:List V)(H:Hp)(Q:VK):Prop
 |mk(z:_)(c:xs=[.str z])(d:z.length<=sizeLine)(e:Q (.int z.length) H)
def F_:List V->Hp->VK->Prop:=fun xs H Q=>FL xs H Q
theorem D':BG X (.builtin "len") F_:=by
 intro pins s c H xs d Q I r h;obtain⟨z,rfl,e,q⟩:=h;obtain⟨u,rfl,t,rfl⟩:=vals1 r;have f:=Dm;exact len_str (by lia) ⟨.int z.length,H,I.tok _,⟨_,rfl⟩,q⟩
inductive FN(K:qG)(xs:List V)(H:Hp)(Q:VK):Prop
 |mk(p ys:_)(c:xs=[.ref p])(d:(Ap K H p ys∨Az K H p ys))(e:Uk H (.lst ys) Q)
def GB(K:qG):List V->Hp->VK->Prop:=fun xs H Q=>FN K xs H Q
theorem EA:BG X (.type "list") (GB X.K):=by
 intro pins s z H xs B Q I r h;obtain⟨p,l,rfl,i,q⟩:=h;obtain⟨u,rfl,A⟩:=vals1 r;cases A;have fin:∀(c:List Value),Vals l c->l.length<=sizeLine->∀(d:Heap)(f:Nat),(∀b y,s.heap.get? b=some y->d.get? b=some y)->
   d.get? s.heap.objs.size=some {cls:=.type "list",dict:=none,data:=.seq c.toArray f,slots:= #[]}->EP X pins z Q (.ref s.heap.objs.size) {s with heap:=d}:=fun c g j d f k e=>
  ⟨.ref s.heap.objs.size,_,I.laid (t':=s.toks) k (Nat.le_refl _) (show Ah X.prog X.w _ d _ (.lst l)from⟨j,c,f,g,e⟩),rfl,q _ (I.Al.fresh (Nat.le_refl _))⟩
 rcases i with i|i
 ·obtain⟨c,g,m,j⟩:=I.list i;have hlen:=g.length;obtain⟨o,t,v,n,x⟩:=m.isList;exact call_list_seq p (.inl rfl) t v x (fun d f k e=>fin c g j d f k e) (by simp only[List.size_toArray]<;>lia)
 ·obtain⟨c,g,m,j⟩:=I.tuple i;have hlen:=g.length;obtain⟨o,t,v,n,x⟩:=m;exact call_list_seq p (.inr rfl) t v x (fun d f k e=>fin c g j d f k e) (by simp only[List.size_toArray]<;>lia)
def gJ(K:qG)(T:String)(x:V)(H:Hp):Prop:=match x with
 | .str _=>T="str"
 | .int _=>T="int"
 | .ref p=>(T="list"/\∃xs,Ap K H p xs)∨(T="tuple"/\∃o,K.lookup p=some o/\o.cls=.type "tuple"/\o.dict=none)∨ (T="dict"/\((∃c,H p=some (.dK c))∨∃c,H p=some (.dT c)))∨(T="set"/\∃S n,H p=some (.set S n))
 |_=>False
theorem RQ{k:St}{x:V}{v:Value}(I:Inv X pins k H s)(r:RelV x v)(ty:gJ X.K T x H):
  s.TypeIs v T/\∀a,v=.ref a->∃ob,s.heap.get? a=some ob/\ob.dict=none:=by
 cases x with
 |str z=>
  obtain⟨t,rfl⟩:=r;cases(show T="str"from ty);exact⟨typeIs_str s z t,fun _ e=>nomatch e⟩
 |int i=>
  obtain⟨t,rfl⟩:=r;cases(show T="int"from ty);exact⟨typeIs_int s i t,fun _ e=>nomatch e⟩
 |ref p=>
  cases r;rcases ty with⟨rfl,xs,l⟩|⟨rfl,o,d,m,g⟩|⟨rfl,d⟩|⟨rfl,S,n,d⟩
  ·obtain⟨q,_,j,_⟩:=I.list l;refine⟨j.isList.typeIs,fun a e=>?_⟩;cases e;obtain⟨o,n,e,c,g,_⟩:=j;exact⟨o,e,g⟩
  ·refine⟨⟨o,I.CH p o d,m⟩,fun a e=>?_⟩;cases e;exact⟨o,I.CH _ o d,g⟩
  ·have z:∃o,s.heap.get? p=some o/\o.ExactDict:=by
    rcases d with⟨h,d⟩|⟨h,d⟩
    ·obtain⟨_,_,_,_,o,_,_,e,f,_⟩:=I.Al p _ d;exact⟨o,e,f⟩
    ·obtain⟨_,_,_,_,o,_,_,e,f,_⟩:=I.Al p _ d;exact⟨o,e,f⟩
   obtain⟨o,e,f⟩:=z;refine⟨⟨o,e,f.1⟩,fun a e2=>?_⟩;cases e2;exact⟨o,e,f.2.1⟩
  ·obtain⟨o,_,_,_,e,f,_⟩:=I.Al p _ d;refine⟨⟨o,e,f.1⟩,fun a e2=>?_⟩;cases e2;exact⟨o,e,f.2.1⟩
 |_=>exact False.elim ty
def gK(K:qG)(T:String)(r:V->List V->Hp->VK->Prop)(d:TE):TE:=fun e H Q=>d e H fun x c=>gJ K T x c/\r x [] c Q
def gL(K:qG)(T:String)(r:V->List V->Hp->VK->Prop)(e:TE)(t:TA):TE:=fun c H Q=>e c H fun x d=>gJ K T x d/\t c d fun xs f=>r x xs f Q
variable{o:Expr} {es:List Expr} {to:TE} {t:TA} {name:Str} {apos By:Pos} {id:String} {r:V->List V->Hp->VK->Prop}
theorem RS(k:PlainAttrs T)(slot:Slot T name id)(f:typeOf (.builtin id)=pure (.type "method_descriptor"))(l:gG X id r)(m:PE X o to)(c:attributeBase o name X.env (eval o X.env)=eval o X.env:=by rfl)(d:(apos.endLine==By.line)=true:=by rfl):PE X (.Call (.Attribute o name apos) [] [] By) (gK X.K T r to):=by
 intro pins s g H Q I h;refine wpAny_Call_method0_late c d (Aw (m pins s g H _ I h) fun v n ⟨x,p,i,j,ty,q⟩=>?_);obtain⟨u,w⟩:=RQ i j ty;exact⟨T,id,k,slot,f,u,w,Calls.callWith_builtin rfl (PySem.evalArgs_none (l pins n g p x [] v [] Q i j .nil q))⟩
theorem KL(n:PlainAttrs T)(slot:Slot T name id)(i:typeOf (.builtin id)=pure (.type "method_descriptor"))(p:gG X id r)(q:PE X o to)(u:PA X (e::es) t)(d:attributeBase o name X.env (eval o X.env)=eval o X.env:=by rfl)(g:((backTo By (starEach (e::es) X.env)).all (fun x=> !x.1)&&(backToKw By (keywordEach [] X.env)).all (fun x=>x.1.isSome)
   &&decide ((e::es).length+([]:List Keyword).length+(if([]:List Keyword).isEmpty then 0 else 1)<30))=true:=by rfl)(f:(apos.endLine==By.line)=true:=by rfl)(w:starEach (e::es) X.env=(false,eval e X.env)::starEach es X.env:=by rfl)(c:(backTo By (starEach es X.env)).any (·.1)=false:=by rfl):
  PE X (.Call (.Attribute o name apos) (e::es) [] By) (gL X.K T r to t):=by
 intro pins s j H Q I h;refine wpAny_Call_method_late d g f rfl (Aw (q pins s j H _ I h) fun v y ⟨x,z,k,l,ty,A⟩=>?_);obtain⟨B,C⟩:=RQ k l ty;refine⟨T,id,n,slot,i,B,C,?_⟩;have m:=u By pins y j z _ k A;rw[w]at m⊢;refine Calls.callWith_builtin (by show(false||(backTo By (starEach es X.env)).any (·.1))=false;rw[c]<;>rfl) (Calls.evalArgs_plain ?_);exact Aw m fun D E F=>F.elim fun G J L M N=>p pins E j J x G v D Q L l M N
end
def gM(X:Cx)(id:String)(r:V->List V->Hp->VK->Prop):Prop:=
 ∀(pins:List (Addr×Obj))(s:Shared)(a:St)(H:Hp)(x:V)(xs:List V)(v:Value)(b:List Value)(Q:VK),Inv X pins a H s->RelV x v->Vals xs b->r x xs H Q->
  wpAny (model X.prog X.w) X.A (call (.builtin id) (v::b)) (EP X pins a Q) X.xe s
theorem Vals.zero(r:Vals [] us):us=[]:=List.eq_nil_of_length_eq_zero (Paired.length r).symm
theorem Vals.one{x:V}{us:List Value}(r:Vals [x] us):∃u,us=[u]/\RelV x u:=by
 obtain⟨u,a,rfl,h,t⟩:=r.inv;rw[t.zero];exact⟨u,rfl,h⟩
theorem Vals.dropLast{xs:List V}(h:Vals xs us):Vals xs.dropLast us.dropLast:=by
 induction h with
 |nil=>exact .nil
 |cons r t a=>
  cases t with
  |nil=>exact .nil
  |cons q b=>exact .cons r a
theorem MA{a:Type}(l:List a):l.eraseIdx (l.length-1)=l.dropLast:=List.eraseIdx_length_sub_one
variable{σ:St}{t':Nat}
section
variable {l b:Addr} {xs zs:List V}
theorem Inv.YX{its':List Value}{f:Array Value->Array Value}(I:Inv X pins σ H s)(a:H l=some (.lst xs))(e:s.heap.get? l=some {cls:=.type "list",data:=.seq its.toArray n})(c:f its.toArray=its'.toArray)(d:Vals ys its')(g:ys.length<=sizeLine):
  Inv X pins σ (upd H l (.lst ys)) {s with heap:=s.heap.update l (Obj.mapSeq f),toks:=t'}:=by
 have q:=PySem.IsL.update e f;rw[c]at q;refine I.write (x:=l) (e:=l) (by rw[a];exact trivial) (.inl rfl) (fun j u h i=>(Heap.get?_update_other s.heap (Obj.mapSeq f) (Ne.symm h)).trans i) ⟨_,q⟩ ?_;exact⟨g,its',_,d,q⟩
theorem Inv.cE(I:Inv X pins σ H s)(a:Vals ys its)(c:ys.length<=sizeLine):
  Inv X pins σ (upd H s.heap.objs.size (.lst ys)) {s with heap:=s.heap.push {cls:=.type "list",data:=.seq its.toArray},toks:=t'}:=
 I.laid (fun _ _ q=>Heap.get?_push_of_some _ q) (Nat.le_refl _) ⟨c,its,0,a,Heap.get?_push_size _ rfl⟩
theorem Inv.fresh(I:Inv X pins σ H s):H s.heap.objs.size=none:=I.Al.fresh (Nat.le_refl _)
theorem Inv.Pc(I:Inv X pins σ H s)(a:H l=some (.lst xs)):xs.length<=sizeLine/\∃(its:List Value)(n:Nat),Vals xs its/\xs.length=its.length/\s.heap.get? l=some {cls:=.type "list",data:=.seq its.toArray n}:=by
 obtain⟨z,its,n,r,e⟩:=I.Al l _ a;exact⟨z,its,n,r,r.length,e⟩
theorem RT(h:n<=sizeLine):Builtin.List.listTooLong n=false:=by
 unfold Builtin.List.listTooLong;exact decide_eq_false (by lia)
end
section
inductive RU(x:V)(vs:List V)(H:Hp)(Q:VK):Prop
 |mk(l xs y:_)(a:x=.ref l)(b:vs=[y])(c:H l=some (.lst xs))(d:xs.length<sizeLine)(e:Q .Ae (upd H l (.lst (xs++[y]))))
def Nr:V->List V->Hp->VK->Prop:=fun x a H Q=>RU x a H Q
theorem DQ:gM X "list.append" Nr:=by
 intro pins s g H x i v j Q I c d h;obtain⟨l,xs,y,rfl,rfl,b,k,q⟩:=h;cases c;obtain⟨u,rfl,f⟩:=d.one;obtain⟨z,a,n,r,m,e⟩:=I.Pc b;refine call_meets F.slot_list_append ⟨_,e,rfl⟩ F.entry_list_append (F.args_list_append_2 _ _) (PySem.list_append l a.toArray n u (by rw[List.size_toArray];lia)) ⟨e,?_⟩;refine⟨.Ae,_,I.YX (its':=a++[u]) b e (by simp) (r.append (.cons f .nil)) ?_,rfl,q⟩;rw[List.length_append,List.length_singleton];lia
inductive RV(x:V)(vs:List V)(H:Hp)(Q:VK):Prop
 |mk(l b xs zs:_)(a:x=.ref l)(c:vs=[.ref b])(d:H l=some (.lst xs))(e:H b=some (.lst zs))(f:xs.length+zs.length<=sizeLine)(g:Q .Ae (upd H l (.lst (xs++zs))))
def Nt:V->List V->Hp->VK->Prop:=fun x a H Q=>RV x a H Q
theorem Pd:gM X "list.extend" Nt:=by
 intro pins s w H x y v A Q I i j h;obtain⟨l,b,xs,B,rfl,rfl,g,k,C,q⟩:=h;cases i;obtain⟨u,rfl,m⟩:=j.one;cases m;obtain⟨z,c,n,r,D,e⟩:=I.Pc g;obtain⟨z2,a,o,p,t,e2⟩:=I.Pc k;have f:c.toArray.size+a.toArray.size<=sizeLine:=by rw[List.size_toArray,List.size_toArray];lia
 have d:¬(!c.toArray.isEmpty&&Builtin.List.listTooLong (c.toArray.size+a.toArray.size))=true:=by
  rw[RT f,Bool.and_false];exact Bool.false_ne_true
 refine call_meets F.slot_list_extend ⟨_,e,rfl⟩ F.entry_list_extend (F.args_list_extend_2 _ _) (AutoSeq1.list_extend_list_list_0 l c.toArray n b a.toArray o d (by rw[List.size_toArray];lia) (by lia)) ⟨e,e2,?_⟩;refine⟨.Ae,_,I.YX (its':=c++a) g e (by simp) (r.append p) ?_,rfl,q⟩;rw[List.length_append];lia
inductive cF(x:V)(vs:List V)(H:Hp)(Q:VK):Prop
 |mk(l xs y:_)(a:x=.ref l)(b:vs=[])(c:H l=some (.lst xs))(d:xs[xs.length-1]?=some y)(e:Q y (upd H l (.lst xs.dropLast)))
def gN:V->List V->Hp->VK->Prop:=fun x a H Q=>cF x a H Q
theorem RW:gM X "list.pop" gN:=by
 intro pins s o H x p v t Q I f g h;obtain⟨l,xs,y,rfl,rfl,d,i,q⟩:=h;cases f;have b:=g.zero;subst b;obtain⟨z,a,n,r,j,e⟩:=I.Pc d;obtain⟨u,k,m⟩:=r.get i;have c:a.toArray[a.toArray.size-1]?=some u:=by
  show a.toArray[a.length-1]?=some u;rw[<-Array.getElem?_toList,<-j];exact k
 refine call_meets F.slot_list_pop ⟨_,e,rfl⟩ F.entry_list_pop (F.args_list_pop_1 _) (MeetsSeq.list_pop_last l a.toArray n u c (by rw[List.size_toArray];lia)) ⟨e,?_⟩;refine⟨y,_,I.YX (its':=a.dropLast) d e ?_ r.dropLast ?_,m,q⟩
 ·show a.toArray.eraseIdxIfInBounds (a.toArray.size-1)=a.dropLast.toArray;rw[List.size_toArray,List.eraseIdxIfInBounds_toArray,MA]
 ·rw[List.length_dropLast];lia
inductive cG(x y:V)(H:Hp)(Q:VK):Prop
 |mk(l b xs zs:_)(a:x=.ref l)(c:y=.ref b)(d:H l=some (.lst xs))(e:H b=some (.lst zs))(f:xs.length+zs.length<=sizeLine)(g:Uk H (.lst (xs++zs)) Q)
def gP:R2:=fun x y H Q=>cG x y H Q
theorem IV:DC X (binaryOp .Add) gP:=by
 intro pins s o H x y v u Q I d f h;obtain⟨l,b,xs,p,rfl,rfl,g,i,t,q⟩:=h;cases d;cases f;obtain⟨z,c,n,r,w,e⟩:=I.Pc g;obtain⟨z2,a,A,j,k,e2⟩:=I.Pc i;refine PySem.P.add_list e e2 ?_ (by rw[List.size_toArray,List.size_toArray];lia);have m:c.toArray++a.toArray=(c++a).toArray:=by simp
 rw[m];exact⟨.ref _,_,I.cE (t':=s.toks) (r.append j) (by rw[List.length_append];lia),rfl,q _ I.fresh⟩
end
variable{E:Value->Shared->Prop}{w:World}{prog:Program}
section
end
section
end
variable{o:Option V}
section
variable{κ:Type} [DecidableEq κ]
def Bs(kvs:List (κ×V))(k:κ):Option V:=(kvs.find? fun a=>decide (a.1=k)).map (·.2)
def putK(kvs:List (κ×V))(k:κ)(v:V):List (κ×V):=
 if(kvs.any fun a=>decide (a.1=k))=true then kvs.map (fun a=>if a.1=k then(a.1,v)else a)else kvs++[(k,v)]
theorem DF{p:κ×V}{r:List (κ×V)}{k:κ}(e:p.1=k):Bs (p::r) k=some p.2:=by simp[Bs,List.find?_cons,e]
theorem EB{p:κ×V}{r:List (κ×V)}{k:κ}(e:¬p.1=k):Bs (p::r) k=Bs r k:=by simp[Bs,List.find?_cons,e]
theorem KN(k:κ):∀kvs:List (κ×V),(kvs.any fun a=>decide (a.1=k))=(Bs kvs k).isSome
 |[]=>rfl
 |p::r=>by
  rw[List.any_cons];by_cases e:p.1=k
  ·simp only[DF e,decide_eq_true e,Bool.true_or,Option.isSome_some]
  ·rw[EB e,decide_eq_false e,Bool.false_or];exact KN k r
theorem Ey(kvs:List (κ×V))(k:κ)(v:V):(putK kvs k v).length<=kvs.length+1:=by
 unfold putK;split
 ·rw[List.length_map];lia
 ·rw[List.length_append,List.length_cons,List.length_nil];lia
theorem Cg.Hi{u:Option Value}(r:Cg o u):o.isSome=u.isSome:=by
 cases o with
 |none=>cases u with
  |none=>rfl
  |some _=>exact(show False from r).elim
 |some _=>cases u with
  |none=>exact(show False from r).elim
  |some _=>rfl
theorem KV.val{kvs:List (κ×V)}{vs:List (κ×Value)}(r:KV kvs vs)(k:κ):Cg (Bs kvs k) (valueAt vs k):=by
 unfold KV at r
 induction r with
 |nil=>exact True.intro
 |@cons p q i a h t f=>
  obtain⟨d,g⟩:=h;by_cases e:p.1=k
  ·have c:q.1=k:=d.symm.trans e;have b:valueAt (q::a) k=some q.2:=by simp[valueAt,List.find?_cons,c]
   rw[DF e,b];exact g
  ·have c:¬q.1=k:=fun z=>e (d.trans z);have b:valueAt (q::a) k=valueAt a k:=by simp[valueAt,List.find?_cons,c]
   rw[EB e,b];exact f
theorem KV.any{kvs:List (κ×V)}{vs:List (κ×Value)}(r:KV kvs vs)(k:κ):(kvs.any fun a=>decide (a.1=k))=vs.any fun a=>decide (a.1=k):=by
 unfold KV at r
 induction r with
 |nil=>rfl
 |cons h t b=>rw[List.any_cons,List.any_cons,b,h.1]
theorem KV.YY{kvs:List (κ×V)}{vs:List (κ×Value)}(r:KV kvs vs)(k:κ)(c:RelV y u):
  KV (kvs.map fun a=>if a.1=k then(a.1,y)else a) (vs.map fun a=>if a.1=k then(a.1,u)else a):=by
 unfold KV at r⊢
 induction r with
 |nil=>exact .nil
 |@cons p q g i h t d=>
  rw[List.map_cons,List.map_cons];refine .cons ?_ d;obtain⟨b,f⟩:=h;by_cases e:p.1=k
  ·rw[if_pos e,if_pos (b.symm.trans e)];exact⟨b,c⟩
  ·rw[if_neg e,if_neg (fun z=>e (b.trans z))];exact⟨b,f⟩
theorem KV.put{kvs:List (κ×V)}{vs:List (κ×Value)}(r:KV kvs vs)(k:κ)(a:RelV y u):KV (putK kvs k y) (stored vs k u):=by
 unfold putK stored;rw[r.any k];by_cases e:(vs.any fun b=>decide (b.1=k))=true
 ·rw[if_pos e,if_pos e];exact r.YY k a
 ·rw[if_neg e,if_neg e];exact Paired.snoc r ⟨rfl,a⟩
theorem KV.keys{kvs:List (κ×V)}{vs:List (κ×Value)}(r:KV kvs vs):kvs.map (·.1)=vs.map (·.1):=by
 unfold KV at r
 induction r with
 |nil=>rfl
 |cons h t a=>rw[List.map_cons,List.map_cons,a,h.1]
theorem KV.length{kvs:List (κ×V)}{vs:List (κ×Value)}(r:KV kvs vs):kvs.length=vs.length:=Paired.length r
end
variable{P:Program}
theorem KO{k:Key}(r:RelV (kV k) u):(Ag P w).is k u=true:=by
 cases k with
 |inl i=>obtain⟨t,e⟩:=(show∃t,u=Value.int i t from r);subst e;exact Jv P w i t
 |inr x=>obtain⟨t,e⟩:=(show∃t,u=Value.str x t from r);subst e;exact Jw P w x t
theorem Hj{P:Program}{w:World}:∀{ks:List Key}{us:List Value},Vals (ks.map kV) us->ItemsAre (Ag P w) ks us
 |[],_,r=>by rw[List.map_nil]at r;cases r;exact .nil
 |k::ks,_,r=>by
  rw[List.map_cons]at r;cases r with
  |cons h t=>exact .cons (KO h) (Hj t)
abbrev KT(H:Hp):List (List Key×V)->List (List Key×Addr×Value)->Prop:=Paired fun p q=>p.1=q.1/\H q.2.1=some (.tup (p.1.map kV))/\RelV p.2 q.2.2
theorem KT.val{H:Hp}{kvs:List (List Key×V)}{xs:List (List Key×Addr×Value)}(r:KT H kvs xs)(k:List Key):Cg (Bs kvs k) ((atKey xs k).map (·.2)):=by
 induction r with
 |nil=>exact True.intro
 |@cons p q i a h t f=>
  obtain⟨d,_,g⟩:=h;by_cases e:p.1=k
  ·have c:q.1=k:=d.symm.trans e;have b:atKey (q::a) k=some q.2:=by simp[atKey,List.find?_cons,c]
   rw[DF e,b];exact g
  ·have c:¬q.1=k:=fun z=>e (d.trans z);have b:atKey (q::a) k=atKey a k:=by simp[atKey,List.find?_cons,c]
   rw[EB e,b];exact f
variable{kvs:List (List Key×V)}
theorem KT.YY{xs:List (List Key×Addr×Value)}(r:KT H kvs xs)(k:List Key)(d:RelV y u):
  KT H (kvs.map fun b=>if b.1=k then(b.1,y)else b) (xs.map (putAt k u)):=by
 induction r with
 |nil=>exact .nil
 |@cons p q i j h t f=>
  rw[List.map_cons,List.map_cons];refine .cons ?_ f;obtain⟨a,c,g⟩:=h;unfold putAt;by_cases e:p.1=k
  ·rw[if_pos e,if_pos (a.symm.trans e)];exact⟨a,c,d⟩
  ·rw[if_neg e,if_neg (fun z=>e (a.trans z))];exact⟨a,c,g⟩
theorem KT.put{xs:List (List Key×Addr×Value)}(r:KT H kvs xs)(k:List Key){b:Addr}(c:H b=some (.tup (k.map kV)))(a:RelV y u):
  KT H (putK kvs k y) (storedH xs k b u):=by
 have e:(kvs.any fun d=>decide (d.1=k))=(atKey xs k).isSome:=by
  rw[KN,(r.val k).Hi,Option.isSome_map]
 unfold putK storedH;rw[e];by_cases q:(atKey xs k).isSome=true
 ·rw[if_pos q,if_pos q];exact r.YY k a
 ·rw[if_neg q,if_neg q];exact Paired.snoc r ⟨rfl,c,a⟩
theorem KT.keeps{a:Hp}{xs:List (List Key×Addr×Value)}(r:KT H kvs xs)(c:∀b ys,H b=some (.tup ys)->a b=some (.tup ys)):KT a kvs xs:=
 Paired.bQ r fun _ _ z=>⟨z.1,c _ _ z.2.1,z.2.2⟩
variable{a:Addr}
section
variable {h:Heap} 
theorem Xa{u:HO}(ok:Cf P w H h)(e:Rd H a u):Ah P w H h a u:=e.ok ok
theorem GC{kvs:List (Key×V)}(ok:Cf P w H h)(e:Rd H a (.dK kvs)):kvs.length<=sizeLine/\(a==sysModules)=false/\∃vs,KV kvs vs/\h.DictOf (Ag P w) a vs:=
 show Ah P w H h a (.dK kvs)from Xa ok e
theorem cH{kvs:List (Key×V)}(ok:Cf P w H h)(e:H a=some (.dK kvs)):kvs.length<=sizeLine/\(a==sysModules)=false/\∃vs,KV kvs vs/\h.DictOf (Ag P w) a vs:=GC ok (.inl e)
theorem MB{ks:List Key}(ok:Cf P w H h)(e:H a=some (.tup (ks.map kV))):(tupleKind (Ag P w)).is h ks a:=by
 obtain⟨_,b,r,o,c,d,n,f⟩:=(show Ah P w H h a (.tup (ks.map kV))from ok a _ e);exact⟨o,b.toArray,n,c,d,f,by simpa using Hj r⟩
theorem RX(ok:Cf P w H h)(e:Rd H a (.dT kvs)):kvs.length<=sizeLine/\(a==sysModules)=false/\
  ∃xs,KT H kvs xs/\h.DictOfH (tupleKind (Ag P w)) a xs:=by
 obtain⟨z,y,xs,r,o,d,f,g,i,j,k,n⟩:=(show Ah P w H h a (.dT kvs)from Xa ok e);refine⟨z,y,xs,r,o,d,f,g,i,j,k,fun x b=>?_,n⟩;have all:∀{l:List (List Key×V)}{m:List (List Key×Addr×Value)},KT H l m->∀x∈m,(tupleKind (Ag P w)).is h x.1 x.2.1:=by
  intro l m q
  induction q with
  |nil=>intro x b;exact nomatch b
  |@cons p q u v c t s=>
   intro x b;rcases List.mem_cons.mp b with e|b
   ·subst e;exact MB ok (by rw[<-c.1];exact c.2.1)
   ·exact s x b
 exact all r x b
theorem cI(ok:Cf P w H h)(e:H a=some (.dT kvs)):kvs.length<=sizeLine/\(a==sysModules)=false/\
  ∃xs,KT H kvs xs/\h.DictOfH (tupleKind (Ag P w)) a xs:=RX ok (.inl e)
end
def YZ(H:Hp)(a:Addr)(y:V)(r:Option V):Prop:= (∃c k,Rd H a (.dK c)/\y=kV k/\r=Bs c k)∨∃c k b,Rd H a (.dT c)/\y=.ref b/\H b=some (.tup (k.map kV))/\r=Bs c k
def cJ(H:Hp)(a:Addr)(y v:V)(d:Hp):Prop:= (∃c k,H a=some (.dK c)/\y=kV k/\c.length<sizeLine/\d=upd H a (.dK (putK c k v)))∨
 ∃c k b,H a=some (.dT c)/\y=.ref b/\H b=some (.tup (k.map kV))/\c.length<sizeLine/\d=upd H a (.dT (putK c k v))
variable{Q:Value->Shared->Prop}{h':Heap}
section
variable {v:V} {r:Value} 
theorem Inv.big(I:Inv X pins σ H s):sysModules<s.heap.objs.size:=by
 have h:mainGlobals<s.heap.objs.size:=(I.mod.glob.keeps I.bk).lt;exact Nat.lt_trans (by decide) h
theorem Pe(t:A.units+1<cLine)(I:Inv X pins σ H s)(g:YZ H a y (some v))(q:RelV y u)(h:∀f s',Inv X pins σ H s'->RelV v f->Q f s'):
  wpAny (model X.prog X.w) A (getItem (.ref a) u) Q E s:=by
 rcases g with⟨i,k,e,j,l⟩|⟨i,k,b,e,j,x,l⟩
 ·subst j;obtain⟨z,B,C,c,m⟩:=GC I.Al e;obtain⟨f,hw,d⟩:=Cg.some_of (v:=v) (o:=valueAt C k) (by rw[l];exact c.val k);exact wpAny_getItem_of (KO q) m.mapOf hw (h f _ (I.tok _) d)
 ·subst j;cases(show u=Value.ref b from q);obtain⟨z,B,xs,c,m⟩:=RX I.Al e;obtain⟨f,hw,d⟩:=Cg.some_of (v:=v) (o:=(atKey xs k).map (·.2)) (by rw[l];exact c.val k);obtain⟨p,D,n⟩:=Option.map_eq_some_iff.mp hw;refine wpAny_getItem_heap (tupleKind_room_in1 t) (MB I.Al x) m D ?_;rw[n];exact h f _ (I.tok _) d
theorem Nu{ob:HO}(I:Inv X pins σ H s)(c:bR (H a))(d:Heap.SameBut a s.heap h')(f:∃q,h'.get? a=some q)(new:Ah X.prog X.w (upd H a ob) h' a ob):
  Inv X pins σ (upd H a ob) {s with heap:=h',toks:=t'}:=
 I.write (x:=a) (e:=a) c (.inl rfl) (fun b q g z=>(d.2 b g).trans z) f new
theorem RY{c:Hp}{kvs:List (Key×V)}{vs:List (Key×Value)}(z:kvs.length<=sizeLine)(d:(a==sysModules)=false)(b:KV kvs vs)(dd:h'.DictOf (Ag P w) a vs):
  Ah P w c h' a (.dK kvs):=⟨z,d,vs,b,dd⟩
theorem Pf{D:Hp}{Q:Unit->Shared->Prop}(M:A.units+1<cLine)(I:Inv X pins σ H s)(g:cJ H a y v D)(F:RelV y u)(G:RelV v r)(h:∀s',Inv X pins σ D s'->Q () s'):
  wpAny (model X.prog X.w) A (setItem (.ref a) u r) Q E s:=by
 rcases g with⟨d,k,e,m,l,n⟩|⟨d,k,b,e,m,J,l,n⟩
 ·subst m n;obtain⟨z,p,N,f,t⟩:=cH I.Al e;have x:N.length<=sizeLine:=by rw[<-f.length];exact z
  have B:(putK d k v).length<=sizeLine:=by have:=Ey d k v;lia
  refine wpAny_setItem_pairs (hsz:=x) (KO F) t fun K i C=>h _ ?_;have O:∃q,K.get? a=some q:=let⟨q,_,_,j,_⟩:=i;⟨q,j⟩;exact Nu I (by rw[e];exact True.intro) C O (RY B p (f.put k G) i)
 ·subst m n;cases(show u=Value.ref b from F);obtain⟨z,p,xs,f,t⟩:=cI I.Al e;have x:xs.length<=sizeLine:=by rw[<-Paired.length f];exact z
  have B:(putK d k v).length<=sizeLine:=by have:=Ey d k v;lia
  refine wpAny_setItem_heap (hsz:=x) (tupleKind_room_in1 M) (MB I.Al J) t fun K i C=>h _ ?_;obtain⟨q,P,R,j,S,T,U,_,Y⟩:=i;refine Nu I (by rw[e];exact True.intro) C ⟨q,j⟩ ⟨B,p,_,(f.put k J G).keeps fun c Z L=>?_,q,P,R,j,S,T,U,Y⟩;rw[AH (bP L e (fun z=>nomatch z))];exact L
end
section
variable {kvs:List (Key×V)} {k:Key} 
end
def VE(i:Expr):Prop:=∀a b,subscripted i false a b=operate [a,b] (getItem a b)
theorem Nv{env:Env}{value slice:Expr}{pos:Pos}{id:String}(j:typeLookup (.type T) "__getitem__"=pure (some (.builtin id)))(k:VE slice)(h:wpAny (model prog w) A (eval value env) (fun o c=>wpAny (model prog w) A (eval slice env) (fun i a=>a.TypeIs o T/\wpAny (model prog w) A (getItem o i) Q E a) E c) E s):
  wpAny (model prog w) A (eval (.Subscript value slice pos) env) Q E s:=by
 refine Subscript_ (wpAny_mono h (fun o c e=>wpAny_mono e (fun i a b=>?_) fun _ _ x=>x) fun _ _ x=>x);obtain⟨g,b⟩:=b;unfold subscriptTail;refine wpAny_bind ?_;rw[getitemInPython_of_ne g.not_modules];refine wpAny_bind (wpAny_specialOf g j ?_);have fin:wpAny (model prog w) A (subscripted slice false o i) (fun r d=>wpAny (model prog w) A (letTemporaryGo value o r>>=fun _=>pure r) Q E d) E a:=by
  rw[k o i];exact wpAny_operating (wpAny_mono b (fun r d f=>wpAny_bind (wpAny_letTemporaryGo (wpAny_pure f))) fun _ _ x=>x)
 first
  |exact wpAny_pure (wpAny_bind fin)
  |exact wpAny_bind (wpAny_pure (wpAny_bind fin))
  |exact wpAny_bind fin
theorem KP{f:St}(I:Inv X pins f H s)(g:YZ H a y o):s.TypeIs (.ref a) "dict":=by
 rcases g with⟨c,k,e,_,_⟩|⟨c,k,b,e,_,_,_⟩
 ·obtain⟨_,_,h,_,d⟩:=GC I.Al e;exact d.typeIs
 ·obtain⟨_,_,xs,_,d⟩:=RX I.Al e;exact d.typeIs
inductive lE(x y:V)(H:Hp)(Q:VK):Prop
 |mk(a:Addr)(v:V)(e:x=.ref a)(g:YZ H a y (some v))(q:Q v H)
def Xb(b ty:TE):TE:=fun a H Q=>b a H fun x c=>ty a c fun y d=>lE x y d Q
def cK(d ty e:TE):TS:=fun D b H=>e b H fun v f=>d b f fun x g=>ty b g fun y h=>∃a c,x=.ref a/\cJ h a y v c/\D.nx b c
section
variable {o i value:Expr} {pos pos' gC:Pos} {td ty tv:TE}
theorem VF(f:X.A.units+1<cLine)(j:PE X o td)(k:PE X i ty)(l:VE i):PE X (.Subscript o i pos) (Xb td ty):=by
 intro pins s c H Q I h;refine Nv PySem.F.slot_dict_getitem.lookup l (Aw (j pins s c H _ I h) fun u m n=>n.elim fun x p q r t=>Aw (k pins m c p _ q t) fun E G ⟨y,w,d,z,a,v,B,g,C⟩=>?_);subst B;obtain rfl:u=Value.ref a:=r;exact⟨KP d g,Pe f d g z fun J K D b=>⟨v,w,D,b,C⟩⟩
theorem VG(d:X.A.units+1<cLine)(f:PE X o td)(j:PE X i ty)(k:PE X value tv)(l:swapsWith value (some (.Subscript o i pos')) pos.line X.env=pure false):
  PS X (.Assign [.Subscript o i pos'] value pos) (cK td ty tv):=by
 intro pins s b H D I h;refine wpAny_Assign_Subscript (Aw (k pins s b H _ I h) fun r m c=>c.elim fun v n p q t=>Aw (f pins m b n _ p t) fun u w c=>c.elim fun x z B C E=>Aw (j pins w b z _ B E) fun N O ⟨y,P,F,G,a,J,K,g,L⟩=>?_) l;subst K;obtain rfl:u=Value.ref a:=C;exact Pf d F g G q fun Q M=>⟨b,J,M,L⟩
end
theorem RZ(h:Heap)(a:sysModules<h.objs.size):Ah P w H (h.push {cls:=.type "dict",data:=.dict #[]}) h.objs.size (.dK []):=
 ⟨Nat.zero_le _,beq_eq_false_iff_ne.mpr (Ne.symm (Nat.ne_of_lt a)),[],.nil,Heap.DictOf.new h⟩
def Ya:TE:=fun _ H Q=>Uk H (.dK []) Q
section
variable {pos:Pos}
theorem KQ:PE X (.Dict [] [] pos) Ya:=fun pins s b H Q I h=>
 wpAny_Dict_empty ⟨.ref s.heap.objs.size,_,I.laid (a:=s.heap.objs.size) (o:=.dK []) (t':=s.toks) (fun _ _ q=>Heap.get?_push_of_some _ q) (Nat.le_refl _) (RZ s.heap I.big),rfl,h _ (I.Al.fresh (Nat.le_refl _))⟩
end
section
variable {d:V} {r:Value} 
end
section
variable {o f:Expr} {apos By:Pos} {td ty tx:TE}
end
section
variable {kvs:List (Key×V)} 
theorem Ra(I:Inv X pins σ H s)(e:Rd H a (.dK kvs))(h:∀p s',H p=none->Inv X pins σ (upd H p (.dK kvs)) s'->Q (.ref p) s'):wpAny (model X.prog X.w) A (call (.type "dict") [.ref a]) Q E s:=by
 obtain⟨z,g,k,c,i⟩:=GC I.Al e;refine kt_call_dict g i (by rw[<-c.length];exact z) fun l d j=>?_;refine h _ _ (I.Al.fresh (Nat.le_refl _)) (I.laid (a:=s.heap.objs.size) (o:=.dK kvs) (t':=s.toks) (fun b q f=>?_) (Nat.le_refl _) (RY z (beq_eq_false_iff_ne.mpr (Ne.symm (Nat.ne_of_lt I.big))) c d));exact(j.2 b (Nat.ne_of_lt (Heap.lt_size f))).trans (Heap.get?_push_of_some _ f)
end
section
end
end L2
namespace je
open PySem PySem.W PySem.Calls PyProof.Rows
variable{P:Params}
theorem FO{h:Heap}:∀(c:List Int)(vs:List Value),WellAll P h vs (c.map WData.int)->IntsAre vs c:=by
 intro c
 induction c with
 |nil=>
  intro vs w;rw[List.map_nil]at w;cases w;exact .nil
 |cons n c d=>
  intro vs w;rw[List.map_cons]at w;cases w with
  |cons a b=>
   cases a;exact .cons _ _ (d _ b)
variable{l:OpenLaw}
theorem Pg{n:Nat}(m:l.most=some n){h:Heap}{args:List WData}{vals:List Value}(c:l.row.toRowW.claim.pre args=true)(i:WellAll P h vals args):
  ∃a vs b,vals=[Value.ref a]/\args=[WData.list (b.map WData.int)]/\h.get? a=some {cls:=.type "list",data:=.seq vs.toArray}/\IntsAre vs b/\b.length<=n:=by
 have j:WShape.hasAll [] args [.list .int]=true:=(pre_splitW c).1;have k:l.pre.holds [] {args:=args}=true:=(pre_splitW c).2;obtain⟨d,r,rfl,o,p⟩:=hasAllW_cons j;obtain rfl:=hasAllW_nil p;obtain⟨xs,rfl,s⟩:=hasW_list o;obtain⟨b,rfl⟩:=items_int s;have hlen:b.length<=n:=by
  unfold OpenLaw.pre at k;have f:(WTm.not (.lt (.lit (.int (n:Int))) (.len (.arg 0)))).holds [] {args:=[.list (b.map .int)]}=true:=by
   have f:=(holds_andW k).1;rw[m]at f;exact f
  have g:=condW_of f (w_not (w_lt w_lit (w_len_list (w_arg rfl))));rw[List.length_map]at g;refine Nat.le_of_not_lt fun q=>?_;have t:(n:Int)<((b.length:Nat):Int):=by lia
  first
   |(rw[decide_eq_true t]at g;exact absurd g (by decide))
   |(simp at g;lia)
 cases i with
 |cons u v=>
  cases v;cases u with
  |list w e=>exact⟨_,_,b,rfl,rfl,w,FO b _ e,hlen⟩
theorem Ph(l:OpenLaw)(args:List WData):l.row.toRowW.claim.post args (.bool true) args=true:=
 postW_of (r:=l.row.toRowW) (X:=(true==true)) (show WShape.has [] (.bool true) .bool=true by first|rfl|decide|simp[WShape.has,WShape.arms,WShape.armsAll]) (show(WTm.eq .res (.lit (.bool true))).value [] {args:=args,res:=some (.bool true),after:=args}=some (.bool (true==true))from w_eq_bool (w_res rfl) w_lit) rfl
theorem KR{n:Nat}{q:Program}{loose:List Str}{v:(Str->Option Value)->Heap->Prop}{YP:World->Heap->Prop}{d:DefRec}(z:l.most=some n)(k:d.params.defaults=[])(call:∀(w:World) (s₀ b:Shared) (mg m:Str->Option Value) (fa:Addr) (o:Obj) (p h c:Value) (a:Addr) (vs:List Value) (i:List Int),
   Ground q loose [] v w s₀ mg m b.heap->YP w b.heap->
   b.heap.get? fa=some o->o.data=.func (docDef d.name d.params d.body d.scope p h c)->b.heap.CodeRec h d.name->mg d.name=some (.ref fa)->
   b.heap.get? a=some {cls:=.type "list",data:=.seq vs.toArray}->IntsAre vs i->i.length<=n->b.gens= #[]->
   codeAny (model l.prog w) callerA (.call (.ref fa) ⟨[.ref a],[]⟩) (fun r j=>r=.ok (.ret (.bool true))/\OldK b.heap j.heap/\j.os=b.os/\AllBare j.gens) b):
  WalkO q loose v YP l.row.toRowW d [] (fun f vs=>PySem.call f vs):=by
 intro w s₀ b mg m G Y fa o p h c A kV B C s x t D args vals M e y E u F;obtain rfl:A=.none:=Dflts.none x k;obtain rfl:kV=.none:=Dflts.noKw x;obtain⟨a,vs,i,rfl,rfl,g,hints,hlen⟩:=Pg z e u;refine enter_call (codeAny_mono (call w s₀ b mg m fa o p h c a vs i G Y B (fd_plain C) s t g hints hlen D) fun r j H=>?_);obtain⟨rfl,I,J,K⟩:=H;exact⟨.inl ⟨.bool true,.bool true,[],rfl,fun _=>rfl,.bool true,Ph l _,fun _=>⟨List.Pairwise.nil,fun _ L=>(nomatch L)⟩⟩,I,J,K⟩
section
variable{prog:Program} {w:World} {A:Around} {E:Value->Shared->Prop} {s:Shared} {K:Frag}
end
end je
namespace L2
open PySem PySem.Spec PyProof.Rows
variable{vs:List Value}
theorem Pj{a:List Int}(h:IntsAre vs a):Vals (a.map V.int) vs:=by
 induction h with
 |nil=>exact .nil
 |cons n t _ b=>exact .cons ⟨t,rfl⟩ b
def Yb(H:Hp):Prop:=∀b,H b=none∨∃o xs,H b=some (.Ci o (.lst xs))
variable{mg:Str->Option Value}{w:World}{k:Nat}{K:qG}{P:Program}
theorem Rb{L:Str->Option Value}{CX:HZ}{fa a:Addr}{T:FuncData}{x:Str}{sp:Sp}{c:Shared}{p:List Int}(U:K.In c.heap)(t:c.heap.Ns mainGlobals mg)(g:c.heap.Ns builtinsNs L)(M:∀x:Str,x≠"__name__"->L x=bootBuiltins x)(y:c.heap.NoLimit)(hg:c.gens= #[])(J:c.heap.get? a=some {cls:=.type "list",data:=.seq vs.toArray})(X:IntsAre vs p)(Y:p.length<=sizeLine)(hr:Aq k callerA)(F:∀base:Heap,K.In base->base.Ns mainGlobals mg->AV P w K mg base CX k fa T [x] sp)(l:∀(s:Shared) (u:Value),BindsTo s T ⟨[u],[]⟩ [(x,u)])(N:∀H:Hp,Yb H->Ap K H a (p.map V.int)->sp [.ref a] H (fun v _=>v=.bl true) fun _ _ _=>False)(O:∀H e i,CX [] H c (fun _ _ _=>False) e i->False):
  codeAny (model P w) callerA (.call (.ref fa) ⟨[.ref a],[]⟩) (fun r i=>r=.ok (.ret (.bool true))/\OldK c.heap i.heap/\i.os=c.os/\AllBare i.gens) c:=by
 have Z:=Pj X;have A:=X.length;have core:∀H:Hp,Yb H->Ap K H a (p.map V.int)->Cf P w H c.heap->(∀b,H b≠none->b=a)->(H a≠none->K.lookup a=none)->
   codeAny (model P w) callerA (.call (.ref fa) ⟨[.ref a],[]⟩) (fun r i=>r=.ok (.ret (.bool true))/\OldK c.heap i.heap/\i.os=c.os/\AllBare i.gens) c:=by
  intro H hO hS B hA hK;have f:∀{b:Addr}{o:Obj},c.heap.get? b=some o->H b=none->(IH c.heap H).get? b=some o:=fun e n=>Qx e n;have Q:∀{b:Addr}{o:Obj}{C:Array DictEntry}{D:Nat},c.heap.get? b=some o->o.data=.dict C D->H b=none:=fun{b o C D} e d=>by
   cases q:H b with
   |none=>rfl
   |some u=>
    have R:b=a:=hA b (by rw[q];simp);subst R;rw[J]at e;cases e;have d':Data.seq vs.toArray _=Data.dict C D:=d;cases d'
  have j:∀{b:Addr}{m:Str->Option Value},c.heap.Ns b m->(IH c.heap H).Ns b m:=fun{b m} ⟨o,C,D,e,d,r⟩=>⟨o,C,D,f e (Q e d),d,r⟩;have E:K.In (IH c.heap H):=fun b o e=>f (U b o e) (by
   cases q:H b with
   |none=>rfl
   |some u=>
    have R:b=a:=hA b (by rw[q];simp);subst R;rw[hK (by rw[q];simp)]at e;cases e)
  have hM:Mod K mg (IH c.heap H):=⟨E,j t,⟨L,j g,M⟩,let⟨mc,h1,h2⟩:=y;⟨mc,j h1,h2⟩⟩;have e0:Fw P w K mg (IH c.heap H) callerA [] c H:=⟨rfl,hM,fun b o e=>Uq e,Nat.le_of_eq (PM _ _),trivial,fun b g=>absurd (show b∈([]:List Addr)from g) (by simp),B,.of_eq hg⟩;refine codeAny_mono ((F _ E (j t)).run callerA [] c H ⟨[.ref a],[]⟩ [.ref a] [.ref a] _ _ hr e0 (l c (.ref a)) (.cons rfl .nil) (N H hO hS)) fun r i h=>?_;cases r with
  |error e=>exact(O H e i h).elim
  |ok fl=>
   cases fl with
   |next=>exact False.elim h
   |brk=>exact False.elim h
   |cont=>exact False.elim h
   |ret u=>
    obtain⟨v,H',os,bare,un,G,r',q⟩:=h;have q':v=.bl true:=q;subst q';obtain rfl:u=Value.bool true:=r';refine⟨rfl,OldK.of_keep fun b o e=>?_,os,bare⟩;cases q:H b with
    |none=>exact un.keep b o e q (by intro z;exact absurd (show b∈([]:List Addr)from z) (by simp)) (by simp)
    |some u=>
     rcases hO b with z|⟨ob,xs,z⟩
     ·rw[q]at z;cases z
     ·have z2:=un.DV b ob _ z;obtain⟨e1,_⟩:=B b _ z;obtain⟨e2,_⟩:=G b _ z2;rw[e]at e1;cases e1;exact e2
 cases S:K.lookup a with
 |some o=>
  have e:=U a o S;rw[J]at e;cases e;refine core (fun _=>none) (fun _=>.inl rfl) (.inr ⟨_,vs.toArray,_,S,rfl,rfl,rfl,by rw[List.size_toArray,A];exact Y,by simpa using Z⟩) (fun b u z=>by have I:(none:Option HO)=some u:=z;cases I) (fun b z=>absurd rfl z) fun z=>absurd rfl z
 |none=>
  refine core (fun b=>if b=a then some (.Ci {cls:=.type "list",data:=.seq vs.toArray} (.lst (p.map V.int)))else none) (fun b=>?_) (.inl (.inr ⟨{cls:=.type "list",data:=.seq vs.toArray},if_pos rfl⟩)) (fun b u z=>?_) (fun b z=>?_) fun _=>S
  ·by_cases g:b=a
   ·exact .inr ⟨_,_,if_pos g⟩
   ·exact .inl (if_neg g)
  ·by_cases g:b=a
   ·have I:=(if_pos g).symm.trans z;cases I;subst g;exact⟨J,by rw[List.length_map];exact Y,vs,_,Z,J⟩
   ·have I:=(if_neg g).symm.trans z;cases I
  ·by_cases g:b=a
   ·exact g
   ·exact absurd (if_neg g) z
theorem VH{l:PySem.W.OpenLaw}{n:Nat}{q:Program}{loose:List Str}{C:(Str->Option Value)->Heap->Prop}{YP:World->Heap->Prop}{d:DefRec}{K:Params->qG}{CX:World->HZ}{sp:World->Sp}{x:Str}(D:l.most=some n)(m:n<=sizeLine)(p:d.params.defaults=[])(E:Aq k callerA)(I:∀(w:World) (h:Heap),YP w h->(K w.params).In h)(F:∀(w:World) (mg:Str->Option Value) (fa:Addr) (h:Heap),(K w.params).In h->h.Ns mainGlobals mg->mg d.name=some (.ref fa)->
   ∃r:FuncData,(∀(s:Shared) (u:Value),BindsTo s r ⟨[u],[]⟩ [(x,u)])/\
    ∀base:Heap,(K w.params).In base->base.Ns mainGlobals mg->AV l.prog w (K w.params) mg base (CX w) k fa r [x] (sp w))(t:∀(w:World) (H:Hp) (a:Addr) (j:List Int),j.length<=n->Yb H->Ap (K w.params) H a (j.map V.int)->sp w [.ref a] H (fun v _=>v=.bl true) fun _ _ _=>False)(y:∀(w:World) (H:Hp) (s:Shared) (e:Value) (s':Shared),CX w [] H s (fun _ _ _=>False) e s'->False):
  PySem.W.WalkO q loose C YP l.row.toRowW d [] (fun f vs=>PySem.call f vs):=by
 refine je.KR D p fun w A c mg R fa o S U J a vs j G Y X Z L z i hints hlen M=>?_;have B:=I w _ Y;obtain⟨r,N,O⟩:=F w mg fa _ B G.T.g z;exact Rb B G.T.g G.T.b G.T.builtins G.T.nolimit M i hints (Nat.le_trans hlen m) E O N (fun H P Q=>t w H a j hlen P Q) fun H e s'=>y w H c e s'
def inClass(s:Stmt)(j:Nat):Stmt:=match s with
 | .ClassDef _ _ _ body _ _ _ _ _ _ _=>body.getD j (.Pass ⟨0,0,0,0⟩)
 |_=>.Pass ⟨0,0,0,0⟩
def AX(s:Stmt):Arguments:=match s with
 | .FunctionDef _ a _ _ _ _ _ _ _ _=>a
 |_=>{posonlyargs:=[],args:=[],vararg:=none,kwonlyargs:=[],kw_defaults:=[],kwarg:=none,defaults:=[]}
def AU(s:Stmt):List Stmt:=match s with
 | .FunctionDef _ _ b _ _ _ _ _ _ _=>b
 |_=>[]
def AJ(s:Stmt):Scope:=match s with
 | .FunctionDef _ _ _ _ _ _ a _ _ _=>a
 |_=>{kind:=.function,names:=[],isGenerator:=false,isCoroutine:=false}
abbrev BP:HZ:=fun _ _ _ _ _ _=>False
abbrev E0:XK:=fun _ _ _=>False
variable{X:Cx}
theorem Cv:Passes BP X E0:=fun _ _ _ _ _ _ _ h=>h.elim
structure CT(K:qG)(x qual:Str)(st:Stmt)(f:Addr)(fd:FuncData):Prop where
 ex:∃(oc:Value)(od:Option Addr)(kV doc pm:Value)(an:Option Addr)(cL ct:Value)(lF:Array (Option Value)),
  fd=PySem.W.fnOf x qual (AX st) (AU st) (AJ st) .none kV doc pm an cL ct/\K.lookup f=some ⟨oc,od,.func fd,lF⟩/\PySem.W.codeIn K cL qual=true
 kp:PySem.W.keepIn K (.ref f)=true
variable{qual:Str}{st:Stmt}{f:Addr}
section
variable {base:Heap}
theorem CT.ok{x:Str}{g:FuncData}{N ps:List Str}{sp:Sp}(F:CT K x qual st f g)(S:BO N ps (AJ st))(len:∀vs H Q E,sp vs H Q E->vs.length=ps.length)(b:∀(a:Value) (A:Around) (outer:List Env) (s:Shared) (H:Hp) (vs:List V) (e:Ends) (E:XK),(∀{i H},e.rt .Ae H->e.nx i H)->Aq k (A.deeper (envOfC qual (AJ st) s.heap.objs.size f a))->sp vs H e.rt E->
   ∃t,G' (CO BP P w K mg base N qual (AJ st) f a A outer s H E).Uu (AU st) t/\t e (start N vs) H):AV P w K mg base BP (k+1) f g ps sp:=by
 obtain⟨o,p,kV,j,r,u,a,v,l,rfl,lk,c⟩:=F.ex;refine XZ lk c S len fun A outer s H vs Q E m d=>?_;obtain⟨t,h,q⟩:=b a A outer s H vs {nx:=fun _ n=>Q .Ae n,rt:=Q} E id m d;exact⟨t,h.Uu,q⟩
theorem CT.binds{x:Str}{e:FuncData}{ps:List Str}(F:CT K x qual st f e)(h:∀(kV a c:Value) (d:Option Addr) (b ct:Value) (us:List Value),us.length=ps.length->bindArgs (PySem.W.fnOf x qual (AX st) (AU st) (AJ st) .none kV a c d b ct) ⟨us,[]⟩=pure (ps.zip us)):Binds K e ps []:=by
 obtain⟨j,k,kV,a,c,d,b,ct,g,rfl,lk,i⟩:=F.ex;exact .all (h kV a c d b ct)
theorem Av{x:Str}{h:Value}{od e:Option Addr}{d:Array (Option Value)}{kV b g a ct:Value}(l:K.lookup f=some ⟨h,od,.func (PySem.W.fnOf x qual (AX st) (AU st) (AJ st) .none kV b g e a ct),d⟩)(c:PySem.W.codeIn K a qual=true)(k:PySem.W.keepIn K (.ref f)=true):CT K x qual st f (PySem.W.fnOf x qual (AX st) (AU st) (AJ st) .none kV b g e a ct):=⟨⟨h,od,kV,b,g,e,a,ct,d,rfl,l,c⟩,k⟩
end
variable{A:Around}
theorem Hk(a:Aq k A):A.units+1<cLine:=Nat.lt_of_le_of_lt (Nat.add_le_add_left (by decide:1<=64) _) a.units
theorem BH{n:Nat}(h:n<=1000):n<sizeLine:=Nat.lt_of_le_of_lt h (by decide)
section
theorem pv(i:Nat){x:Str}{pos:Pos}(b:X.N[i]?=some x:=by rfl)(c:bS X.env.scope x:=by first|exact Or.inl rfl|exact Or.inr (Or.inl rfl)|exact Or.inr (Or.inr rfl))(d:(x==("__debug__":Str))=false:=by decide)(a:(x==("__classdict__":Str))=false:=by decide):PE X (.Name x pos) (YD i):=YE b c d a
end
theorem Aa{A B:Prop}(h:B):if false=true then A else B:=by
 rw[if_neg Bool.false_ne_true];exact h
theorem Co{A B:Prop}(h:A):if true=true then A else B:=by
 rw[if_pos rfl];exact h
theorem KS{c A B:Prop}[Decidable c](a:c->A)(b:¬c->B):if c then A else B:=by
 by_cases h:c
 ·rw[if_pos h];exact a h
 ·rw[if_neg h];exact b h
def AG(H a:Hp):Prop:=∀b o,H b=some o->a b=some o
theorem AG.refl(H:Hp):AG H H:=fun _ _ h=>h
variable{H:Hp}
theorem AG.trans{d e:Hp}(a:AG H d)(b:AG d e):AG H e:=fun c o h=>b c o (a c o h)
theorem AG.free{a:Hp}(e:AG H a){l:Addr}(h:a l=Option.none):H l=Option.none:=by
 cases q:H l with
 |none=>rfl
 |some o=>
  rw[e l o q]at h;cases h
theorem AG.seq{b:Hp}{a:Addr}{xs:List V}(e:AG H b)(h:Ap K H a xs):Ap K b a xs:=by
 rcases h with(h|⟨o,h⟩)|h
 ·exact .inl (.inl (e _ _ h))
 ·exact .inl (.inr ⟨o,e _ _ h⟩)
 ·exact .inr h
section
variable{κ:Type} [DecidableEq κ]
end
variable{s:Shared}{scope:Scope}
theorem MC{prog:Program}{R:Result->Shared->Prop}{a f iter:Expr}{d:List Expr}{pos:Pos}{it b:Value}{env:Env}(e:Nat->Shared->Prop)(step:∀n s,e n s->wpAny (model prog w) A (pyNext it) (fun r o=>match r with
   |none=>R (.ok .next) o
   |some v=>wpAny (model prog w) A (letOwnedTupleGo f it v) (fun _ p=>wpAny (model prog w) A (assign f env v) (fun _ u=>
     wpAny (model prog w) A (forIn d true fun c r=>if r=true then do let ok<-isTrue c env (eval c env);pure (ForInStep.yield ok)else pure (ForInStep.yield r)) (fun ok g=>
      if ok=true then wpAny (model prog w) A (eval a env) (fun y i=>wpAny (model prog w) A (call (.builtin "list.append") [b,y]) (fun _ j=>∃m,m<n/\e m j) (fun _ _=>False) i) (fun _ _=>False) g
      else∃m,m<n/\e m g) (fun _ _=>False) u) (fun _ _=>False) p) (fun _ _=>False) o) (fun _ _=>False) s)(n:Nat)(h:e n s):codeAny (model prog w) A (.compLoop (.ListComp a [⟨f,iter,d,0⟩] scope pos) 0 it b env) R s:=by
 have up:∀{B:Type}{t:Sem B}{Q:B->Shared->Prop}{E:Value->Shared->Prop}{s:Shared},wpAny (model prog w) A t Q (fun _ _=>False) s->wpAny (model prog w) A t Q E s:=
  fun h=>wpAny_mono h (fun _ _ q=>q) fun _ _ z=>z.elim
 refine codeAny_loop rfl e (fun k s D=>?_) n h;show wpAny _ A ((compTurn (.ListComp a [⟨f,iter,d,0⟩] scope pos) 0 it b env).onRaise (fun x=>do noteFrame x env;theTreesLotGoes x)) _ _ s;refine wpAny_noted ?_;rw[compTurn_list];refine wpAny_bind (wpAny_standAt (wpAny_bind (wpAny_mono (up (step k s D)) (fun r o C=>?_) fun _ _ z=>z)));cases r with
 |none=>exact wpAny_pure C
 |some v=>
  refine wpAny_bind (wpAny_mono (up C) (fun _ p F=>?_) fun _ _ z=>z);refine wpAny_bind (wpAny_mono (up F) (fun _ u G=>?_) fun _ _ z=>z);refine wpAny_bind (wpAny_mono (up G) (fun ok g l=>?_) fun _ _ z=>z);cases ok with
  |false=>exact wpAny_pure ⟨rfl,l⟩
  |true=>
   have l:wpAny (model prog w) A (eval a env) (fun y i=>wpAny (model prog w) A (call (.builtin "list.append") [b,y]) (fun _ j=>∃m,m<k/\e m j) (fun _ _=>False) i) (fun _ _=>False) g:=l;exact wpAny_bind (wpAny_bind (wpAny_mono (up l) (fun y i H=>wpAny_bind (wpAny_mono (up H) (fun _ j I=>wpAny_pure (wpAny_pure ⟨rfl,I⟩)) fun _ _ z=>z)) fun _ _ z=>z))
noncomputable def Bp(cells:List (Str×Addr)):List (Str×NameKind)->List (Str×Addr)->List (Str×Addr)
 |[],a=>a
 |(n,k)::r,a=>if k==.free then Bp cells r ((n,(cells.lookup n).getD 0)::a)else Bp cells r a
theorem Cp{x:Str}:∀(names:List (Str×NameKind))(a:List (Str×Addr)),(∀p∈names,p.2=.free->∃c,cells.lookup p.1=some c)-> (∀y d,a.lookup y=some d->cells.lookup y=some d)->(Bp cells names a).lookup x=some c->cells.lookup x=some c
 |[],a=>fun _ g h=>g x c h
 |(n,k)::r,a=>fun i g h=>by
  unfold Bp at h;by_cases j:(k==NameKind.free)=true
  ·rw[if_pos j]at h;have o:k=.free:=by simpa using j
   obtain⟨d,q⟩:=i (n,k) List.mem_cons_self o;refine Cp r _ (fun p l=>i p (List.mem_cons_of_mem _ l)) (fun y e f=>?_) h;rw[List.lookup_cons]at f;cases b:y==n with
   |true=>
    rw[b]at f;have:y=n:=by simpa using b
    subst this;have m:List.lookup y cells=some d:=q;rw[m]at f⊢;exact f
   |false=>
    rw[b]at f;exact g y e f
  ·rw[if_neg j]at h;exact Cp r a (fun p l=>i p (List.mem_cons_of_mem _ l)) g h
theorem DR:∀(names:List (Str×NameKind))(a:List (Str×Addr)),((a.lookup x).isSome=true∨(x,NameKind.free)∈names)->((Bp cells names a).lookup x).isSome=true
 |[],a,h=>h.elim (fun z=>z) fun z=>nomatch z
 |(n,k)::r,a,h=>by
  unfold Bp;by_cases b:(k==NameKind.free)=true
  ·rw[if_pos b];refine DR r _ ?_;rcases h with h|h
   ·refine .inl ?_;rw[List.lookup_cons];cases x==n<;>simp[h]
   ·rcases List.mem_cons.mp h with e|e
    ·refine .inl ?_;have:x=n:=congrArg Prod.fst e;subst this;rw[List.lookup_cons];simp
    ·exact .inr e
  ·rw[if_neg b];refine DR r _ ?_;rcases h with h|h
   ·exact .inl h
   ·rcases List.mem_cons.mp h with e|e
    ·have:NameKind.free=k:=congrArg Prod.snd e;subst this;exact absurd rfl b
    ·exact .inr e
theorem CU(h:∀p∈scope.names,p.2=.free->∃c,env.cells.lookup p.1=some c):closureFor scope env=pure (Bp env.cells scope.names []):=by
 have go:∀(names:List (Str×NameKind))(b:List (Str×Addr)),(∀p∈names,p.2=.free->∃c,env.cells.lookup p.1=some c)-> (forIn names b (fun(x:Str×NameKind) r=>if(x.2==NameKind.free)=true then do let a<-cellOf env x.1;pure (ForInStep.yield ((x.1,a)::r))else pure (ForInStep.yield r)):Sem (List (Str×Addr)))=pure (Bp env.cells names b):=by
  intro names
  induction names with
  |nil=>intro b _;rfl
  |cons p r j=>
   intro b f;obtain⟨n,k⟩:=p;rw[List.forIn_cons];unfold Bp;by_cases g:(k==NameKind.free)=true
   ·have l:k=.free:=by simpa using g
    obtain⟨c,d⟩:=f (n,k) List.mem_cons_self l;have d:List.lookup n env.cells=some c:=d;have e:cellOf env n=pure c:=by unfold cellOf;rw[d]
    simp only[g,if_true,e,d,Option.getD_some];exact j _ fun p i=>f p (List.mem_cons_of_mem _ i)
   ·simp only[g,if_false];exact j _ fun p i=>f p (List.mem_cons_of_mem _ i)
 unfold closureFor;exact Eq.trans (congrArg (fun t:Sem (List (Str×Addr))=>t>>=fun m=>pure m) (go scope.names [] h)) rfl
def KU(env:Env)(n:Str)(k:NameKind):NameKind:=if(k==.free&&env.scope.kind==.function&&env.kindOf n==some .cell)=true then .cell else k
theorem EC{g:Str->NameKind->NameKind}(y:Str):∀names:List (Str×NameKind),(names.map fun p=>(p.1,g p.1 p.2)).lookup y=(names.lookup y).map (g y)
 |[]=>rfl
 |(n,k)::r=>by
  rw[List.map_cons,List.lookup_cons,List.lookup_cons];cases e:y==n with
  |true=>
   have:y=n:=by simpa using e
   subst this;rfl
  |false=>exact EC y r
theorem Bz(scope:Scope)(env:Env)(y:Str):(relabel scope env).names.lookup y=(scope.names.lookup y).map (KU env y):=by
 have e:(relabel scope env).names=scope.names.map fun p=>(p.1,KU env p.1 p.2):=by
  unfold relabel;refine List.map_congr_left fun p _=>?_;obtain⟨n,k⟩:=p;show(if(k==NameKind.free&&env.scope.kind==.function&&env.kindOf n==some .cell)=true then(n,NameKind.cell)else(n,k))=(n,if(k==NameKind.free&&env.scope.kind==.function&&env.kindOf n==some .cell)=true then NameKind.cell else k);by_cases h:(k==NameKind.free&&env.scope.kind==.function&&env.kindOf n==some .cell)=true
  ·rw[if_pos h,if_pos h]
  ·rw[if_neg h,if_neg h]
 rw[e];exact EC y _
def Bu(a:St)(fs:List Nat):St:=fs.map fun i=>(a[i]?).join
theorem Pk{b:St}{fs:List Nat}{j:Nat}{v:V}(h:(Bu b fs)[j]?=some (some v)):∃i,fs[j]?=some i/\b[i]?=some (some v):=by
 unfold Bu at h;rw[List.getElem?_map]at h;cases e:fs[j]? with
 |none=>rw[e]at h;cases h
 |some i=>
  rw[e]at h;refine⟨i,rfl,?_⟩;have a:(b[i]?).join=some v:=qB h;cases e2:b[i]? with
  |none=>rw[e2]at a;cases a
  |some o=>
   rw[e2]at a;have a:o=some v:=a;rw[a]
noncomputable def kindB:Bool->NameKind
 |true=>.cell
 |false=>.local
noncomputable def Yc:Bool->Str->List (Str×NameKind)
 |true,x=>[(x,.cell)]
 |false,_=>[]
noncomputable def EW:Bool->Str->Addr->List (Str×Addr)
 |true,x,C=>[(x,C+1)]
 |false,_,_=>[]
theorem Dp:∀(names:List (Str×NameKind))(n:Nat)(a:List (Str×Addr))(h:Heap),names.filter (fun p=>p.2==.cell)=[]->cellsFrom n names a=a/\pushCells h names=h
 |[],_,_,_,_=>⟨rfl,rfl⟩
 |(y,k)::r,n,a,h,e=>by
  rw[List.filter_cons]at e;cases b:k==NameKind.cell with
  |true=>rw[b]at e;simp at e
  |false=>
   rw[b]at e;unfold cellsFrom pushCells;rw[b];exact Dp r n a h (by simpa using e)
theorem Hl:∀(names:List (Str×NameKind))(n:Nat)(a:List (Str×Addr))(h:Heap),names.filter (fun p=>p.2==.cell)=[(x,.cell)]->cellsFrom n names a=(x,n)::a/\pushCells h names=h.push {cls:=.type "cell",data:=.cell none}
 |[],_,_,_,e=>by simp at e
 |(y,k)::r,n,a,h,e=>by
  rw[List.filter_cons]at e;cases b:k==NameKind.cell with
  |true=>
   rw[b]at e;simp only[if_true,List.cons.injEq,Prod.mk.injEq]at e;unfold cellsFrom pushCells;rw[b];simp only[if_true];obtain⟨e1,e2⟩:=Dp r (n+1) ((y,n)::a) (h.push {cls:=.type "cell",data:=.cell none}) e.2;rw[e1,e2,e.1.1];exact⟨rfl,rfl⟩
  |false=>
   rw[b]at e;unfold cellsFrom pushCells;rw[b];exact Hl r n a h (by simpa using e)
variable{E:Value->Shared->Prop}
theorem GD{M:Model}{globals:Addr}{cl:List (Str×Addr)}{outer:Env}{Q:Env->Shared->Prop}(d:scope.names.filter (fun p=>p.2==.cell)=Yc b x)(f:∀h':Heap,h'.Ns s.heap.objs.size (fun _=>none)->(∀a o,s.heap.get? a=some o->h'.get? a=some o)->(b=true->h'.IsCell (s.heap.objs.size+1) none)->
   Q {scope,locals:=s.heap.objs.size,globals,cells:=EW b x s.heap.objs.size++cl,qual,func:=none,code:=outer.code,frame:=outer.frame,builtins:=outer.builtins} {s with heap:=h'}):
  wpAny M A (newFunctionEnv scope globals cl [] qual none .none (some outer)) Q E s:=by
 simp only[newFunctionEnv,Option.isSome_some,if_true];refine wpAny_bind (wpAny_alloc ?_);refine wpAny_bind (wpAny_layCells _ (fun name kind cells=>by cases c:kind==NameKind.cell<;>simp[c]) _ _ _ _ ?_);rw[List.forIn_nil];refine wpAny_bind (wpAny_pure (wpAny_pure ?_));have sz:(s.heap.push {cls:=.type "dict",data:=.dict #[]}).objs.size=s.heap.objs.size+1:=Heap.size_push ..;cases b with
 |false=>
  obtain⟨e1,e2⟩:=Dp scope.names (s.heap.push {cls:=.type "dict",data:=.dict #[]}).objs.size cl (s.heap.push {cls:=.type "dict",data:=.dict #[]}) d;show Q {scope:=_,locals:=_,globals:=_,cells:=cellsFrom (s.heap.push {cls:=.type "dict",data:=.dict #[]}).objs.size scope.names cl,qual:=_,func:=_,code:=_,frame:=_,builtins:=_} {s with heap:=pushCells (s.heap.push {cls:=.type "dict",data:=.dict #[]}) scope.names};rw[e1,e2];exact f _ (Heap.Ns.new s.heap (.type "dict")) (fun a o e=>Heap.get?_push_of_some _ e) (fun z=>nomatch z)
 |true=>
  obtain⟨e1,e2⟩:=Hl scope.names (s.heap.push {cls:=.type "dict",data:=.dict #[]}).objs.size cl (s.heap.push {cls:=.type "dict",data:=.dict #[]}) d;show Q {scope:=_,locals:=_,globals:=_,cells:=cellsFrom (s.heap.push {cls:=.type "dict",data:=.dict #[]}).objs.size scope.names cl,qual:=_,func:=_,code:=_,frame:=_,builtins:=_} {s with heap:=pushCells (s.heap.push {cls:=.type "dict",data:=.dict #[]}) scope.names};rw[e1,e2,sz];exact f _ ((Heap.Ns.new s.heap (.type "dict")).push _) (fun a o e=>Heap.get?_push_of_some _ (Heap.get?_push_of_some _ e)) (fun _=>⟨_,by rw[<-sz];exact Heap.get?_push_size _ rfl,rfl⟩)
structure Bl(X:Cx)(scope:Scope)(x:Str)(fv:List Str)(fs:List Nat)(b:Bool:=false):Prop where
 kind:scope.kind=.function
 jf:scope.names.filter (fun p=>p.2==.cell)=Yc b x
 names:∀p∈scope.names,p.2=.local->scope.names.lookup p.1=some .local
 tg:scope.names.lookup x=some (kindB b)
 free:∀p∈scope.names,p.2=.free->X.env.scope.names.lookup p.1=some .cell
 nd:(x::fv).Nodup
 lG:∀(j:Nat) y,fv[j]?=some y->∃i,fs[j]?=some i/\X.N[i]?=some y/\scope.names.lookup y=some .free
 len:fv.length=fs.length
def Nw(a:Scope)(N:List Str)(scope:Scope)(x:Str)(fv:List Str)(fs:List Nat)(b:Bool:=false):Bool:=
 scope.kind==.function&&scope.names.filter (fun p=>p.2==.cell)==Yc b x&&(scope.names.all fun p=>p.2 !=.local||scope.names.lookup p.1==some .local)&&scope.names.lookup x==some (kindB b)&&
 (scope.names.all fun p=>p.2 !=.free||a.names.lookup p.1==some .cell)&&decide (x::fv).Nodup&&fs.map (N[·]?)==fv.map some&&(fv.all fun y=>scope.names.lookup y==some .free)
theorem Bl.of(h:Nw X.env.scope X.N scope x fv fs b=true):Bl X scope x fv fs b:=by
 unfold Nw at h;simp only[Bool.and_eq_true,List.all_eq_true,Bool.or_eq_true,bne_iff_ne,beq_iff_eq,decide_eq_true_eq]at h;obtain⟨⟨⟨⟨⟨⟨⟨g,i⟩,k⟩,m⟩,n⟩,o⟩,f⟩,q⟩:=h;have hlen:fs.length=fv.length:=by
  have:=congrArg List.length f;simpa using this
 refine⟨g,i,fun p c d=>(k p c).resolve_left fun z=>z d,m,fun p c d=>(n p c).resolve_left fun z=>z d,o,fun j y e=>?_,hlen.symm⟩;have r:j<fv.length:=(p' e).1;have e7:=congrArg (fun l=>l[j]?) f;simp only[List.getElem?_map,e]at e7;have a:j<fs.length:=by lia
 rw[p_ a]at e7;refine⟨fs[j],p_ a,?_,q y (qF e)⟩;simpa using e7
abbrev BV(X:Cx)(ex:List (Str×Addr))(N':List Str)(scope:Scope)(C:Addr)(s0:Shared)(H0:Hp)(fp:List Addr):Cx where
 prog:=X.prog
 w:=X.w
 K:=X.K
 mg:=X.mg
 base:=X.base
 A:=X.A
 N:=N'
 s₀:=s0
 H₀:=H0
 env:=compEnvC scope (ex++Bp X.env.cells scope.names []) C X.env
 outer:=X.stack
 stack:=X.stack
 ex:=fp
 fn:=fun y=>(ex.lookup y).isSome
 calm:=X.calm
 pn:=[]
 xe:=fun _ _=>False
abbrev KW(X:Cx)(a:List Str)(scope:Scope)(C:Addr)(b:Shared)(c:Hp)(d:List Addr):Cx:=BV X [] a scope C b c d
variable{pins:List (Addr×Obj)}{fv:List Str}
section
variable {σ:St} {H':Hp} {s':Shared} {x:Str} {fs:List Nat} {fp:List Addr} {b:Bool}
theorem Bl.cells(ok:Bl X scope x fv fs b)(I:Inv X pins σ H s):∀p∈scope.names,p.2=.free->∃c,X.env.cells.lookup p.1=some c:=fun p a d=>I.ok.has p.1 (.inl (ok.free p a d))
theorem Bl.look(ok:Bl X scope x fv fs b)(I:Inv X pins σ H s)(h:(Bp X.env.cells scope.names []).lookup y=some c):X.env.cells.lookup y=some c:=
 Cp scope.names [] (ok.cells I) (fun _ _ z=>by cases z) h
theorem GF(h:(EW b x C).lookup y=some c):b=true/\y=x/\c=C+1:=by
 cases b with
 |false=>cases h
 |true=>
  have h:(List.lookup y [(x,C+1)])=some c:=h;rw[List.lookup_cons]at h;cases e:y==x with
  |true=>rw[e]at h;cases h;exact⟨rfl,eq_of_beq e,rfl⟩
  |false=>rw[e]at h;cases h
theorem MD(ok:Bl X scope x fv fs b)(I:Inv X pins σ H s)(D:∀b∈fp,DA X pins H b)(w:∀b∈fp,∃o,s.heap.get? b=some o){t:Heap}{m:Str->Option Value}{tk:Nat}(P:t.Ns s.heap.objs.size m)(kept:∀b o,s.heap.get? b=some o->t.get? b=some o)(A:b=true->t.IsCell (s.heap.objs.size+1) none):Inv (BV X (EW b x s.heap.objs.size) (x::fv) scope s.heap.objs.size s H fp) [] (none::Bu σ fs) H {s with heap:=t,toks:=tk}:=by
 have B:∀{y c},(EW b x s.heap.objs.size++Bp X.env.cells scope.names []).lookup y=some c->X.env.cells.lookup y=some c∨(b=true/\y=x/\c=s.heap.objs.size+1):=fun{y c} h=>by
  rw[List.lookup_append]at h;cases e:(EW b x s.heap.objs.size).lookup y with
  |some d=>rw[e]at h;cases h;exact .inr (GF e)
  |none=>rw[e]at h;exact .inl (ok.look I (by simpa using h))
 have lt:∀{y c},X.env.cells.lookup y=some c->c<s.heap.objs.size:=fun h=>by obtain⟨_,o,n,_⟩:=I.cell _ _ h;exact Heap.lt_size n
 have E:X.env.scope.kind=.function:=I.ok.kind;refine⟨⟨I.ok.mod,ok.kind,I.ok.glob,I.ok.blt,Nat.le_refl _,fun y z c t Q=>?_,fun y f=>?_,fun y c q h=>?_,I.ok.hd,I.ok.frames,.inl rfl,fun b g=>⟨?_,fun y c e z=>?_⟩,I.bs,
  Nat.le_trans I.ok.PN I.sz,fun b o e g=>?_,fun b g F=>?_,I.stack,I.DP⟩,rfl,I.bare,Un.kept kept,⟨m,P,fun i y v e1 e2 e3=>?_⟩,fun y c e=>?_,I.fresh,fun y c e=>?_,fun p R=>absurd (show p∈([]:List (Addr×Obj))from R) (by simp),I.Al.kept kept,?_⟩
 ·rcases B t with a|⟨_,a1,a2⟩<;>rcases B Q with d|⟨_,S,d2⟩
  ·exact I.ok.inj y z c a d
  ·have:=lt a;lia
  ·have:=lt d;lia
  ·rw[a1,S]
 ·have f:(relabel scope X.env).names.lookup y=some .cell∨(relabel scope X.env).names.lookup y=some .free:=f;rw[Bz]at f;cases e:scope.names.lookup y with
  |none=>rw[e]at f;rcases f with z|z<;>cases z
  |some k=>
   show∃c,(EW b x s.heap.objs.size++Bp X.env.cells scope.names []).lookup y=some c;rw[List.lookup_append];rw[e]at f;have f:KU X.env y k=.cell∨KU X.env y k=.free:=f.elim (fun z=>.inl (qB z)) fun z=>.inr (qB z);by_cases G:k=.free
   ·subst G;have:=DR (cells:=X.env.cells) scope.names [] (.inr (PySem.mem_of_lookup e));obtain⟨c,T⟩:=Option.isSome_iff_exists.mp this;rw[T];cases(EW b x s.heap.objs.size).lookup y<;>exact⟨_,rfl⟩
   ·have e2:KU X.env y k=k:=by
     unfold KU;have:(k==NameKind.free)=false:=by simpa using G
     rw[this];rfl
    rw[e2]at f;rcases f with z|z
    ·subst z;have J:(y,NameKind.cell)∈scope.names.filter (fun p=>p.2==.cell):=List.mem_filter.mpr ⟨PySem.mem_of_lookup e,rfl⟩;rw[ok.jf]at J;cases b with
     |false=>cases J
     |true=>
      have:y=x:=congrArg Prod.fst (List.mem_singleton.mp J);subst this;exact⟨s.heap.objs.size+1,by show(List.lookup y [(y,s.heap.objs.size+1)]).or _=_;rw[List.lookup_cons];simp⟩
    ·exact absurd z G
 ·have q:((EW b x s.heap.objs.size).lookup y).isSome=true:=q;obtain⟨d,hd⟩:=Option.isSome_iff_exists.mp q;have h:(EW b x s.heap.objs.size++Bp X.env.cells scope.names []).lookup y=some c:=h;rw[List.lookup_append,hd]at h;cases h;obtain⟨_,_,rfl⟩:=GF hd;exact Nat.le_succ _
 ·obtain⟨o,n⟩:=w b g;exact Nat.ne_of_lt (Heap.lt_size n)
 ·rcases B e with a|⟨_,_,a2⟩
  ·exact(D b g).2.2.2.2.1 y c a z
  ·obtain⟨o,n⟩:=w b g;have:=Heap.lt_size n;lia
 ·rcases(D b g).2.2.2.1 with z|z
  ·exact I.ok.Jx b o e z
  ·exact absurd (Nat.lt_of_lt_of_le (Heap.lt_size e) (Nat.le_trans I.ok.PN z)) (Nat.lt_irrefl _)
 ·rcases List.mem_cons.mp (I.ES b F)with z|z
  ·exact(D b g).2.1 z
  ·exact(D b g).2.2.1 z
 ·cases i with
  |zero=>
   have e2:(some none:Option (Option V))=some (some v):=e2;cases e2
  |succ j=>
   have e1:fv[j]?=some y:=e1;have e2:(Bu σ fs)[j]?=some (some v):=e2;obtain⟨i,U,Y⟩:=Pk e2;obtain⟨i',O,Z,K⟩:=ok.lG j y e1;rw[U]at O;cases O;have L:X.env.scope.names.lookup y=some .cell:=ok.free (y,.free) (PySem.mem_of_lookup K) rfl;obtain⟨m0,_,M⟩:=I.loc;obtain⟨u,r,l⟩:=M i y v Z Y (.inr (.inl L));refine⟨u,r,?_⟩;rcases l with⟨k,_⟩|⟨_,c,e,o,n,hd⟩
   ·have k:X.env.scope.names.lookup y=some .local:=k;rw[L]at k;cases k
   ·obtain⟨c',C⟩:=Option.isSome_iff_exists.mp (DR (cells:=X.env.cells) scope.names [] (.inr (PySem.mem_of_lookup K)));have:=ok.look I C;rw[e]at this;cases this;have W:(EW b x s.heap.objs.size).lookup y=none:=by
     cases ey:(EW b x s.heap.objs.size).lookup y with
     |none=>rfl
     |some d=>
      obtain⟨_,z,_⟩:=GF ey;exact absurd (show x∈fv from z▸qF (l:=fv) (show fv[j]?=some y from e1)) (List.nodup_cons.mp ok.nd).1
    refine .inr ⟨.inl ?_,c,by show(EW b x s.heap.objs.size++Bp X.env.cells scope.names []).lookup y=some c;rw[List.lookup_append,W];exact C,o,kept _ _ n,hd⟩;show(relabel scope X.env).names.lookup y=some .cell;rw[Bz,K];show some (KU X.env y .free)=_;have N:X.env.kindOf y=some .cell:=L;unfold KU;rw[E,N];rfl
 ·rcases B e with a|⟨g,_,rfl⟩
  ·obtain⟨v,o,n,hd⟩:=I.cell y c a;exact⟨v,o,kept _ _ n,hd⟩
  ·exact⟨none,A g⟩
 ·rcases B e with a|⟨_,_,rfl⟩
  ·exact I.BS y c a
  ·exact I.Al.fresh (Nat.le_succ _)
 ·show(none::Bu σ fs).length=(x::fv).length;simp[Bu,ok.len]
theorem ME(I:Inv X pins σ H s)(a:∀b∈fp,DA X pins H b)(c:Inv (BV X ex g scope C s H fp) [] e H' s'):Inv X pins σ H' s':=
 I.HW (ch:=fp) c.os c.base c.Al c.bare fun b d=>⟨(a b d).2.2.2.1,(a b d).2.1,(a b d).2.2.2.2.1,(a b d).2.2.2.2.2⟩
theorem Inv.off(I:Inv X pins σ H s)(f:DA X pins H C)(a:Heap.SameBut C s.heap h'):Inv X pins σ H {s with heap:=h'}:=
 I.turned (t':=s.toks) (fun b o c e=>a.extBut b o c e) f.1 (fun z=>f.2.1 z) f.2.2.2.1 f.2.2.2.2.1 f.2.2.2.2.2
end
def bI(X:Cx)(a:List Expr)(t:TT):Prop:=
 ∀(pins:List (Addr×Obj))(s:Shared)(b:St)(H:Hp)(Q:Bool->Hp->Prop),Inv X pins b H s->t b H Q->
  wpAny (model X.prog X.w) X.A (forIn a true fun c r=>if r=true then do let ok<-isTrue c X.env (eval c X.env);pure (ForInStep.yield ok)else pure (ForInStep.yield r)) (TP X pins b Q) X.xe s
def VI:TT:=fun _ H Q=>Q true H
theorem Nx:bI X [] VI:=fun _ _ _ H _ I h=>wpAny_tests_nil ⟨H,I,h⟩
def EX(J:It)(h:TT)(j:TE)(fs:List Nat)(d:St)(H:Hp)(Q:VK):Prop:=∀D,H D=none->∃W:Nat->Nat->Hp->Prop,(∃m,W 0 m (upd H D (.lst [])))/\∀i m a,W i m a-> (J.stop i a/\Q (.ref D) a)∨(J.go i a/\∀v e,J.XW i a v e->h (some v::Bu d fs) e fun ok f=>
  if ok=true then j (some v::Bu d fs) f fun y g=>∃c,g D=some (.lst c)/\c.length<sizeLine/\∃b,b<m/\W (i+1) b (upd g D (.lst (c++[y])))else∃b,b<m/\W (i+1) b f)
def KY(b:TI)(c:TT)(d:TE)(fs:List Nat):TE:=fun a H Q=>b a H fun J e=>EX J c d fs a e Q
variable{J:It}{Q:VK}
section
variable {elt iter:Expr} {x:Str} {px pos:Pos} {ifs:List Expr} {fs:List Nat} {wi:TI} {te:TE} {tc:TT}
theorem KZ(hc:X.calm=true)(ok:Bl X scope x fv fs b)(lH:∀C s0 H0 f,bI (BV X (EW b x C) (x::fv) scope C s0 H0 f) ifs tc)(he:∀C s0 H0 f,PE (BV X (EW b x C) (x::fv) scope C s0 H0 f) elt te){z:St}{it:Addr}{f:List Addr}{G:Nat->Heap->Prop}(I:Inv X pins z H s)(T:Turn X.prog X.w X.K (.Name x px) J f it G)(st:G 0 s.heap)(hf:∀b∈f,DA X pins H b)(rd:EX J tc te fs z H Q){RR:Value->Addr->Result->Shared->Prop}(lI:∀D C s' g,Inv X pins z g s'->DA X pins g C->(∃m,s'.heap.Ns C m)->Q (.ref D) g->RR (.ref D) C (.ok .next) s'):
  wpAny (model X.prog X.w) X.A (newList []) (fun L c=>wpAny (model X.prog X.w) X.A (newFunctionEnv scope X.env.globals (Bp X.env.cells scope.names []) [] X.env.qual none .none (some X.env)) (fun j s4=>
   codeAny (model X.prog X.w) X.A (.compStart (.ListComp elt [⟨.Name x px,iter,ifs,0⟩] scope pos) 0 (.ref it) L {j with scope:=relabel scope X.env}) (RR L j.locals) s4) E c) E s:=by
 obtain⟨W,⟨m0,w0⟩,turn⟩:=rd s.heap.objs.size I.fresh;have Z:Inv X pins z (upd H s.heap.objs.size (.lst [])) {s with heap:=s.heap.push {cls:=.type "list",dict:=none,data:=.seq ([]:List Value).toArray}}:=I.cE (its:=[]) (ys:=[]) (t':=s.toks) .nil (Nat.zero_le _);refine wpAny_newObj_type ?_;show wpAny _ _ _ _ _ ({s with heap:=s.heap.push {cls:=.type "list",dict:=none,data:=.seq ([]:List Value).toArray}}:Shared);generalize lJ:({s with heap:=s.heap.push {cls:=.type "list",dict:=none,data:=.seq ([]:List Value).toArray}}:Shared)=c at Z⊢;refine GD ok.jf fun h1 lK kept M=>?_;have eh:c.heap=s.heap.push {cls:=.type "list",dict:=none,data:=.seq ([]:List Value).toArray}:=by rw[<-lJ]
 have N:∀b o,s.heap.get? b=some o->c.heap.get? b=some o:=fun b o e=>by rw[eh];exact Heap.get?_push_of_some _ e
 have lM:∀b∈f,∃o,c.heap.get? b=some o:=fun b d=>let⟨o,ho,_⟩:=T.obj 0 _ st b d;⟨o,N b o ho⟩;have lN:∀b∈f,b≠s.heap.objs.size:=fun b d=>let⟨o,ho,_⟩:=T.obj 0 _ st b d;Nat.ne_of_lt (Heap.lt_size ho);have k:∀b∈f,DA X pins (upd H s.heap.objs.size (.lst [])) b:=fun b d=>⟨by rw[AH (lN b d)];exact(hf b d).1,(hf b d).2⟩;have I4:=MD (tk:=c.toks) ok Z k lM lK kept M;have O:G 0 h1:=T.keep 0 _ _ st fun b d o e=>kept b o (N b o e);have h:∀{g:Hp},(∀b∈f,g b=none)->∀a∈f,DA (BV X (EW b x c.heap.objs.size) (x::fv) scope c.heap.objs.size c (upd H s.heap.objs.size (.lst [])) f) [] g a:=fun hn b d=>
  ⟨hn b d,(I4.ok.YC b d).1,I4.ok.Jy b d,.inl d,(I4.ok.YC b d).2,fun p hp=>absurd hp (by simp)⟩
 have hg:PG (BV X (EW b x c.heap.objs.size) (x::fv) scope c.heap.objs.size c (upd H s.heap.objs.size (.lst [])) f) (.Name x px) (Fn 0):=by
  have tg:=ok.tg;cases b with
  |false=>exact IJ ok.nd rfl (.inl (lookup_relabel_local tg)) (.inr (lookup_relabel_local tg))
  |true=>exact IJ ok.nd rfl (.inr (show(relabel scope X.env).names.lookup x=_ from by rw[Bz,tg];rfl)) (.inl (show(List.lookup x [(x,c.heap.objs.size+1)]).isSome=true from by rw[List.lookup_cons];simp))
 have loop:codeAny (model X.prog X.w) X.A (.compLoop (.ListComp elt [⟨.Name x px,iter,ifs,0⟩] scope pos) 0 (.ref it) (.ref s.heap.objs.size) (compEnvC scope (EW b x c.heap.objs.size++Bp X.env.cells scope.names []) c.heap.objs.size X.env)) (RR (.ref s.heap.objs.size) c.heap.objs.size)
   {c with heap:=h1}:=by
  refine MC (fun n s'=>∃i o g,Inv (BV X (EW b x c.heap.objs.size) (x::fv) scope c.heap.objs.size c (upd H s.heap.objs.size (.lst [])) f) [] (o::Bu z fs) g s'/\G i s'.heap/\(∀b∈f,g b=none)/\W i n g) ?_ m0
   ⟨0,none,_,I4,O,fun b d=>(k b d).1,w0⟩
  rintro n s5 ⟨i,o,H5,I5,P,R,w5⟩;rcases turn i n H5 w5 with⟨stop,q⟩|⟨go,step⟩
  ·refine Aw (T.done (BV X (EW b x c.heap.objs.size) (x::fv) scope c.heap.objs.size c (upd H s.heap.objs.size (.lst [])) f) rfl rfl rfl hc i [] s5 _ H5 _ I5 (h R) P stop) fun r s6 ⟨hr,I6⟩=>?_;subst hr;obtain⟨m,hm,_⟩:=I6.loc;exact lI _ _ s6 H5 (ME Z k I6) (Z.KA (Nat.le_refl _) I6.free) ⟨m,hm⟩ q
  ·refine Aw (T.item (BV X (EW b x c.heap.objs.size) (x::fv) scope c.heap.objs.size c (upd H s.heap.objs.size (.lst [])) f) rfl rfl rfl hc i [] s5 _ H5 _ I5 (h R) P go) fun r s6 ⟨u,hr,h6⟩=>?_;subst hr;refine Aw h6 fun _ s7 ⟨v,H7,I7,r7,y7,l,lO⟩=>?_;have lP:=I7.pinned (h lO) (T.obj _ _ l);have back:∀{S:St}{B:Hp}{U:Shared},Inv (BV X (EW b x c.heap.objs.size) (x::fv) scope c.heap.objs.size c (upd H s.heap.objs.size (.lst [])) f) ([]++Fo f s7.heap) S B U->G (i+1) U.heap/\∀b∈f,B b=none:=fun{S B U} F=>
    ⟨T.keep _ _ _ l fun b d o e=>(F.pin (b,o) (Ck d e)).1,fun b d=>by
     obtain⟨o,e,_⟩:=T.obj _ _ l b d;exact(F.pin (b,o) (Ck d e)).2.1⟩
   refine Aw (hg _ s7 _ H7 v u (fun σ2 H2=>σ2=some v::Bu z fs/\H2=H7) lP r7 ⟨rfl,rfl⟩) fun _ s8 ⟨σ8,H8,I8,e8,lQ⟩=>?_;subst e8 lQ;refine Aw (lH _ _ _ _ _ s8 _ H8 _ I8 (step v H8 y7)) fun ok U ⟨B,F,q9⟩=>?_;cases ok with
   |false=>
    obtain⟨m',t,w9⟩:=q9;obtain⟨b1,b2⟩:=back F;exact⟨m',t,i+1,some v,B,F.DB,b1,b2,w9⟩
   |true=>
    refine Aw (he _ _ _ _ _ U _ B _ F q9) fun y s10 ⟨yv,V,lR,r10,ys,hD,hz,m',t,w10⟩=>?_;refine Aw (DQ _ s10 _ V (.ref s.heap.objs.size) [yv] (.ref s.heap.objs.size) [y] (fun _ g=>g=upd V s.heap.objs.size (.lst (ys++[yv]))) lR rfl (.cons r10 .nil) ⟨_,ys,yv,rfl,rfl,hD,hz,rfl⟩) fun _ s11 ⟨_,oS,Y,_,e11⟩=>?_;subst e11;obtain⟨b1,b2⟩:=back Y;exact⟨m',t,i+1,some v,_,Y.DB,b1,b2,w10⟩
 exact codeAny_compStart_list loop (T.self _ 0 _ _ _ O loop)
theorem Rc(b:Bool)(i:X.calm=true)(ok:Bl X scope x fv fs b)(j:PI X (.Name x px) iter wi)(c:∀C d e a,bI (BV X (EW b x C) (x::fv) scope C d e a) ifs tc)(k:∀C d e a,PE (BV X (EW b x C) (x::fv) scope C d e a) elt te)(l:∀x,foldedSetIterable iter X.env x=pure x:=by intro _;rfl):PE X (.ListComp elt [⟨.Name x px,iter,ifs,0⟩] scope pos) (KY wi tc te fs):=by
 intro pins s n H Q I h;rw[eval_ListComp];refine wpAny_comprehension_free (use:=none) rfl l (CU (ok.cells I)) ok.kind ok.names (Aw (j pins s n H _ I h) fun B E o=>Aw o fun p F r=>?_);obtain⟨it,a,G,J,K,rfl,t,T,f,u,v⟩:=r;exact KZ i ok c k t T f u v fun D C L w y z ⟨m,A⟩ q=>⟨m,A,fun M g=>⟨.ref D,w,y.off z g,rfl,q⟩⟩
theorem VJ(e:X.calm=true)(ok:Bl X scope x fv fs)(f:PI X (.Name x px) iter wi)(a:∀C b c d,bI (KW X (x::fv) scope C b c d) ifs tc)(g:∀C b c d,PE (KW X (x::fv) scope C b c d) elt te)(h:∀x,foldedSetIterable iter X.env x=pure x:=by intro _;rfl):PE X (.ListComp elt [⟨.Name x px,iter,ifs,0⟩] scope pos) (KY wi tc te fs):=Rc false e ok f a g h
theorem Ka(b:Bool){d c:Pos}(L:X.calm=true)(ok:Bl X scope x fv fs b)(M:X.N.Nodup)(l:X.N[i]?=some y)(O:Loc X.env.scope y)(P:PI X (.Name x px) iter wi)(n:∀C o p j,bI (BV X (EW b x C) (x::fv) scope C o p j) ifs tc)(R:∀C o p j,PE (BV X (EW b x C) (x::fv) scope C o p j) elt te)(r:swapsWith (.ListComp elt [⟨.Name x px,iter,ifs,0⟩] scope pos) (some (.Name y d)) c.line X.env=pure true:=by rfl)(t:X.fn y=true∨X.env.scope.names.lookup y=some .local:=by first|exact .inl rfl|exact .inr rfl|assumption)(S:∀x,foldedSetIterable iter X.env x=pure x:=by intro _;rfl):PS X (.Assign [.Name y d] (.ListComp elt [⟨.Name x px,iter,ifs,0⟩] scope pos) c) (fun D f H=>KY wi tc te fs f H fun v g=>D.nx (f.set i (some v)) g):=by
 intro pins s f H D I h;rw[exec_Assign_Name_used _ _ _ _ r];refine wpAny_bind (wpAny_standAt (wpAny_bind ?_));show wpAny _ X.A (comprehension (.ListComp elt [⟨.Name x px,iter,ifs,0⟩] scope pos) scope X.env _ (newList []) false (eval iter X.env) (some (assign (.Name y d) X.env))>>=fun _=>pure ()) _ _ s;refine wpAny_bind (Aw (wpAny_comprehension_free (use:=some (assign (.Name y d) X.env)) (Q:=fun _ k=>SP X pins D .next k) rfl S (CU (ok.cells I)) ok.kind ok.names (Aw (P pins s f H _ I h) fun xv s1 U=>Aw U fun V s2 Y=>?_)) fun _ k Z=>wpAny_pure (wpAny_pure Z));obtain⟨it,j,tn,J,H2,rfl,W,T,u,f2,rd⟩:=Y;refine KZ (Q:=fun v g=>D.nx (f.set i (some v)) g) L ok n R W T u f2 rd fun K C k g I' w ⟨m,hm⟩ q=>?_;show wpAny _ X.A (assign (.Name y d) X.env (.ref K)) _ _ k;refine wpAny_assign_Name (HV I' M l O (v:=.ref K) rfl (fun ej B ⟨a,E,ha⟩=>?_) t);have F:C≠a:=by
  rcases ha with z|z
  ·rw[z];exact w.2.1
  ·exact fun e=>w.2.2.2.2.1 y a z e.symm
 exact⟨m,hm.sameBut E F,fun h' G=>⟨_,g,B.off w G,q⟩⟩
theorem MF{j a:Pos}(l:X.calm=true)(ok:Bl X scope x fv fs)(m:X.N.Nodup)(b:X.N[i]?=some y)(n:Loc X.env.scope y)(o:PI X (.Name x px) iter wi)(c:∀C d e f,bI (KW X (x::fv) scope C d e f) ifs tc)(p:∀C d e f,PE (KW X (x::fv) scope C d e f) elt te)(g:swapsWith (.ListComp elt [⟨.Name x px,iter,ifs,0⟩] scope pos) (some (.Name y j)) a.line X.env=pure true:=by rfl)(h:X.fn y=true∨X.env.scope.names.lookup y=some .local:=by first|exact .inl rfl|exact .inr rfl|assumption)(q:∀x,foldedSetIterable iter X.env x=pure x:=by intro _;rfl):PS X (.Assign [.Name y j] (.ListComp elt [⟨.Name x px,iter,ifs,0⟩] scope pos) a) (fun D k H=>KY wi tc te fs k H fun v r=>D.nx (k.set i (some v)) r):=Ka false l ok m b n o c p g h q
end
theorem Hm{l:TT}{f:TE}{fs:List Nat}{h:St}(item g:Nat->V)(p:Nat->Bool)(A:n<=sizeLine)(j:∀i D ys,i<n->H D=none->J.go i (upd H D (.lst ys)))(s:∀i D ys v o,i<n->H D=none->J.XW i (upd H D (.lst ys)) v o->v=item i/\o=upd H D (.lst ys))(k:∀D ys,H D=none->J.stop n (upd H D (.lst ys)))(t:∀i D ys (R:Bool->Hp->Prop),i<n->H D=none->R (p i) (upd H D (.lst ys))->l (some (item i)::Bu h fs) (upd H D (.lst ys)) R)(u:∀i D ys (R:VK),i<n->H D=none->p i=true->R (g i) (upd H D (.lst ys))->f (some (item i)::Bu h fs) (upd H D (.lst ys)) R)(w:∀D,H D=none->Q (.ref D) (upd H D (.lst (((List.range n).filter p).map g)))):
  EX J l f fs h H Q:=by
 intro D c;refine⟨fun i m q=>m=n-i/\i<=n/\q=upd H D (.lst (((List.range i).filter p).map g)),⟨n,by simp⟩,?_⟩;rintro i m q ⟨rfl,B,rfl⟩;by_cases a:i<n
 ·refine .inr ⟨j i D _ a c,fun v x y=>?_⟩;obtain⟨rfl,rfl⟩:=s i D _ v x a c y;refine t i D _ _ a c ?_;have r:∀b,p i=b->((List.range (i+1)).filter p).map g=((List.range i).filter p).map g++(if b=true then[g i]else[]):=fun b d=>by
   rw[List.range_succ,List.filter_append,List.map_append];cases b with
   |true=>simp[d]
   |false=>simp[d]
  cases d:p i with
  |false=>
   show∃z,z<n-i/\_;refine⟨n-(i+1),by lia,rfl,a,?_⟩;rw[r false d];simp
  |true=>
   show f _ _ _;refine u i D _ _ a c d ⟨_,AD,?_,n-(i+1),by lia,rfl,a,?_⟩
   ·rw[List.length_map];have:=List.length_filter_le p (List.range i);rw[List.length_range]at this;lia
   ·rw[Up,r true d];simp
 ·have e:i=n:=by lia
  subst e;exact .inl ⟨k D _ c,w D c⟩
theorem AG.put(s:AG H a)(h:H D=none):AG H (upd a D o):=fun b u e=>by
 rw[AH (AY e h)];exact s b u e
theorem AG.new(h:H D=none):AG H (upd H D o):=(AG.refl H).put h
variable{a:Type _}
theorem gQ(l:List a)(i:Nat)(h:i<l.length):∃x,l[i]?=some x:=⟨_,p_ h⟩
theorem jg{l:List a}{i:Nat}{x:a}(h:l[i]?=some x):i<l.length:=(p' h).1
theorem Uk.mk{H:Hp}{o:HO}{Q:VK}(k:∀p a,H p=none->AG H a->a p=some o->Q (.ref p) a):Uk H o Q:=fun p b=>k p _ b (AG.new b) AD
theorem EY{t:TT}{k:TE}{fs:List Nat}{l:St}(item g:Nat->V)(p:Nat->Bool)(F:n<=sizeLine)(o:∀i a,i<n->AG H a->J.go i a)(y:∀i a v u,i<n->AG H a->J.XW i a v u->v=item i/\u=a)(q:∀a,AG H a->J.stop n a)(z:∀i a (R:Bool->Hp->Prop),i<n->AG H a->(∀f,AG a f->R (p i) f)->t (some (item i)::Bu l fs) a R)(A:∀i a (R:VK),i<n->AG H a->p i=true->(∀f,AG a f->R (g i) f)->k (some (item i)::Bu l fs) a R)(B:∀D a,H D=none->AG H a->a D=some (.lst (((List.range n).filter p).map g))->Q (.ref D) a):
  EX J t k fs l H Q:=by
 intro D r;refine⟨fun i m a=>m=n-i/\i<=n/\AG H a/\a D=some (.lst (((List.range i).filter p).map g)),⟨n,by simp,Nat.zero_le _,AG.new r,AD⟩,?_⟩;rintro i m a ⟨rfl,G,d,s⟩;by_cases c:i<n
 ·refine .inr ⟨o i a c d,fun v f C=>?_⟩;obtain⟨rfl,rfl⟩:=y i a v f c d C;have w:∀b,p i=b->((List.range (i+1)).filter p).map g=((List.range i).filter p).map g++(if b=true then[g i]else[]):=fun b h=>by
   rw[List.range_succ,List.filter_append,List.map_append];cases b with
   |true=>simp[h]
   |false=>simp[h]
  refine z i _ _ c d fun I j=>?_;cases h:p i with
  |false=>
   show∃E,E<n-i/\_;refine⟨n-(i+1),by lia,rfl,c,d.trans j,?_⟩;rw[w false h,j _ _ s];simp
  |true=>
   show k _ _ _;refine A i _ _ c (d.trans j) h fun K x=>⟨_,x _ _ (j _ _ s),?_,n-(i+1),by lia,rfl,c,((d.trans j).trans x).put r,?_⟩
   ·rw[List.length_map];have:=List.length_filter_le p (List.range i);rw[List.length_range]at this;lia
   ·rw[AD,w true h];simp
 ·have e:i=n:=by lia
  subst e;exact .inl ⟨q a d,B D a r d s⟩
theorem DG{g:TE}{fs:List Nat}{p:St}(item:Nat->V)(Ok:Nat->V->Prop)(F:n<=sizeLine)(h:∀i a,i<n->AG H a->J.go i a)(x:∀i a v r,i<n->AG H a->J.XW i a v r->v=item i/\r=a)(k:∀a,AG H a->J.stop n a)(A:∀i a (R:VK),i<n->AG H a->(∀y f,AG a f->Ok i y->R y f)->g (some (item i)::Bu p fs) a R)(B:∀D a ys,H D=none->AG H a->a D=some (.lst ys)->ys.length=n->(∀(i:Nat) y,ys[i]?=some y->Ok i y)->Q (.ref D) a):
  EX J VI g fs p H Q:=by
 intro D l;refine⟨fun i m a=>m=n-i/\i<=n/\AG H a/\∃ys,a D=some (.lst ys)/\ys.length=i/\∀(j:Nat) y,ys[j]?=some y->Ok j y,⟨n,by simp,Nat.zero_le _,AG.new l,[],AD,rfl,fun j y z=>by simp at z⟩,?_⟩;rintro i m a ⟨rfl,G,d,ys,s,t,u⟩;by_cases b:i<n
 ·refine .inr ⟨h i a b d,fun v f C=>?_⟩;obtain⟨rfl,rfl⟩:=x i a v f b d C;show g _ _ _;refine A i _ _ b d fun y I w o=>⟨ys,w _ _ s,by lia,n-(i+1),by lia,rfl,b,(d.trans w).put l,ys++[y],AD,by simp[t],fun j z c=>?_⟩;by_cases E:j<ys.length
  ·rw[List.getElem?_append_left E]at c;exact u j z c
  ·rw[List.getElem?_append_right (by lia)]at c;have e:j-ys.length=0:=by
    cases q:j-ys.length with
    |zero=>rfl
    |succ K=>rw[q]at c;simp at c
   rw[e]at c;have:y=z:=by simpa using c
   subst this;have:j=i:=by lia
   subst this;exact o
 ·have e:i=n:=by lia
  subst e;exact .inl ⟨k a d,B D a ys l d s t u⟩
open Builtin Builtin.Str
theorem VL(n m:Nat):max 0 (min (m:Int) (n:Int))=((min m n:Nat):Int):=by
 rw[Int.max_eq_right (Int.le_min.mpr ⟨Int.natCast_nonneg _,Int.natCast_nonneg _⟩)];by_cases h:m<=n
 ·rw[Nat.min_eq_left h,Int.min_eq_left (Int.ofNat_le.mpr h)]
 ·rw[Nat.min_eq_right (Nat.le_of_not_le h),Int.min_eq_right (Int.ofNat_le.mpr (Nat.le_of_not_le h))]
theorem Rf(n:Nat)(h:i<0):max 0 (min (i+(n:Int)) (n:Int))=(((i+(n:Int)).toNat:Nat):Int):=by
 rw[Int.min_eq_left (by lia),Int.toNat_eq_max,Int.max_comm]
theorem VM{a:Int}{i j:Nat}(b:i<j)(c:j<6)(h:((a+5*(i:Int)) % 26).toNat=((a+5*(j:Int)) % 26).toNat):False:=by
 have h:=congrArg (Nat.cast:Nat->Int) h;rw[Int.toNat_of_nonneg (Int.emod_nonneg _ (by decide)),Int.toNat_of_nonneg (Int.emod_nonneg _ (by decide))]at h;have:=Int.emod_eq_emod_iff_emod_sub_eq_zero.mp h.symm;rw[show a+5*(j:Int)-(a+5*(i:Int))=5*((j-i:Nat):Int)by lia]at this;have key:∀d:Nat,d<6->0<d->(5*(d:Int)) % 26≠0:=by decide
 exact key (j-i) (by lia) (by lia) this
theorem Rg(l u:Option Int)(n:Nat):strSliceIndices l u 1 n=(List.range (HT.BI n n u-HT.BI n 0 l)).map (HT.BI n 0 l+·):=by
 have clip:∀(v:Option Int)(d:Nat),(match v with|none=>(d:Int)|some i=>max 0 (min (if i<0 then i+(n:Int)else i) (n:Int)))=((HT.BI n d v:Nat):Int):=by
  intro v d;cases v with
  |none=>rfl
  |some i=>
   show max 0 (min (if i<0 then i+(n:Int)else i) (n:Int))=(((if i<0 then(i+(n:Int)).toNat else min i.toNat n):Nat):Int);by_cases h:i<0
   ·simp only[if_pos h];exact Rf n h
   ·simp only[if_neg h];obtain⟨m,rfl⟩:=Int.eq_ofNat_of_zero_le (Int.not_lt.mp h);exact VL n m
 have c:=clip l 0;have e:=clip u n;unfold strSliceIndices sliceRange;simp only[show(1:Int)>0 by decide,if_true,Int.one_mul,Int.ediv_one];have f:((0:Nat):Int)=0:=rfl;rw[f]at c;have gen:∀(A B:Int)(a b:Nat),A=(a:Int)->B=(b:Int)->List.map (fun k:Nat=>(A+(k:Int)).toNat) (List.range (if A<B then B-A+1-1 else 0).toNat)=List.map (fun x=>a+x) (List.range (b-a)):=by
  intro A B a b g j;subst g j;have o:(if(a:Int)<(b:Int)then(b:Int)-(a:Int)+1-1 else 0).toNat=b-a:=by
   split<;>lia
  rw[o];refine List.map_congr_left fun k _=>?_;lia
 exact gen _ _ _ _ c e
def MG(xs:List Nat)(l u:Option Int):List Nat:=(xs.drop (HT.BI xs.length 0 l)).take (HT.BI xs.length xs.length u-HT.BI xs.length 0 l)
theorem MH{c:Type}(xs:List c)(a k:Nat)(h:a+k<=xs.length):((List.range k).map (a+·)).filterMap (xs[·]?)=(xs.drop a).take k:=by
 rw[List.filterMap_map]
 induction k with
 |zero=>simp
 |succ k d=>
  rw[List.range_succ,List.filterMap_append,d (Nat.le_trans (Nat.add_le_add_left (Nat.le_add_right _ _) _) h)];have b:a+k<xs.length:=by lia
  have e:(xs.drop a)[k]?=some (xs[a+k]):=by
   rw[List.getElem?_drop];exact p_ b
  rw[List.take_add_one,e];simp[b]
theorem Kb(x:Str)(l u:Option Int):(Txt.slice x l u).cps.toList=MG x.cps.toList l u:=by
 have hlen:x.cps.toList.length=x.length:=by rw[Array.length_toList];rfl
 have c:HT.BI x.length x.length u<=x.length:=by
  cases u with
  |none=>exact Nat.le_refl _
  |some v=>
   show(if v<0 then(v+(x.length:Int)).toNat else min v.toNat x.length)<=x.length;split<;>lia
 unfold Txt.slice MG;rw[hlen,Rg];generalize k:HT.BI x.length 0 l=a;generalize d:HT.BI x.length x.length u=b at c;by_cases f:a<=b
 ·split
  ·rename_i h
   simp at h;have:b-a=x.length:=h;have g:a=0:=by lia
   have j:b=x.length:=by lia
   subst g;rw[j,<-hlen,List.drop_zero,Nat.sub_zero,List.take_length]
  ·show(List.filterMap (fun i=>x.cps[i]?) _).toArray.toList=_;rw[List.toList_toArray];have e:(fun i:Nat=>x.cps[i]?)=fun i:Nat=>x.cps.toList[i]?:=by
    funext i;exact(Array.getElem?_toList).symm
   rw[e];exact MH _ a (b-a) (by lia)
 ·have z:b-a=0:=by lia
  rw[z];simp only[List.range_zero,List.map_nil,List.take_zero];split
  ·rename_i h
   simp at h;have:x.cps.toList=[]:=List.eq_nil_of_length_eq_zero (by rw[hlen];exact h.symm);exact this
  ·rfl
section
inductive cM(x:V)(lo a:Option Int)(H:Hp)(Q:VK):Prop
 |mk(z:_)(b:x=.str z)(c:z.length<=sizeLine)(d:Q (.str (Txt.slice z lo a)) H)
def gR:V->Option Int->Option Int->Hp->VK->Prop:=fun x lo a H Q=>cM x lo a H Q
theorem MJ:br X gR:=by
 intro pins s g H x v p r lo m w Q I n a o e h;obtain⟨z,rfl,b,q⟩:=h;obtain⟨t,rfl⟩:=n;refine⟨"str",_,F.slot_str_getitem.lookup,typeIs_str _ _ _,?_⟩;have fin:∀c k,EP X pins g Q (.str (Txt.slice z lo m) c) {s with toks:=k}:=fun c k=>⟨.str _,H,I.tok k,⟨c,rfl⟩,q⟩;cases o with
 |none=>
  cases e with
  |none=>exact wpAny_getItem_str_slice (l:=none) (u:=none) (st:=none) a rfl (post_val_or_str ⟨Nat.le_trans (Txt.slice_le z _ _) b,fin⟩)
  |int j d=>exact wpAny_getItem_str_slice (l:=none) (u:=some (j,d)) (st:=none) a rfl (post_val_or_str ⟨Nat.le_trans (Txt.slice_le z _ _) b,fin⟩)
 |int i f=>
  cases e with
  |none=>exact wpAny_getItem_str_slice (l:=some (i,f)) (u:=none) (st:=none) a rfl (post_val_or_str ⟨Nat.le_trans (Txt.slice_le z _ _) b,fin⟩)
  |int j d=>exact wpAny_getItem_str_slice (l:=some (i,f)) (u:=some (j,d)) (st:=none) a rfl (post_val_or_str ⟨Nat.le_trans (Txt.slice_le z _ _) b,fin⟩)
end
theorem GG{tg:Expr}{Pv:Nat->Value->Prop}{St:Nat->Heap->Prop}{item:Nat->V->Prop}(hW:∀A:Around,A.handled=none->Walks P w A it [it] [it] n Pv St)(cN:∀i h,St i h->∃(o:Obj) (T:String) (vs:Array Value),h.get? it=some o/\o.cls=.type T/\o.data=.fields vs/\
   ["enumerate","zip","dict_itemiterator","dict_reverseitemiterator","odict_iterator","itertools.zip_longest","itertools.pairwise"].contains T=false)(cO:∀(A:Around) (i:Nat) (s:Shared) (Q:Value->Shared->Prop) (E:Value->Shared->Prop),St i s.heap->Q (.ref it) s->wpAny (model P w) A (pyIter (.ref it)) Q E s)(rel:∀i u,Pv i u->∃x,RelV x u/\item i x):Turn P w K tg ⟨fun i _=>i<n,fun i H x H'=>H'=H/\item i x,fun i _=>i=n⟩ [it] it St where
 mem:=by simp
 obj:=fun i h st b hb=>by
  have e:b=it:=by simpa using hb
  subst e;obtain⟨o,T,vs,h1,_,h3,_⟩:=cN i h st;exact⟨o,h1,fun v z=>by rw[h3]at z;cases z⟩
 keep:=fun i h h' st k=>(hW callerA rfl).frame i h h' st fun b hb o e=>k b hb o e
 item:=fun X hp hw _ hc i pins s σ H E I hf st go=>by
  subst hp hw;have f:=hf it (by simp);refine(hW X.A (I.ok.hd hc)).item i s _ E go st fun v h' tk hP Lg kept=>?_;obtain⟨x,rx,hx⟩:=rel i v hP;obtain⟨o,T,vs,h1,h2,h3,h4⟩:=cN _ _ Lg;refine⟨v,rfl,HX (o:=o) h1 h2 h3 h4 ⟨x,H,I.turned (fun b ob hb e=>kept b ob (by simp[hb]) e) f.1 f.2.1 f.2.2.2.1 f.2.2.2.2.1 f.2.2.2.2.2,rx,⟨rfl,hx⟩,Lg,fun b hb=>?_⟩⟩;have e:b=it:=by simpa using hb
  subst e;exact f.1
 done:=fun X hp hw _ hc i pins s σ H E I hf st stop=>by
  subst hp hw;have f:=hf it (by simp);have stop:i=n:=stop;subst stop;refine(hW X.A (I.ok.hd hc)).done s _ E st fun h' tk kept=>?_;exact⟨rfl,I.turned (fun b ob hb e=>kept b ob (by simp[hb]) e) f.1 f.2.1 f.2.2.2.1 f.2.2.2.2.1 f.2.2.2.2.2⟩
 self:=cO
def gS(z:Str):It:=⟨fun i _=>i<z.cps.size,fun i H x a=>a=H/\∃c,z.cps[i]?=some c/\x=.str ⟨#[c]⟩,fun i _=>i=z.cps.size⟩
def gT(tl:TE):TI:=fun a H R=>tl a H fun x b=>∃z,x=.str z/\R (gS z) b
section
variable {tg:Expr}
theorem Yd(y:PE X l tl):PI X tg l (gT tl):=by
 intro pins s B H R I h;refine Aw (y pins s B H _ I h) fun v a C=>C.elim fun x g f D F=>?_;obtain⟨z,rfl,q⟩:=F;obtain⟨t,rfl⟩:=D;have d:∀i u,SignAt z i u->∃x,RelV x u/\∃c,z.cps[i]?=some c/\x=.str ⟨#[c]⟩:=fun i u ⟨c,G,J,e⟩=>⟨.str ⟨#[c]⟩,⟨G,e⟩,c,J,rfl⟩;have r:∀o:Obj,∀b∈[a.heap.objs.size],DA X pins g b:=fun o b K=>by
  have e:b=a.heap.objs.size:=by simpa using K
  subst e;exact f.KA (Nat.le_refl _) f.fresh
 cases w:z.cps.all (·<128)with
 |false=>
  refine wpAny_pyIter_wide w ⟨a.heap.objs.size,[a.heap.objs.size],fun i h=>h.IsStrIter a.heap.objs.size "str_iterator" z t i,gS z,g,rfl,f.kept (t':=a.toks) fun b o e=>Heap.get?_push_of_some _ e,
   GG (Pv:=SignAt z) (fun A j=>Walks.strWide j _ z t) (fun i h st=>?_) (fun A i s Q E st k=>wpAny_pyIter_striter_wide st k) d,⟨_,Heap.get?_push_size _ rfl,rfl,rfl⟩,r default,q⟩
  obtain⟨o,m,n,p⟩:=st;exact⟨o,_,_,m,n,p,by decide⟩
 |true=>
  refine wpAny_pyIter_ascii w ⟨a.heap.objs.size,[a.heap.objs.size],fun i h=>h.IsStrIter a.heap.objs.size "str_ascii_iterator" z t i,gS z,g,rfl,f.kept (t':=a.toks) fun b o e=>Heap.get?_push_of_some _ e,
   GG (Pv:=SignAt z) (fun A j=>Walks.strAscii j _ z t) (fun i h st=>?_) (fun A i s Q E st k=>wpAny_pyIter_striter_ascii st k) d,⟨_,Heap.get?_push_size _ rfl,rfl,rfl⟩,r default,q⟩
  obtain⟨o,m,n,p⟩:=st;exact⟨o,_,_,m,n,p,by decide⟩
inductive Kc(K:qG)(xs:List V)(H:Hp)(Q:VK):Prop
 |mk(p:Addr)(bs:List Bool)(a:xs=[.ref p])(b:Ap K H p (bs.map V.bl))(c:Q (.bl (bs.all id)) H)
def MK(K:qG):List V->Hp->VK->Prop:=fun xs H Q=>Kc K xs H Q
theorem ED(y:X.calm=true):BG X (.builtin "all") (MK X.K):=by
 intro pins s L H xs M Q I r h;obtain⟨p,bs,rfl,B,q⟩:=h;obtain⟨u,rfl,l⟩:=vals1 r;cases l;obtain⟨d,m,w,N⟩:=I.list B;obtain⟨C,f,g⟩:=id w.isList;have n:p<s.heap.objs.size:=Heap.lt_size f;have t:X.A.in1.handled=none:=I.ok.hd y;have hlen:d.toArray.size=bs.length:=by rw[List.size_toArray,<-m.length,List.length_map]
 refine call_all_walk (wpAny_pyIter_list w.isList ⟨s.heap.objs.size,_,_,_,_,_,fun i=>bs.getD i true,rfl,Walks.list t s.heap.objs.size p (Nat.ne_of_lt n) d.toArray,⟨⟨_,Heap.get?_push_size _ rfl,rfl,rfl⟩,⟨C,Heap.get?_push_of_some _ f,g⟩⟩,?_,fun O D kept=>?_⟩)
 ·intro i v E F P j k;have j:d[i]?=some v:=by simpa using j
  have c:i<bs.length:=by
   have:=jg j;rw[<-m.length,List.length_map]at this;exact this
  have e:(bs.map V.bl)[i]?=some (V.bl bs[i]):=by rw[List.getElem?_map,p_ c];rfl
  obtain⟨u,x,l⟩:=m.get e;rw[j]at x;cases x;cases l;have e2:bs.getD i true=bs[i]:=by rw[List.getD_eq_getElem?_getD,p_ c];rfl
  have k:F (bs.getD i true) E:=k;rw[e2]at k;exact wpAny_truthy_bool k
 ·refine⟨.bl (bs.all id),H,I.kept (t':=D) fun b o e=>kept b o (fun z=>?_) (Heap.get?_push_of_some _ e),?_,q⟩
  ·have G:b=s.heap.objs.size:=by simpa using z
   exact Nat.ne_of_lt (Heap.lt_size e) G
  ·show Value.bool _=Value.bool _;congr 1;rw[hlen,Bool.eq_iff_iff,List.all_eq_true,List.all_eq_true];constructor
   ·intro a b J;obtain⟨i,c,rfl⟩:=List.mem_iff_getElem.mp J;have:=a i (List.mem_range.mpr c);rw[List.getD_eq_getElem?_getD,p_ c]at this;exact this
   ·intro a i c;have c:=List.mem_range.mp c;rw[List.getD_eq_getElem?_getD,p_ c];exact a _ (List.getElem_mem c)
theorem ML:∀{us:List Value},Vals (ys.map V.str) us->StrsAre us ys:=by
 induction ys with
 |nil=>intro us r;rw[List.map_nil]at r;cases r;exact .nil
 |cons n d a=>
  intro us r;rw[List.map_cons]at r;cases r with
  |cons b c=>
   obtain⟨t,e⟩:=b;subst e;exact .cons n t (a c)
inductive Ye(K:qG)(x:V)(vs:List V)(H:Hp)(Q:VK):Prop
 |mk(z:Str)(p:Addr)(ys:List Str)(a:x=.str z)(b:vs=[.ref p])(c:Ap K H p (ys.map V.str))(d:(ys.map (·.length)).sum+ys.length*z.length<=16777216)(e:Q (.str (Txt.join z ys)) H)
def rJoin(K:qG):V->List V->Hp->VK->Prop:=fun x a H Q=>Ye K x a H Q
theorem VN:gG X "str.join" (rJoin X.K):=by
 intro pins s j H x l v m Q I a b h;obtain⟨z,p,n,rfl,rfl,c,d,q⟩:=h;obtain⟨t,rfl⟩:=a;obtain⟨u,rfl,e⟩:=b.one;cases e;obtain⟨f,r,g,_⟩:=I.list c;exact join_list g.isList (by rw[List.toList_toArray];exact ML r) d fun i k=>⟨.str _,H,I.tok k,⟨i,rfl⟩,q⟩
end
section
inductive Yf(x y:V)(H:Hp)(Q:VK):Prop
 |mk(a b xs ys:_)(d:x=.ref a)(e:y=.ref b)(f:H a=some (.tup xs))(g:H b=some (.tup ys))(h:xs.length+ys.length<=sizeLine)(i:∀p c,AG H c->c p=some (.tup (xs++ys))->Q (.ref p) c)
def cP:R2:=fun x y H Q=>Yf x y H Q
theorem VO:DC X (binaryOp .Add) cP:=by
 intro pins s C H x y v u Q I r t h;obtain⟨a,b,xs,D,rfl,rfl,j,k,E,q⟩:=h;by_cases l:xs=[]
 ·cases r;cases t;obtain⟨c,G,J,_⟩:=I.tuple (Az.of j);obtain⟨d,S,K,_⟩:=I.tuple (Az.of k);obtain⟨⟨L,M,data,N⟩,w,z,n,A⟩:=id J;obtain⟨⟨B,m,data2,o⟩,f,g,O,i⟩:=id K;simp only at z A g i;subst z A g i;have P:c=[]:=G.FY.mpr l;refine concat_meets ⟨_,w,rfl⟩ ⟨_,f,rfl⟩ noFill_tuple_add seq_tuple_add PySem.F.slot_tuple_add PySem.F.entry_tuple_add (PySem.F.args_tuple_add_2 _ _) (tuple_addW0 a b c.toArray d.toArray n O M m N o (by simp[P])) ⟨w,f,?_⟩;refine⟨.ref b,H,I.tok s.toks,rfl,q b H (AG.refl H) ?_⟩;rw[l];exact k
 ·refine VC pins s C H (.ref a) (.ref b) v u Q I r t ⟨a,b,xs,D,rfl,rfl,Az.of j,Az.of k,l,E,fun e=>?_,fun e p R=>q p _ (AG.new R) AD⟩;refine q a H (AG.refl H) ?_;rw[e,List.append_nil];exact j
end
end L2
namespace HT
open PySem PyProof.Rows
section
variable{prog:Program} {w:World} {A:Around} {E:Value->Shared->Prop} {s:Shared}
theorem EE{t d:Addr}{items:Array Value}{i j:Value}{lo c:Option Int}{Q:Value->Shared->Prop}(a:IsTup s.heap t items)(k:s.heap.IsSliceOf d i j .none)(pl:IsPart i lo)(l:IsPart j c)(hw:BI items.size 0 lo=0/\BI items.size items.size c=items.size)(h:Q (.ref t) s):wpAny (model prog w) A (getItem (.ref t) (.ref d)) Q E s:=by
 obtain⟨os,e,f,n⟩:=id k;have g:s.TypeIs (.ref d) "slice":=⟨os,e,f⟩;unfold getItem
 try with_reducible refine wpAny_holding ?_
 first|refine wpAny_bind (wpAny_pure ?_)|skip
 refine wpAny_bind (wpAny_sequenceKey a.typeIs (by decide) ?_);refine wpAny_bind (wpAny_callSpecial?_slot (name:=Str.ofString "__getitem__") a.typeIs PyProof.Rows.slot_tuple_getitem (wpAny_call_entry PyProof.Rows.slot_tuple_getitem a.typeIs entry_tuple_getitem ?_ (args_tuple_getitem _ _)));show wpAny _ _ (Builtin.Tuple.tupleItemsOf (.ref t)>>=_) _ _ s;refine wpAny_bind (tupleItemsOf_ a ?_);refine wpAny_bind (wpAny_typeOf g ?_);rw[if_pos (by decide)];refine wpAny_bind (CP k pl l ?_);have b:(((BI items.size 0 lo:Nat):Int)==0&&(1:Int)==1&&(BI items.size items.size c-BI items.size 0 lo)==items.size)=true:=by
  rw[hw.1,hw.2];simp
 show wpAny _ _ (if(((BI items.size 0 lo:Nat):Int)==0&&(1:Int)==1&&(BI items.size items.size c-BI items.size 0 lo)==items.size)=true then _ else _) _ _ s;rw[if_pos b];refine wpAny_bind (m:=Builtin.Tuple.tupleIsExact _) ?_;unfold Builtin.Tuple.tupleIsExact
 first
  |refine wpAny_bind (wpAny_typeOf a.typeIs (wpAny_pure ?_))
  |refine wpAny_typeOf a.typeIs ?_
 rw[if_pos (by decide)];exact wpAny_bind (wpAny_rule (wpAny_pure ⟨_,rfl,wpAny_pure h⟩))
end
end HT
namespace L2
open PySem PySem.Spec PyProof.Rows
variable{X:Cx}
section
inductive cQ(x:V)(lo c:Option Int)(H:Hp)(Q:VK):Prop
 |mk(a xs:_)(d:x=.ref a)(e:H a=some (.tup xs))(f:∀p b,AG H b->b p=some (.tup (HF xs lo c))->Q (.ref p) b)
def gU:V->Option Int->Option Int->Hp->VK->Prop:=fun x lo a H Q=>cQ x lo a H Q
theorem VP:br X gU:=by
 intro pins s k H x v l m lo d n Q I e f g i h;obtain⟨a,xs,rfl,b,q⟩:=h;by_cases hw:HT.BI xs.length 0 lo=0/\HT.BI xs.length xs.length d=xs.length
 ·cases e;obtain⟨c,r,j,t⟩:=I.tuple (Az.of b);have hlen:c.toArray.size=xs.length:=by rw[List.size_toArray];exact r.length.symm
  refine⟨"tuple",_,PyProof.Rows.slot_tuple_getitem.lookup,j.typeIs,?_⟩;refine HT.EE j f g i (by rw[hlen];exact hw) ⟨.ref a,H,I,rfl,q a H (AG.refl H) ?_⟩;unfold HF;rw[hw.1,hw.2,List.drop_zero,Nat.sub_zero,List.take_length];exact b
 ·exact YS pins s k H (.ref a) v l m lo d n Q I e f g i ⟨a,xs,rfl,Az.of b,hw,fun p o=>q p _ (AG.new o) AD⟩
theorem IW(l:List V)(k:Nat):HF l none (some (k:Int))=l.take k:=by
 unfold HF;rw[HT.VA];show(l.drop 0).take (min k l.length-0)=_;rw[List.drop_zero,Nat.sub_zero,List.take_eq_take_min];simp
end
inductive FZ(H:Hp):V->String->Prop where
 |Ae:FZ H .Ae "NoneType"
 |bl (b:Bool):FZ H (.bl b) "bool"
 |int (i:Int):FZ H (.int i) "int"
 |str (x:Str):FZ H (.str x) "str"
 |lst {a:Addr} {xs:List V} (e:Rd H a (.lst xs)):FZ H (.ref a) "list"
 |tup {a:Addr} {xs:List V} (e:H a=some (.tup xs)):FZ H (.ref a) "tuple"
 |dK {a:Addr} {kvs:List (Key×V)} (e:Rd H a (.dK kvs)):FZ H (.ref a) "dict"
theorem Rd.up(h:Rd H a u)(s:∀o,H a=some o->b a=some o):Rd b a u:=by
 rcases h with h|⟨o,h⟩
 ·exact .inl (s _ h)
 ·exact .inr ⟨o,s _ h⟩
theorem FZ.same(h:FZ H v T)(s:AG H a):FZ a v T:=by
 cases h with
 |Ae=>exact .Ae
 |bl b=>exact .bl b
 |int i=>exact .int i
 |str x=>exact .str x
 |lst e=>exact .lst (e.up fun o=>s _ o)
 |tup e=>exact .tup (s _ _ e)
 |dK e=>exact .dK (e.up fun o=>s _ o)
def IX(T c:String):Bool:=T==c||(T=="bool"&&c=="int")
def VQ(c:String):Bool:=["int","bool","str","list","tuple","dict"].contains c
variable{K:qG}
theorem Ny{H:Hp}{v:V}{T c:String}(h:FZ H v T)(a:VQ c=true):PySem.W.kitOne K (.type T) (.type c)=some (IX T c):=by
 have a:c="int"∨c="bool"∨c="str"∨c="list"∨c="tuple"∨c="dict":=by
  unfold VQ at a;simpa using a
 cases h<;>rcases a with rfl|rfl|rfl|rfl|rfl|rfl<;>kernel_rfl
section
inductive cR(xs:List V)(H:Hp)(Q:VK):Prop
 |mk(x c T:_)(a:xs=[x,.ty c])(b:VQ c=true)(d:FZ H x T)(e:Q (.bl (IX T c)) H)
def cS:List V->Hp->VK->Prop:=fun xs H Q=>cR xs H Q
theorem Rh{A:Around}{E:Value->Shared->Prop}{Q:Value->Shared->Prop}(I:Inv X pins l H s)(d:RelV x u)(ty:FZ H x T)(e:PySem.W.kitOne X.K (.type T) (.type c)=some b)(h:∀tk,Q (.bool b) {s with toks:=tk}):
  wpAny (model X.prog X.w) A (call (.builtin "isinstance") [u,.type c]) Q E s:=by
 cases ty with
 |Ae=>exact CN I d .Ae e h
 |bl y=>exact CN I d (.bl y) e h
 |int i=>exact CN I d (.int i) e h
 |str y=>exact CN I d (.str y) e h
 |tup f=>exact CN I d (.tup f) e h
 |@lst a xs f=>
  cases(show u=Value.ref a from d);obtain⟨_,_,n,_,g⟩:=(show Ah X.prog X.w H s.heap a (.lst xs)from f.ok I.Al);exact PySem.W.kia_one PySem.W.kitx_list I.CH ⟨_,g,rfl⟩ e (fun z=>nomatch z) h
 |@dK a j f=>
  cases(show u=Value.ref a from d);obtain⟨_,_,m,_,p⟩:=(show Ah X.prog X.w H s.heap a (.dK j)from f.ok I.Al);obtain⟨o,q,r,g,k,_⟩:=p;exact PySem.W.kia_one PySem.W.kitx_dict I.CH ⟨o,g,k.1⟩ e (fun z=>nomatch z) h
theorem Af:BG X (.builtin "isinstance") cS:=by
 intro pins s f H xs g Q I r h;obtain⟨x,c,T,rfl,b,ty,q⟩:=h;obtain⟨u,i,rfl,d,a⟩:=vals2 r;cases a;exact Rh I d ty (Ny ty b) fun e=>⟨.bl _,H,I.tok e,rfl,q⟩
end
open Builtin Builtin.Str
abbrev sgn(x:Str):List Nat:=x.cps.toList
def Ul:List Nat:=sgn "abcdefghijklmnopqrstuvwxyz"
def Ju(c:Nat):Bool:=decide (c∈Ul)
theorem Cq(x:Str):(sgn x).length=x.length:=by
 show x.cps.toList.length=x.cps.size;exact Array.length_toList
theorem BW(x y:Str):sgn (x++y)=sgn x++sgn y:=by
 show(x.cps++y.cps).toList=_;exact Array.toList_append
theorem CV(x:Str)(l u:Option Int):sgn (Txt.slice x l u)=MG (sgn x) l u:=Kb x l u
def EF(l:List Nat):Bool:=decide (1<=l.length)&&decide (l.length<=8)&&l.all Ju
def CI(x:Str):Bool:=EF (sgn x)
theorem Kd(ys:List Str):sgn (Txt.join "" ys)=(ys.map sgn).flatten:=by
 have h:∀ys:List Str,sgn (Str.join "" ys)=(ys.map sgn).flatten:=by
  intro ys
  induction ys with
  |nil=>rfl
  |cons x r a=>
   cases r with
   |nil=>
    show sgn x=_;simp
   |cons y r=>
    show sgn (x++""++Str.join "" (y::r))=_;rw[BW,BW,a];have:sgn ("":Str)=[]:=by decide
    rw[this];simp
 show sgn (Builtin.Str.glued "" ys)=_;rw[StrLaws.glued_eq_join];exact h ys
theorem Ri(n d k:Nat):HT.BI n d (some (k:Int))=min k n:=by
 show(if(k:Int)<0 then((k:Int)+(n:Int)).toNat else min (k:Int).toNat n)=min k n;rw[if_neg (by lia),Int.toNat_natCast]
theorem IY(l:List Nat)(k:Nat):MG l none (some (k:Int))=l.take k:=by
 unfold MG;have e:=Ri l.length l.length k;rw[e];show(l.drop 0).take (min k l.length-0)=_;rw[List.drop_zero,Nat.sub_zero,List.take_eq_take_min];simp
theorem VR(l:List Nat)(a b:Nat)(c:a<=b)(d:b<=l.length):MG l (some (a:Int)) (some (b:Int))=(l.take b).drop a:=by
 unfold MG;have e1:HT.BI l.length 0 (some (a:Int))=a:=(Ri _ _ a).trans (Nat.min_eq_left (Nat.le_trans c d));have e2:HT.BI l.length l.length (some (b:Int))=b:=(Ri _ _ b).trans (Nat.min_eq_left d);rw[e1,e2,List.drop_take]
variable{p:Nat->Bool}{l:List Nat}
theorem GH(h:l.all p=true)(k:Nat):(l.take k).all p=true:=by
 rw[List.all_eq_true]at h⊢;exact fun x a=>h x (List.mem_of_mem_take a)
theorem Rj(h:l.all p=true)(k:Nat):(l.drop k).all p=true:=by
 rw[List.all_eq_true]at h⊢;exact fun x a=>h x (List.mem_of_mem_drop a)
theorem MM(h:c∈Ul):Ju c=true:=decide_eq_true h
theorem Pl(h:EF l=true):1<=l.length/\l.length<=8/\l.all Ju=true:=by
 unfold EF at h;simp only[Bool.and_eq_true,decide_eq_true_eq]at h;exact⟨h.1.1,h.1.2,h.2⟩
theorem Ke(a:1<=l.length)(b:l.length<=8)(c:l.all Ju=true):EF l=true:=by
 unfold EF;simp only[Bool.and_eq_true,decide_eq_true_eq];exact⟨⟨a,b⟩,c⟩
namespace Dc
end Dc
variable{P:Program}{w:World}
section
def HH(xs ys:List V):Bool:=((List.range (min xs.length ys.length)).all fun j=>L_ (xs.getD j .Ae) (ys.getD j .Ae))&&xs.length==ys.length
inductive Pm(K:qG)(x y:V)(H:Hp)(Q:VK):Prop
 |mk(a b:Addr)(xs ys:List V)(c:x=.ref a)(d:y=.ref b)(e:Az K H a xs)(f:Az K H b ys)(g:(∀z∈xs,BJ z=true))(h:(∀z∈ys,BJ z=true))(i:Q (.bl (HH xs ys)) H)
def Rk(K:qG):V->V->Hp->VK->Prop:=fun x y H Q=>Pm K x y H Q
theorem MN(o:X.A.units<cLine):DC X (compareOp .Eq) (Rk X.K):=by
 intro pins s S H x y v u Q I p r h;obtain⟨a,b,xs,d,rfl,rfl,t,w,z,B,q⟩:=h;cases p;cases r;obtain⟨i,k,C,_⟩:=I.tuple t;obtain⟨c,l,D,_⟩:=I.tuple w;have e1:i.toArray.size=xs.length:=by rw[List.size_toArray];exact k.length.symm
 have e2:c.toArray.size=d.length:=by rw[List.size_toArray];exact l.length.symm
 refine SeqAt.eq_tupleAt (e:=fun j=>L_ (xs.getD j .Ae) (d.getD j .Ae)) C D o (fun j E F=>?_) ?_
 ·have f:j<xs.length:=by rw[<-e1];exact E
  have g:j<d.length:=by rw[<-e2];exact F
  obtain⟨m,G,J⟩:=k.get (p_ f);obtain⟨n,L,M⟩:=l.get (p_ g);have N:i.toArray[j]=m:=by
   have:=(p' G).2;simpa using this
  have O:c.toArray[j]=n:=by
   have:=(p' L).2;simpa using this
  rw[N,O];have P:xs.getD j .Ae=xs[j]:=by rw[List.getD_eq_getElem?_getD,p_ f];rfl
  have R:d.getD j .Ae=d[j]:=by rw[List.getD_eq_getElem?_getD,p_ g];rfl
  show SeqAt.EqAt _ _ m n (L_ (xs.getD j .Ae) (d.getD j .Ae));rw[P,R];exact L' J M (z _ (List.getElem_mem f)) (B _ (List.getElem_mem g))
 ·rw[e1,e2];exact⟨.bl (HH xs d),H,I,rfl,q⟩
theorem Pn{vs:List (Key×Value)}{d:List Str}(c:vs.map (·.1)=d.map Sum.inr){b:List Value}(f:b.length=vs.length)(l:∀(j:Nat) (v:Value),b[j]?=some v->∃k x,vs[j]?=some (k,x)/\(Ag P w).is k v=true):StrsAre b d:=by
 induction d generalizing vs b with
 |nil=>
  have:vs=[]:=by cases vs with|nil=>rfl|cons a r=>simp at c
  subst this;have:b=[]:=List.eq_nil_of_length_eq_zero f;subst this;exact .nil
 |cons x r m=>
  cases vs with
  |nil=>simp at c
  |cons a vs=>
   simp only[List.map_cons,List.cons.injEq]at c;cases b with
   |nil=>simp at f
   |cons u b=>
    obtain⟨k,y,e,g⟩:=l 0 u rfl;have e:a=(k,y):=by simpa using e
    subst e;have h:k=Sum.inr x:=c.1;subst h;have g:Fl (Sum.inr x) u=true:=g;rcases Am g with⟨i,t,e1,_⟩|⟨z,t,e1,e2⟩
    ·cases e1
    ·cases e1;subst e2;exact .cons _ t (m c.2 (by simpa using f) fun j v n=>l (j+1) v (by simpa using n))
theorem Po(h:StrsAre us ys):Vals (ys.map V.str) us:=by
 induction h with
 |nil=>exact .nil
 |cons n t _ a=>exact .cons ⟨t,rfl⟩ a
inductive FP(xs:List V)(H:Hp)(Q:VK):Prop
 |mk(d:Addr)(b:List (Key×V))(e:List Str)(f:xs=[.ref d])(g:Rd H d (.dK b))(h:b.map (·.1)=e.map Sum.inr)(i:b.length<64)(j:∀(p:Addr) (a:List Str) (c:Hp),H p=none->AG H c->c p=some (.lst (a.map V.str))->a.Perm e->sortedS a=true->Q (.ref p) c)
def GI:List V->Hp->VK->Prop:=fun xs H Q=>FP xs H Q
theorem IZ(T:X.calm=true):BG X (.builtin "sorted") GI:=by
 intro pins s σ H xs us Q I r h;obtain⟨d,U,F,rfl,hd,G,p,q⟩:=h;obtain⟨u,rfl,Y⟩:=vals1 r;cases Y;obtain⟨z,Z,k,l,dd⟩:=GC I.Al hd;have t:X.A.in1.handled=none:=I.ok.hd T;have n:k.length=U.length:=l.length.symm;have x:k.map (·.1)=F.map Sum.inr:=by rw[<-G];exact(KV.keys l).symm
 obtain⟨ep,y⟩:=dd.dictAt;have J:k.length<=sizeLine:=by rw[n];exact z
 refine Calls.call_function_entry kind_sorted plain_sorted entry_sorted (args_sorted1 _) ?_;unfold Builtin.«sorted»;refine wpAny_bind (m:=checkCount "sorted" 1 1 _) (wpAny_pure (wpAny_bind (PySem.W.kdu_collect (PySem.W.kdl_dict (knd:=Ag X.prog X.w) (kvs:=k) (ep:=ep) Z) t y J fun c K a keep items=>?_)));have B:a.toList.length=k.length:=by rw[Array.length_toList];exact items.1
 have C:StrsAre a.toList F:=Pn (P:=X.prog) (w:=X.w) x B fun j v e=>items.2 j v (by rw[<-Array.getElem?_toList];exact e);refine wpAny_bind (wpAny_newList ?_ (by rw[B];exact J));have f:(c.push {cls:=.type "list",data:=.seq a.toList.toArray}).get? c.objs.size=some (seqObj "list" a.toList.toArray 0):=Heap.get?_push_size _ rfl;refine wpAny_bind (wpAny_holding (wpAny_call_entry slot_list_sort ⟨_,f,rfl⟩ entry_list_sort (list_sort_treeK strKind_oneLt f C.keysOf (fun L M rest e=>keyKind_strs (by rw[<-e];exact C)) (by rw[B,n];exact p) fun g a1 a2=>⟨_,rfl,?_⟩) (args_list_sort _)));obtain⟨i,b1,N,b3⟩:=sorted_out_str C a1 a2;obtain⟨ee,he⟩:=sortedHeap_at (out:=(arrOf g).map (·.2)) f;refine wpAny_pure ⟨_,rfl,?_⟩;have D:(c.push {cls:=.type "list",data:=.seq a.toList.toArray}).objs.size=c.objs.size+1:=size_push' ..;have O:=I.kept (t':=K) keep;have k2:∀b o,c.get? b=some o->(sortedHeap (c.push {cls:=.type "list",data:=.seq a.toList.toArray}) c.objs.size a.toList ((arrOf g).map (·.2))).get? b=some o:=fun b o e=>by
  have R:b<c.objs.size:=Heap.lt_size e;rw[sortedHeap_old (Nat.ne_of_lt R) (by rw[D];exact Nat.lt_succ_of_lt R)];exact Heap.get?_push_of_some _ e
 have E:i.length<=sizeLine:=by
  rw[N.length_eq];have:=congrArg List.length G;rw[List.length_map,List.length_map]at this;rw[<-this];exact z
 have new:Ah X.prog X.w (upd H c.objs.size (.lst (i.map V.str))) (sortedHeap (c.push {cls:=.type "list",data:=.seq a.toList.toArray}) c.objs.size a.toList ((arrOf g).map (·.2))) c.objs.size (.lst (i.map V.str)):=
  ⟨by rw[List.length_map];exact E,((arrOf g).map (·.2)).toList,ee,Po b1,by rw[Array.toArray_toList];exact he⟩
 have S:H c.objs.size=none:=O.fresh;exact⟨.ref c.objs.size,_,O.laid (t':=K) k2 (Nat.le_refl _) new,rfl,q _ i _ S (AG.new S) AD N b3⟩
end
structure Txt(mg:Str->Option Value):Prop where
 isinstance:mg "isinstance"=none
 int:mg "int"=none
 bool:mg "bool"=none
 str:mg "str"=none
 list:mg "list"=none
 dict:mg "dict"=none
 tuple:mg "tuple"=none
 len:mg "len"=none
 range:mg "range"=none
 max:mg "max"=none
 min:mg "min"=none
 sorted:mg "sorted"=none
 all:mg "all"=none
 any:mg "any"=none
 reversed:mg "reversed"=none
 ValueError:mg "ValueError"=none
 sum:mg "sum"=none
theorem A_:bootBuiltins "isinstance"=some (.builtin "isinstance"):=by decide+kernel
theorem Kf:bootBuiltins "int"=some (.type "int"):=by decide+kernel
theorem Rl:bootBuiltins "bool"=some (.type "bool"):=by decide+kernel
theorem GJ:bootBuiltins "str"=some (.type "str"):=by decide+kernel
theorem EZ:bootBuiltins "list"=some (.type "list"):=by decide+kernel
theorem Ia:bootBuiltins "dict"=some (.type "dict"):=by decide+kernel
theorem Nz:bootBuiltins "tuple"=some (.type "tuple"):=by decide+kernel
theorem Rm:bootBuiltins "sorted"=some (.builtin "sorted"):=by decide+kernel
theorem N_:bootBuiltins "all"=some (.builtin "all"):=by decide+kernel
theorem Aj{c:Bool}{A B:Prop}(a:c=false)(h:B):if c=true then A else B:=by
 rw[a];exact Aa h
theorem Ad{c:Bool}{A B:Prop}(a:c=true)(h:A):if c=true then A else B:=by
 rw[a];exact Co h
theorem GK{xs:List c}(b:0<=i)(d:i<(xs.length:Int)):∃v,Jt xs i=some v/\v∈xs:=by
 obtain⟨n,rfl⟩:=Int.eq_ofNat_of_zero_le b;have a:n<xs.length:=by lia
 exact⟨xs[n],Bd (p_ a),List.getElem_mem a⟩
inductive lS(P:Program)(w:World)(K:qG)(mg:Str->Option Value)(base:Heap)(x:Str)(ps:List Str)(n:Nat)(sp:Sp):Prop
 |mk(f:Addr)(a:FuncData)(k:PySem.W.keepIn K (.ref f)=true)(b:Binds K a ps [])(m:mg x=some (.ref f))(G:AV P w K mg base BP n f a ps sp)
structure Df(P:Program)(w:World)(K:qG)(mg:Str->Option Value)(base:Heap)(x:Str)(ps:List Str)(n:Nat)(sp:Sp):Prop where
 ex:lS P w K mg base x ps n sp
theorem Df.mk'{mg:Str->Option Value}{base:Heap}{x q:Str}{st:Stmt}{ps:List Str}{n:Nat}{sp:Sp}{f:Addr}{a:FuncData}(F:CT K x q st f a)(b:Binds K a ps [])(m:mg x=some (.ref f))(G:AV P w K mg base BP n f a ps sp):Df P w K mg base x ps n sp:=⟨⟨f,a,F.kp,b,m,G⟩⟩
theorem EG(r:Int)(h:0<n):0<=r % n/\r % n<n:=⟨Int.emod_nonneg _ (by lia),Int.emod_lt_of_pos _ h⟩
def MO(x:Str):Bool:=decide (x.length<=12)&&(sgn x).all Ju
def cT(v:V):Prop:=(∃i:Int,v=.int i/\i.natAbs<2 ^ 400)∨∃x:Str,v=.str x/\MO x=true
theorem Rn(h:MO x=true):x.length<=12:=by
 unfold MO at h;simp only[Bool.and_eq_true,decide_eq_true_eq]at h;exact h.1
theorem Hn(h:CI x=true):1<=x.length/\x.length<=8:=by
 have:=Pl h;rw[Cq]at this;exact⟨this.1,this.2.1⟩
namespace Dc
end Dc
abbrev Ro:Str:="abcdefghijklmnopqrstuvwxyz"
theorem OA:Ro.length=26:=by decide+kernel
theorem Ib:Ul.length=26:=by decide+kernel
theorem MQ(i:Int)(b:0<=i)(d:i<26):∃c,Jt (sgn Ro) i=some c/\Ju c=true:=by
 obtain⟨n,rfl⟩:=Int.eq_ofNat_of_zero_le b;have a:n<Ul.length:=by rw[Ib];lia
 exact⟨Ul[n],Bd (p_ a),MM (List.getElem_mem a)⟩
theorem GL(r:Int):0<=r % 26/\r % 26<26:=⟨Int.emod_nonneg _ (by decide),Int.emod_lt_of_pos _ (by decide)⟩
inductive VS(K:qG)(vs:List V)(H:Hp)(Q:VK)(b:XK):Prop
 |mk(a:Addr)(c:List Int)(k:Nat)(d:vs=[.ref a,.int (k:Int)])(e:Ap K H a (c.map V.int))(f:∀r:Int,0<=r->Q (.int r) H)
def Rp(K:qG):Sp:=fun b H Q a=>VS K b H Q a
inductive Yg(vs:List V)(H:Hp)(Q:VK)(a:XK):Prop
 |mk(c:Int)(k:Nat)(b:vs=[.int c,.int (k:Int)])(d:k<=1000)(e:∀r:Int,0<=r->r<2305843009213693951->Q (.int r) H)
def Ho:Sp:=fun b H Q a=>Yg b H Q a
noncomputable def Rq:Nat->Int->Int
 |0,n=>n
 |k+1,n=>Rq k n/1000000
def Kg(c:Int)(k:Nat):Int:=(((c+3)*1181783497276652981 % 2305843009213693951+((k:Int)+1)*614889782588491411) % 2305843009213693951)*(((c+3)*1181783497276652981 % 2305843009213693951+((k:Int)+1)*614889782588491411) % 2305843009213693951) % 999999999999999989
def Pp(c:Int)(k:Nat):Int:=if c % 4=0/\4*10 ^ 60<=c then Rq k (c/4) % 1000000 else(Kg c k+1)*(Kg c k/1000003+7) % 2305843009213693951/7919
theorem Rr(c:Int)(k:Nat):0<=Pp c k/\Pp c k<2305843009213693951:=by
 unfold Pp;split
 ·have a:=Int.emod_nonneg (Rq k (c/4)) (show(1000000:Int)≠0 by decide);have b:=Int.emod_lt_of_pos (Rq k (c/4)) (show(0:Int)<1000000 by decide);lia
 ·have a:=Int.emod_nonneg ((Kg c k+1)*(Kg c k/1000003+7)) (show(2305843009213693951:Int)≠0 by decide);have b:=Int.emod_lt_of_pos ((Kg c k+1)*(Kg c k/1000003+7)) (show(0:Int)<2305843009213693951 by decide);lia
inductive VT(vs:List V)(H:Hp)(Q:VK)(a:XK):Prop
 |mk(c:Int)(k:Nat)(b:vs=[.int c,.int (k:Int)])(d:k<=1000)(e:Q (.int (Pp c k)) H)
def Rt:Sp:=fun b H Q a=>VT b H Q a
theorem Ru(h:Ho vs H Q E):Rt vs H Q E:=by
 obtain⟨c,k,e,a,q⟩:=h;exact⟨c,k,e,a,q _ (Rr c k).1 (Rr c k).2⟩
theorem Kh{ys:List Str}(P:Nat->Str->Prop)(h:∀(j:Nat) y,ys[j]?=some y->P j y)(inj:∀(i j:Nat) y,i<j->j<ys.length->P i y->P j y->False):ys.Nodup:=by
 refine List.pairwise_iff_getElem.mpr fun i j d b a e=>?_;have f:=h i _ (p_ d);have c:=h j _ (p_ b);rw[<-e]at c;exact inj i j _ a b f c
inductive Yh(K:qG)(vs:List V)(H:Hp)(Q:VK)(c:XK):Prop
 |mk(a:Addr)(b:List Int)(e:vs=[.ref a])(f:Ap K H a (b.map V.int))(g:b.length<=63)(h:∀d,Q (.bl true) d)
def Ki(K:qG):Sp:=fun b H Q a=>Yh K b H Q a
theorem Ab(h:n<=1000):n<=sizeLine:=Nat.le_of_lt (BH h)
theorem AZ:[x,y].length<=sizeLine:=Ab (show 2<=1000 by decide)
theorem Ak:[x].length<=sizeLine:=Ab (show 1<=1000 by decide)
theorem MR(R:Hp->Prop)(k:∀a,R a->u D b a)(h:(∀a,R a->u D b a)->t {D with nx:=u D} b H):PR t u D b H:=h k
namespace Dc
end Dc
section
variable {pins:List (Addr×Obj)} {σ:St} {H:Hp} {s:Shared} {a:Addr} {kvs:List (Key×V)}
theorem Inv.freeze(I:Inv X pins σ H s)(e:H a=some (.dK kvs)):∃o,s.heap.get? a=some o/\Inv X pins σ (upd H a (.Ci o (.dK kvs))) s:=by
 have ok:=(show Ah X.prog X.w H s.heap a (.dK kvs)from I.Al a _ e);obtain⟨z,g,h,i,o,j,k,f,r⟩:=id ok;refine⟨o,f,?_⟩;have c:∀b u,H b=some u->u≠.dK kvs->b≠a:=fun b u q n w=>by
  subst w;rw[e]at q;exact n (qB q).symm
 have un:Un X.fs [] H (upd H a (.Ci o (.dK kvs))) s.heap s.heap:=
  ⟨fun b d q _ _ _=>q,fun b d q _ _ _=>⟨d.slots,q⟩,fun b d q n _=>(AH (fun w=>by subst w;rw[e]at n;cases n)).trans n,fun b d q _=>⟨d,q⟩,
   fun b xs q=>(AH (c b _ q (by intro z;cases z))).trans q,fun b d u q=>(AH (c b _ q (by intro z;cases z))).trans q,fun b l q=>⟨#[],by rw[AH (c b _ q (by intro z;cases z)),q];simp⟩⟩
 have Al:Cf X.prog X.w (upd H a (.Ci o (.dK kvs))) s.heap:=I.Al.write (by rw[e];trivial) (.inl rfl) (fun b u _ q=>q) ⟨o,f⟩ ⟨f,ok⟩;exact I.un (h':=s.heap) (t':=s.toks) un Al
theorem Inv.gW(I:Inv X pins σ H s)(e:H a=some (.Ci o (.dK kvs)))(nf:∀o u,X.H₀ a≠some (.Ci o u)):Inv X pins σ (upd H a (.dK kvs)) s:=by
 have ok:=(show Ah X.prog X.w H s.heap a (.Ci o (.dK kvs))from I.Al a _ e);have d:∀b u,H b=some u->u≠.Ci o (.dK kvs)->b≠a:=fun b u q n w=>by
  subst w;rw[e]at q;exact n (qB q).symm
 have f:∀b,H b=none->b≠a:=fun b n w=>by subst w;rw[e]at n;cases n
 have B:=I.base;refine⟨I.ok,I.os,I.bare,⟨B.keep,B.slot,fun b g q n h=>(AH (f b (B.free b g q n h))).trans (B.free b g q n h),B.there,fun b xs q=>(AH (d b _ (B.Dl b xs q) (by intro z;cases z))).trans (B.Dl b xs q),
  fun b g u q=>(AH (fun w=>nf g u (by rw[<-w];exact q))).trans (B.DV b g u q),fun b l q=>?_⟩,I.loc,I.cell,(AH (f _ I.free)).trans I.free,fun x c q=>(AH (f _ (I.BS x c q))).trans (I.BS x c q),
  fun p m=>let⟨t,i,y⟩:=I.pin p m;⟨t,(AH (f _ i)).trans i,y⟩,fun b u q=>?_,I.len⟩
 ·obtain⟨more,j⟩:=B.Du b l q;exact⟨more,(AH (d b _ j (by intro z;cases z))).trans j⟩
 ·by_cases k:b=a
  ·subst k;rw[AD]at q;cases q;exact ok.2
  ·rw[AH k]at q;exact(I.Al b u q).FG (fun c v _ r=>r) (fun c r=>(AH (d c _ r (by intro z;cases z))).trans r) fun c xs r=>(AH (d c _ r (by intro z;cases z))).trans r
theorem Inv.nf(I:Inv X pins σ H s)(e:H a=some (.dK kvs)):∀o u,X.H₀ a≠some (.Ci o u):=fun o u q=>by
 have:=I.base.DV a o u q;rw[e]at this;cases this
end
def Yi(a:Addr)(o:Obj)(kvs:List (Key×V))(k:Hp->Prop):Hp->Prop:=fun H=>H a=some (.Ci o (.dK kvs))/\k (upd H a (.dK kvs))
inductive Yj(t:TE)(b:St)(H:Hp)(Q:VK):Prop
 |mk(a kvs:_)(c:H a=some (.dK kvs))(d:∀o,t b (upd H a (.Ci o (.dK kvs))) fun v=>Yi a o kvs (Q v))
def cU(t:TE):TE:=fun a H Q=>Yj t a H Q
section
theorem Yk(h:PE X e t):PE X e (cU t):=by
 rintro pins s c H Q I ⟨a,d,b,f⟩;obtain⟨o,l,g⟩:=I.freeze b;exact Aw (h pins s c _ _ g (f o)) fun u m ⟨v,n,i,j,e1,k⟩=>⟨v,_,i.gW e1 (I.nf b),j,k⟩
theorem GO(h:PE X e t)(h':PE X e u):PE X e (fun a H Q=>t a H Q∨u a H Q):=by
 rintro pins s a H Q I (q|q)
 ·exact h pins s a H Q I q
 ·exact h' pins s a H Q I q
theorem Yl(h:PS X e t)(h':PS X e u):PS X e (fun D a H=>t D a H∨u D a H):=by
 rintro pins s a H D I (q|q)
 ·exact h pins s a H D I q
 ·exact h' pins s a H D I q
end
def gX(a:Addr)(o:Obj)(kvs:List (Key×V)):It:=
 ⟨fun i H=>H a=some (.Ci o (.dK kvs))/\i<kvs.length,fun i H x b=>b=H/\∃k v,kvs[i]?=some (k,v)/\x=kV k,fun i H=>H a=some (.Ci o (.dK kvs))/\i=kvs.length⟩
def cV(tl:TE):TI:=fun d H R=>tl d H fun x c=>∃a o b,x=.ref a/\c a=some (.Ci o (.dK b))/\R (gX a o b) c
theorem VU(h:(Ag P w).is k u=true):RelV (kV k) u:=by
 rcases Am (k:=k) (v:=u) h with⟨i,t,rfl,rfl⟩|⟨x,t,rfl,rfl⟩
 ·exact⟨t,rfl⟩
 ·exact⟨t,rfl⟩
theorem Pq{tg:Expr}(jh:a≠it)(rel:KV kvs vs)(hD:∀h:Heap,h.get? a=some o->h.DictAt (Ag P w) a vs ep):
  Turn P w K tg (gX a o kvs) [it] it (fun i h=>h.IsKeyIter it a i vs.length ep)where
 mem:=by simp
 obj:=fun i h st b hb=>by
  have e:b=it:=by simpa using hb
  subst e;obtain⟨ob,h1,_,h3⟩:=st;exact⟨ob,h1,fun v z=>by rw[h3]at z;cases z⟩
 keep:=fun i h h' st k=>st.at fun ob e=>k it (by simp) ob e
 item:=fun X hp hw _ hc i pins s σ H E I hf st go=>by
  subst hp hw;have f:=hf it (by simp);obtain⟨ga,gi⟩:=go;have gY:=hD s.heap (show Ah X.prog X.w H s.heap a (.Ci o (.dK kvs))from I.Al a _ ga).1;refine(Walks.dictKeys (knd:=Ag X.prog X.w) (I.ok.hd hc) it a jh vs ep).item i s _ E (by rw[<-rel.length];exact gi) ⟨st,gY⟩ fun v h' tk hP Lg kept=>?_;obtain⟨k,x,lT,hk⟩:=hP;obtain⟨ob,h1,h2,h3⟩:=Lg.1;have lU:∃y,kvs[i]?=some (k,y):=by
   have e:=congrArg (fun l=>l[i]?) (KV.keys rel);simp only[List.getElem?_map,lT,p_ gi]at e;have e:kvs[i].1=k:=by simpa using e
   exact⟨kvs[i].2,by rw[p_ gi,<-e]⟩
  obtain⟨y,hy⟩:=lU;refine⟨v,rfl,HX (o:=ob) h1 h2 h3 (by decide) ⟨kV k,H,I.turned (fun b gZ hb e=>kept b gZ (by simp[hb]) e) f.1 f.2.1 f.2.2.2.1 f.2.2.2.2.1 f.2.2.2.2.2,VU hk,⟨rfl,k,y,hy,rfl⟩,Lg.1,fun b hb=>?_⟩⟩;have e:b=it:=by simpa using hb
  subst e;exact f.1
 done:=fun X hp hw _ hc i pins s σ H E I hf st stop=>by
  subst hp hw;have f:=hf it (by simp);obtain⟨ga,gi⟩:=stop;have gi:i=vs.length:=by rw[gi];exact rel.length
  subst gi;have gY:=hD s.heap (show Ah X.prog X.w H s.heap a (.Ci o (.dK kvs))from I.Al a _ ga).1;refine(Walks.dictKeys (knd:=Ag X.prog X.w) (I.ok.hd hc) it a jh vs ep).done s _ E ⟨st,gY⟩ fun h' tk kept=>?_;exact⟨rfl,I.turned (fun b ob hb e=>kept b ob (by simp[hb]) e) f.1 f.2.1 f.2.2.2.1 f.2.2.2.2.1 f.2.2.2.2.2⟩
 self:=fun A i s Q E st hQ=>wpAny_pyIter_keyiter st hQ
section
variable {tg:Expr}
theorem VV(p:PE X M tl):PI X tg M (cV tl):=by
 intro pins s r H R I h;refine Aw (p pins s r H _ I h) fun v c t=>t.elim fun x m i u y=>?_;obtain⟨a,o,d,rfl,A,q⟩:=y;cases u;have ok:=(show Ah X.prog X.w m c.heap a (.Ci o (.dK d))from i.Al a _ A);obtain⟨n,z,B,G,j,C⟩:=ok;obtain⟨J,f⟩:=C.dictAt;obtain⟨K,D,g,E⟩:=id f;rw[n]at g;cases g;have k:a<c.heap.objs.size:=Heap.lt_size n;refine wpAny_pyIter_dict B f ⟨c.heap.objs.size,[c.heap.objs.size],_,gX a o d,m,rfl,i.kept (t':=c.toks) fun b L e=>Heap.get?_push_of_some _ e,
  Pq (Nat.ne_of_lt k) j (fun h e=>⟨o,D,e,E⟩),⟨_,Heap.get?_push_size _ rfl,rfl,rfl⟩,fun b F=>?_,q⟩
 have e:b=c.heap.objs.size:=by simpa using F
 subst e;exact i.KA (Nat.le_refl _) i.fresh
end
def OB(H a:Hp):Prop:=∀b u,Rd H b u->Rd a b u
theorem OB.Ci{H:Hp}{a:Addr}{o:Obj}{kvs:List (Key×V)}(e:H a=some (.dK kvs)):OB H (upd H a (.Ci o (.dK kvs))):=fun b u r=>by
 by_cases c:b=a
 ·subst c;rcases r with r|⟨d,r⟩
  ·rw[e]at r;cases r;exact .inr ⟨o,AD⟩
  ·rw[e]at r;cases r
 ·exact r.up fun d q=>(AH c).trans q
end L2
namespace PySem
open PyProof.Rows PySem.F PySem.Spec
section
variable{prog:Program} {w:World} {K:Type} [DecidableEq K] {knd:KeyKind prog w K} {A:Around} {R:Result->Shared->Prop}
end
end PySem
namespace L2
open PySem PySem.Spec PyProof.Rows
variable{X:Cx}
section
end
theorem GP(h:BJ x=true):L_ x x=true:=by
 cases x with
 |Ae=>rfl
 |bl b=>exact beq_self_eq_true b
 |int i=>exact beq_self_eq_true i
 |str s=>exact beq_self_eq_true s
 |_=>cases h
theorem Pr(h:∀z∈xs,BJ z=true):HH xs xs=true:=by
 unfold HH;rw[Nat.min_self,Bool.and_eq_true];refine⟨List.all_eq_true.mpr fun j a=>?_,beq_self_eq_true _⟩;have a:=List.mem_range.mp a;rw[List.getD_eq_getElem?_getD,p_ a];exact GP (h _ (List.getElem_mem a))
variable{p:Pos}
section
theorem Rv{pos:Pos}(k:Gl X "range")(l:X.mg "range"=none)(m:PA X [a] n)(u:starEach [a] X.env=[(false,eval a X.env)]:=by rfl):
  PE X (.Call (.Name "range" p) [a] [] pos) (fun d H Q=>n d H fun f c=>∃j:Int,f=[.int j]/\∀r,c r=none->Q (.ref r) (upd c r (.XR 0 j))):=by
 intro pins s d H Q I h;refine Call_ (ET I k l boot_range (PyProof.Rows.callWith_type1 (Aw (m pos pins s d H _ I h) fun z g v=>v.elim fun f c i w x=>?_) u rfl));obtain⟨j,e,q⟩:=x;subst e;cases w with
 |cons r y=>
  cases y;obtain⟨t,rfl⟩:=r;exact call_range_1 ⟨.ref g.heap.objs.size,upd c g.heap.objs.size (.XR 0 j),i.laid (fun b o e=>Heap.get?_push_of_some _ e) (Nat.le_refl _) ⟨_,_,_,Heap.get?_push_size _ rfl⟩,rfl,q _ i.fresh⟩
inductive Ea(xs:List V)(H:Hp)(Q:VK):Prop
 |mk(r:Addr)(n:Nat)(a:xs=[.ref r])(b:H r=some (.XR 0 (n:Int)))(c:n<=1000)(d:Uk H (.lst ((List.range n).map fun(i:Nat)=>V.int (i:Int))) Q)
def FQ:List V->Hp->VK->Prop:=fun xs H Q=>Ea xs H Q
theorem HI(m:X.calm=true):BG X (.type "list") FQ:=by
 intro pins s G H xs J Q I r h;obtain⟨g,n,rfl,o,j,q⟩:=h;obtain⟨u,rfl,p⟩:=vals1 r;cases p;obtain⟨t,u,v,e⟩:=(show Ah X.prog X.w H s.heap g (.XR 0 (n:Int))from I.Al g _ o);have f:X.A.handled=none:=I.ok.hd m;refine call_list_range (n:=n) f e (small_one (by lia) (by lia) (Int.le_trans (by decide) (Int.natCast_nonneg _)) (Int.lt_of_le_of_lt (Int.ofNat_le.mpr j) (by decide))) (by rw[rangeSize_one];split<;>lia) (by lia) fun x y c B C D it=>?_;have E:((List.range n).map fun(i:Nat)=>V.int (i:Int)).length<=sizeLine:=by rw[List.length_map,List.length_range];exact Ab j
 refine⟨.ref s.heap.objs.size,_,I.laid (t':=y) C (Nat.le_refl _) (show Ah X.prog X.w _ x _ (.lst _)from⟨E,c.toList,B,?_,by rw[Array.toArray_toList];exact D⟩),rfl,q _ I.fresh⟩;have gen:∀(n:Nat)(l:List Value),l.length=n->(∀(i:Nat) v,l[i]?=some v->∃t,v=Value.int (0+(i:Int)*1) t)->Vals ((List.range n).map fun(i:Nat)=>V.int (i:Int)) l:=by
  intro n
  induction n with
  |zero=>intro l b _;rw[List.eq_nil_of_length_eq_zero b];exact .nil
  |succ n F=>
   intro l b k;have a:l≠[]:=fun z=>by rw[z]at b;cases b
   have e1:l=l.dropLast++[l.getLast a]:=(List.dropLast_concat_getLast a).symm;rw[List.range_succ,List.map_append,e1];refine(F l.dropLast (by rw[List.length_dropLast,b];rfl) fun i v d=>?_).append (.cons ?_ .nil)
   ·refine k i v ?_;rw[e1,List.getElem?_append_left ((jg d))];exact d
   ·have:l[n]?=some (l.getLast a):=by
     rw[List.getLast_eq_getElem];have:l.length-1=n:=by lia
     rw[p_ (Nat.lt_of_lt_of_le (Nat.lt_succ_of_le (Nat.le_refl _)) (Nat.le_of_eq b.symm))];congr 1;simp[this]
    obtain⟨t,e⟩:=k n _ this;exact⟨t,by rw[e];congr 1;lia⟩
 exact gen n c.toList (by rw[Array.length_toList];exact it.1) fun i v d=>it.2 i v (by rw[<-Array.getElem?_toList];exact d)
inductive EH(xs:List V)(H:Hp)(Q:VK):Prop
 |mk(a kvs:_)(b:xs=[.ref a])(c:Rd H a (.dK kvs))(d:Uk H (.dK kvs) Q)
def Eb:List V->Hp->VK->Prop:=fun xs H Q=>EH xs H Q
theorem GQ:BG X (.type "dict") Eb:=by
 intro pins s g H xs i Q I r h;obtain⟨a,b,rfl,c,q⟩:=h;obtain⟨u,rfl,d⟩:=vals1 r;cases d;exact Ra I c fun p j e f=>⟨.ref p,_,f,rfl,q p e⟩
end
namespace Dc
end Dc
theorem OC{c:TT}{i:TS}{D:Ends}(W:Nat->St->Hp->Prop)(j:Nat)(l:W j d H)(n:∀m d H e,Go D (fun a g=>∃f,f<m/\W f a g) e->W m d H->c d H fun b h=>if b=true then i e d h else D.nx d h)(mono:∀d H Q k,(∀b h,Q b h->k b h)->c d H Q->c d H k):RB c i D d H:=by
 refine⟨W,⟨j,l⟩,fun m d H p=>?_⟩;refine mono d H _ _ (fun b h q=>?_) (n m d H {D with nx:=fun a g=>∃f,f<m/\W f a g,ct:=fun a g=>∃f,f<m/\W f a g,bk:=D.nx} ⟨id,id⟩ p);cases b with
 |true=>exact⟨_,fun a g z=>z,q⟩
 |false=>exact q
def back(a:Addr)(H c:Hp):Hp:=fun b=>if b=a then H a else c b
theorem Ic(h:b≠a):back a H c b=c b:=if_neg h
theorem VW:back a H b a=H a:=if_pos rfl
theorem Rw(e:H a=some u):back a H c=upd c a u:=by
 funext b;unfold back upd;split
 ·exact e
 ·rfl
theorem Pt(e:H a=c a):back a H c=c:=by
 funext b;unfold back;split
 ·rename_i h;rw[h,e]
 ·rfl
structure Rx(a:Addr)(o:Obj)(kvs:List (Key×V))(H Hf:Hp):Prop where
 at_:Hf a=some (.Ci o (.dK kvs))
 rd:OB H Hf
 ne:∀b,b≠a->Hf b=H b
 oU:Rd H a (.dK kvs)
theorem Rx.free(F:Rx a o kvs H d)(h:d b=none):H b=none/\b≠a:=by
 have c:b≠a:=fun z=>by rw[z,F.at_]at h;cases h
 rw[F.ne b c]at h;exact⟨h,c⟩
theorem Rx.back(F:Rx a o kvs H d)(s:AG d f):AG H (back a H f):=fun b u e=>by
 by_cases c:b=a
 ·subst c;rw[VW];exact e
 ·rw[Ic c];exact s b u (by rw[F.ne b c];exact e)
inductive VX(t:TE)(d:St)(H:Hp)(Q:VK):Prop
 |mk(a kvs:_)(e:Rd H a (.dK kvs))(f:∀o b,Rx a o kvs H b->t d b fun v c=>c a=some (.Ci o (.dK kvs))/\Q v (back a H c))
def Ym(t:TE):TE:=fun a H Q=>VX t a H Q
theorem Rx.of(e:H a=some (.dK kvs)):Rx a o kvs H (upd H a (.Ci o (.dK kvs))):=⟨AD,OB.Ci e,fun b c=>AH c,.inl e⟩
theorem Rx.same(e:H a=some (.Ci o (.dK kvs))):Rx a o kvs H H:=⟨e,fun _ _ r=>r,fun _ _=>rfl,.inr ⟨o,e⟩⟩
section
theorem VY(h:PE X e t):PE X e (Ym t):=by
 rintro pins s d H Q I ⟨a,b,r,f⟩;rcases r with r|⟨o,r⟩
 ·refine Yk h pins s d H Q I ⟨a,b,r,fun o=>?_⟩;have:=f o _ (Rx.of r);have e:(fun v c=>c a=some (.Ci o (.dK b))/\Q v (back a H c))=fun v=>Yi a o b (Q v):=by
   funext v c;unfold Yi;rw[Rw r]
  rw[e]at this;exact this
 ·refine Aw (h pins s d H _ I (f o H (Rx.same r))) fun u l ⟨v,i,j,k,e1,g⟩=>⟨v,i,j,k,?_⟩;rw[Pt (r.trans e1.symm)]at g;exact g
end
namespace Dc
end Dc
noncomputable def MS:V->Bool
 | .int _=>true
 |_=>false
noncomputable def Kj:V->Bool
 | .str x=>CI x
 |_=>false
def Short(v:V):Prop:=∀x,v=.str x->x.length<=1000
inductive Ry(vs:List V)(H:Hp)(Q:VK)(a:XK):Prop
 |mk(v T:_)(b:vs=[v])(c:FZ H v T)(d:Q (.bl (MS v)) H)
def Ie:Sp:=fun b H Q a=>Ry b H Q a
inductive MU(vs:List V)(H:Hp)(Q:VK)(b:XK):Prop
 |mk(x:Str)(c:vs=[.str x])(d:x.length<=1000)(e:∀a,AG H a->Q (.bl ((sgn x).all Ju)) a)
def Ec:Sp:=fun b H Q a=>MU b H Q a
inductive VZ(vs:List V)(H:Hp)(Q:VK)(b:XK):Prop
 |mk(v T:_)(c:vs=[v])(d:FZ H v T)(e:Short v)(f:∀a,AG H a->Q (.bl (Kj v)) a)
def MV:Sp:=fun b H Q a=>VZ b H Q a
namespace Dc
end Dc
namespace Dc
end Dc
namespace Dc
end Dc
inductive Pu(vs:List V)(H:Hp)(Q:VK)(b:XK):Prop
 |mk(c:Int)(d:vs=[.int c])(e:∀(p:Addr) (ys:List Str) (a:Hp),AG H a->H p=none->a p=some (.lst (ys.map V.str))->ys.length=6->ys.Nodup->(∀y∈ys,CI y=true)->Q (.ref p) a)
def Kk:Sp:=fun b H Q a=>Pu b H Q a
def cW(n:Nat)(v:V):Prop:=∃x:Str,v=.str x/\x.length=n/\(sgn x).all Ju=true
theorem Hq:∀ys:List V,(∀y∈ys,cW n y)->∃zs:List Str,ys=zs.map V.str/\(zs.map (·.length)).sum=n*ys.length/\((zs.map sgn).flatten).length=n*ys.length/\((zs.map sgn).flatten).all Ju=true
 |[],_=>⟨[],rfl,rfl,rfl,rfl⟩
 |y::r,h=>by
  obtain⟨x,e,a,b⟩:=h y List.mem_cons_self;obtain⟨zs,e2,c,d,f⟩:=Hq r fun z g=>h z (List.mem_cons_of_mem _ g);have i:(sgn x).length=n:=by rw[Cq];exact a
  refine⟨x::zs,by rw[e,e2];rfl,?_,?_,?_⟩
  ·rw[List.map_cons,List.sum_cons,c,a,List.length_cons,Nat.mul_succ];lia
  ·rw[List.map_cons,List.flatten_cons,List.length_append,d,i,List.length_cons,Nat.mul_succ];lia
  ·rw[List.map_cons,List.flatten_cons,List.all_append,b,f];rfl
variable{es:List Expr}{k:Nat}{fd:FuncData}{ps:List Str}{f:Addr}{sp:Sp}
section
variable {CX:HZ} {ds:List Value} {Lu:List V} {E:XK} {x:Str} {pos:Pos} {e:Expr} {t:TA} {tf:TE}
end
theorem Ig(K:qG){e:Expr}{a:TE}{pos:Pos}(T:Txt X.mg)(h:PE X e a)(c:Gl X "len":=by rfl)(b:starEach [e] X.env=(false,eval e X.env)::starEach [] X.env:=by rfl)(d:X.K=K:=by rfl):PE X (.Call (.Name "len" p) [e] [] pos) (el (DE K) (Fv a Ls)):=by
 subst d;exact An D_ c T.len PySem.boot_len (AA h AI b) (by decide) (by decide) b
section
variable {o e:Expr} {to te:TE} {apos By:Pos}
theorem lV(K:qG)(f:PE X o to)(g:PE X e te)(c:((backTo By (starEach [e] X.env)).all (fun x=> !x.1)&&(backToKw By (keywordEach [] X.env)).all (fun x=>x.1.isSome)
   &&decide ([e].length+([]:List Keyword).length+(if([]:List Keyword).isEmpty then 0 else 1)<30))=true:=by rfl)(a:attributeBase o "extend" X.env (eval o X.env)=eval o X.env:=by rfl)(b:(apos.endLine==By.line)=true:=by rfl)(d:starEach [e] X.env=(false,eval e X.env)::starEach [] X.env:=by rfl)(h:X.K=K:=by rfl):
  PE X (.Call (.Attribute o "extend" apos) [e] [] By) (gL K "list" Nt to (Fv te Ls)):=by
 subst h;exact KL PySem.F.plainAttrs_list PySem.F.slot_list_extend PySem.F.type_list_extend Pd f (AA g AI d) a c b d rfl
theorem gb(K:qG)(f:PE X o to)(g:PE X e te)(c:((backTo By (starEach [e] X.env)).all (fun x=> !x.1)&&(backToKw By (keywordEach [] X.env)).all (fun x=>x.1.isSome)
   &&decide ([e].length+([]:List Keyword).length+(if([]:List Keyword).isEmpty then 0 else 1)<30))=true:=by rfl)(a:attributeBase o "append" X.env (eval o X.env)=eval o X.env:=by rfl)(b:(apos.endLine==By.line)=true:=by rfl)(d:starEach [e] X.env=(false,eval e X.env)::starEach [] X.env:=by rfl)(h:X.K=K:=by rfl):
  PE X (.Call (.Attribute o "append" apos) [e] [] By) (gL K "list" Nr to (Fv te Ls)):=by
 subst h;exact KL PySem.F.plainAttrs_list PySem.F.slot_list_append PySem.F.type_list_append DQ f (AA g AI d) a c b d rfl
end
inductive OD(K:qG)(H:Hp):Nat->V->V->Prop
 |flat {n:Nat} {x y:V} (f:BJ x=true) (g:BJ y=true) (e:L_ x y=true):OD K H n x y
 |same {n:Nat} {a:Addr}:OD K H n (.ref a) (.ref a)
 |lst {n:Nat} {a b:Addr} {xs ys:List V} (c:Ap K H a xs) (d:Ap K H b ys) (l:xs.length=ys.length) (h:∀(i:Nat) u v,xs[i]?=some u->ys[i]?=some v->OD K H n u v):OD K H (n+1) (.ref a) (.ref b)
 |tup {n:Nat} {a b:Addr} {xs ys:List V} (c:Az K H a xs) (d:Az K H b ys) (l:xs.length=ys.length) (h:∀(i:Nat) u v,xs[i]?=some u->ys[i]?=some v->OD K H n u v):OD K H (n+1) (.ref a) (.ref b)
variable{H:Hp}{K:qG}{n:Nat}
theorem OD.self{x:V}(f:BJ x=true):OD K H n x x:=.flat f f (GP f)
inductive Ih(K:qG)(H:Hp)(n:Nat):List V->List V->Prop
 |nil:Ih K H n [] []
 |cons {x y:V} {xs ys:List V} (h:OD K H n x y) (t:Ih K H n xs ys):Ih K H n (x::xs) (y::ys)
variable{ys:List V}
theorem Ih.length{xs:List V}(h:Ih K H n xs ys):xs.length=ys.length:=by
 induction h with
 |nil=>rfl
 |cons _ _ a=>rw[List.length_cons,List.length_cons,a]
theorem Ih.get{xs:List V}(h:Ih K H n xs ys):∀(i:Nat) u v,xs[i]?=some u->ys[i]?=some v->OD K H n u v:=by
 induction h with
 |nil=>intro i u v a;cases a
 |cons h _ c=>
  intro i u v a b;cases i with
  |zero=>cases a;cases b;exact h
  |succ i=>exact c i u v a b
variable{pins:List (Addr×Obj)}{s:Shared}{its:List Value}{σ:St}{j:Nat}
section
theorem Yn{u:Value}(g:its[j]?=some u)(h:j<its.toArray.size):its.toArray[j]=u:=by
 have:=(p' g).2;simpa using this
theorem BK{xs:List V}(r:Vals xs its)(h:j<its.toArray.size):∃x,xs[j]?=some x/\RelV x its.toArray[j]:=by
 have e:its.toArray.size=xs.length:=by rw[List.size_toArray];exact r.length.symm
 have a:j<xs.length:=by rw[<-e];exact h
 obtain⟨u,g,b⟩:=r.get (p_ a);exact⟨_,p_ a,by rw[Yn g h];exact b⟩
theorem OD.at(I:Inv X pins σ H s)(h:OD X.K H n x y):∀{A:Around}{u v:Value},A.units+n<cLine->RelV x u->RelV y v->SeqAt.EqAt A s u v true:=by
 induction h with
 |flat J L e=>
  intro A u v i f g;have:=L' (A:=A) (s:=s) f g J L;rw[e]at this;exact this
 |same=>
  intro A u v i f g;cases(show u=_ from f);cases(show v=_ from g);exact SeqAt.EqAt.same _
 |@lst n a b xs o p q l h r=>
  intro A u v i f g;cases(show u=Value.ref a from f);cases(show v=Value.ref b from g);by_cases e:a=b
  ·rw[e];exact SeqAt.EqAt.same _
  ·refine SeqAt.EqAt.of_refs e ?_;obtain⟨d,k,t,_⟩:=I.list p;obtain⟨c,m,w,_⟩:=I.list q;have e1:d.toArray.size=xs.length:=by rw[List.size_toArray];exact k.length.symm
   have e2:c.toArray.size=o.length:=by rw[List.size_toArray];exact m.length.symm
   have key:=SeqAt.RcAt.lists (A:=A) (e:=fun _=>true) t.isList w.isList (by rw[e1,e2,l]) (Nat.lt_of_le_of_lt (Nat.le_add_right _ _) i) (fun j z B=>by
    obtain⟨x,C,D⟩:=BK k z;obtain⟨y,E,F⟩:=BK m B;exact r j x y C E (A:=A.in1) (by show A.units+1+n<cLine;lia) D F)
   have G:(List.range d.toArray.size).all (fun _=>true)=true:=by simp
   rw[G]at key;exact key
 |@tup n a b xs o p q l h r=>
  intro A u v i f g;cases(show u=Value.ref a from f);cases(show v=Value.ref b from g);by_cases e:a=b
  ·rw[e];exact SeqAt.EqAt.same _
  ·refine SeqAt.EqAt.of_refs e ?_;obtain⟨d,k,t,_⟩:=I.tuple p;obtain⟨c,m,w,_⟩:=I.tuple q;have e1:d.toArray.size=xs.length:=by rw[List.size_toArray];exact k.length.symm
   have e2:c.toArray.size=o.length:=by rw[List.size_toArray];exact m.length.symm
   have key:=SeqAt.RcAt.tuples (A:=A) (e:=fun _=>true) t w (Nat.lt_of_le_of_lt (Nat.le_add_right _ _) i) (fun j z B=>by
    obtain⟨x,C,D⟩:=BK k z;obtain⟨y,E,F⟩:=BK m B;exact r j x y C E (A:=A.in1) (by show A.units+1+n<cLine;lia) D F)
   have G:((List.range (min d.toArray.size c.toArray.size)).all (fun _=>true)&&d.toArray.size==c.toArray.size)=true:=by
    rw[e1,e2,l];simp
   rw[G]at key;exact key
inductive gc(K:qG)(c:Bool)(x y:V)(H:Hp)(Q:VK):Prop
 |mk(a b:Addr)(xs ys:List V)(d:x=.ref a)(e:y=.ref b)(f:Ap K H a xs)(g:Ap K H b ys)(h:Ih K H 20 xs ys)(q:Q (.bl c) H)
theorem Yo(l:X.A.units+64<cLine):DC X (compareOp .NotEq) (gc X.K false):=by
 intro pins s σ H x y v u Q I d f h;obtain⟨a,b,xs,m,rfl,rfl,n,o,h,q⟩:=h;cases d;cases f;obtain⟨g,i,p,_⟩:=I.list n;obtain⟨c,k,r,_⟩:=I.list o;have e1:g.toArray.size=xs.length:=by rw[List.size_toArray];exact i.length.symm
 have e2:c.toArray.size=m.length:=by rw[List.size_toArray];exact k.length.symm
 refine SeqAt.RcNeAt.lists (e:=fun _=>true) p.isList r.isList (by rw[e1,e2,h.length]) (Nat.lt_of_le_of_lt (Nat.le_add_right _ _) l) (fun j t w=>?_) _ _ _ _ ?_
 ·obtain⟨x,z,d⟩:=BK i t;obtain⟨y,B,f⟩:=BK k w;exact(h.get j x y z B).at I (A:=X.A.in1) (by show X.A.units+1+20<cLine;lia) d f
 ·refine⟨.bl false,H,I,?_,q⟩;show Value.bool _=Value.bool _;congr 1;simp
end
noncomputable def gf:Key->PyData
 | .inl i=>.int i
 | .inr x=>.str x
mutual
inductive Ed(H:Hp):V->PyData->Prop
 |Ae:Ed H .Ae .none
 |bl (b:Bool):Ed H (.bl b) (.bool b)
 |int (i:Int):Ed H (.int i) (.int i)
 |str (x:Str):Ed H (.str x) (.str x)
 |lst {a:Addr} {xs:List V} {c:List PyData} (h:Rd H a (.lst xs)) (r:Bx H xs c):Ed H (.ref a) (.list c)
 |tup {a:Addr} {xs:List V} {c:List PyData} (h:H a=some (.tup xs)) (r:Bx H xs c):Ed H (.ref a) (.tuple c)
 |ji {a:Addr} {kvs:List (Key×V)} {c:List PyData} (h:Rd H a (.dK kvs)) (r:Bx H (kvs.map (·.2)) c):Ed H (.ref a) (.dict ((kvs.map fun p=>gf p.1).zip c))
 |jj {v:V} {d:PyData} (r:∀e,AG H e->∀(P:Program)(w:World)(h:Heap),Cf P w e h->∀u,RelV v u->∃as,Reads h u d as/\∀b∈as,∃o,e b=some o):Ed H v d
inductive Bx(H:Hp):List V->List PyData->Prop
 |nil:Bx H [] []
 |cons {x:V} {d:PyData} {xs:List V} {a:List PyData} (h:Ed H x d) (t:Bx H xs a):Bx H (x::xs) (d::a)
end
mutual
theorem Ed.up(e:AG g c):∀{v:V}{d:PyData},Ed g v d->Ed c v d
 |_,_,.Ae=>.Ae
 |_,_,.bl b=>.bl b
 |_,_,.int i=>.int i
 |_,_,.str x=>.str x
 |_,_,.lst h r=>.lst (h.up (e _)) (r.up e)
 |_,_,.tup h r=>.tup (e _ _ h) (r.up e)
 |_,_,.ji h r=>.ji (h.up (e _)) (r.up e)
 |_,_,.jj r=>.jj fun a s=>r a (e.trans s)
theorem Bx.up(e:AG c b):∀{xs:List V}{a:List PyData},Bx c xs a->Bx b xs a
 |_,_,.nil=>.nil
 |_,_,.cons h t=>.cons (h.up e) (t.up e)
end
theorem Rz:Jt (x::r) 0=some x:=Bd (j:=0) rfl
theorem Ii:Jt (x::y::r) 1=some y:=Bd (j:=1) rfl
theorem at2:Jt (x::y::z::r) 2=some z:=Bd (j:=2) rfl
theorem Ez{c:Bool}{A B:Prop}(a:c=true->A)(b:c=false->B):if c=true then A else B:=by
 cases c with
 |true=>exact Co (a rfl)
 |false=>exact Aa (b rfl)
theorem AW{X:Cx}{a rest:List Stmt}{st:Stmt}{t u:TS}(e:a=st::rest)(b:PS X st t)(c:G' X rest u):G' X a (PR t u):=by
 subst e;exact AE b c
theorem R_(R:St->Hp->Prop)(k:∀a b,R a b->u D a b)(h:(∀a b,R a b->u D a b)->t {D with nx:=u D} c H):PR t u D c H:=h k
def Yp(zs xs:List V):List V:=
 match zs[xs.length-1]?,xs.getLast? with
 |some (.int i),some (.int j)=>if HH (zs.take (xs.length-1)) xs.dropLast=true/\(j<i∨(i=j/\xs.length<zs.length))then zs.set (xs.length-1) (.int (i+1))else zs
 |_,_=>zs
def lW(w:Str)(xs zs:List V):List V:=if w="copy"then zs else if w="move"then Yp zs xs else xs
def Va:List Str:=["put","copy","move"]
def Vb:List Str:=["take","change","move","copy","ask","has","is"]
abbrev Yq:List V:=Va.map V.str
abbrev Yr:List V:=Vb.map V.str
noncomputable def OE:List Value->List Str->Bool
 |[],[]=>true
 | .str x _::us,y::ys=>x==y&&OE us ys
 |_,_=>false
def Kl(K:qG)(a:Addr)(c:List Str):Bool:=match K.lookup a with
 |some o=>o.cls==.type "tuple"&&(match o.data with
  | .seq b _=>decide (b.size<=1000)&&OE b.toList c
  |_=>false)
 |none=>false
theorem Hr:∀{us:List Value}{a:List Str},OE us a=true->Vals (a.map V.str) us
 |[],[],_=>.nil
 |[],_::_,h=>by cases h
 |u::us,[],h=>by cases u<;>cases h
 |u::us,y::ys,h=>by
  cases u with
  |str x t=>
   have g:(x==y&&OE us ys)=true:=h;simp only[Bool.and_eq_true,beq_iff_eq]at g;obtain⟨e,g⟩:=g;subst e;exact .cons ⟨t,rfl⟩ (Hr g)
  |_=>cases h
variable{a:Addr}
theorem Az.cX{c:List Str}(h:Kl K a c=true)(H:Hp):Az K H a (c.map V.str):=by
 unfold Kl at h;split at h
 ·rename_i o lk
  simp only[Bool.and_eq_true,beq_iff_eq]at h;obtain⟨d,h⟩:=h;split at h
  ·rename_i b n e
   simp only[Bool.and_eq_true,decide_eq_true_eq]at h;exact .inr ⟨o,b,n,lk,d,e,Ab h.1,Hr h.2⟩
  ·cases h
 ·cases h
def nA(w:Str)(xs:List V):List (List V):=if Lh (.str w) Yr then[xs]else[]
def nC(w:Str)(xs zs:List V):List (List V):=if Lh (.str w) Yq then[(lW w xs zs).dropLast]else[]
def Pw(H:Hp)(v:V)(b n:Nat):Prop:=∃D:PyData,Ed H v D/\D.showable=true/\D.leavesShort 2000=true/\D.bulk<=b/\D.depth<=n
structure gh(a:Addr)(o:Obj)(k v:V)(h:Heap):Prop where
 ns:(a==sysModules)=false
 ho:h.get? a=some o
 ex:o.ExactDict
 dt:∃(ku vu:Value)(hs:Int)(ep:Nat),RelV k ku/\RelV v vu/\o.data=.dict #[⟨hs,ku,vu⟩] ep
def bJ(a:Addr)(o:Obj)(k v:V):HO:=.ext (gh a o k v)
variable{P:Program}{w:World}{h:Heap}{v:V}{o:Obj}
theorem OF{k:V}(ok:Cf P w H h)(e:H a=some (bJ a o k v)):gh a o k v h:= (show gh a o k v h/\_ from ok a _ e).1
noncomputable def jl:Bool->Value->Bool
 |true,.bool true=>true
 |false,.none=>true
 |_,_=>false
variable{E:Value->Shared->Prop}{Q:Option Value->Shared->Prop}{A:Around}
section
variable{prog:Program} {it d:Addr} {en:DictEntry} {ep:Nat}
theorem R'{Q:Value->Shared->Prop}(e:(d==sysModules)=false)(b:s.heap.get? d=some o)(f:o.ExactDict)(a:o.data=.dict #[en] ep)(g:Q (.ref s.heap.objs.size) {s with heap:=s.heap.push {cls:=.type "dict_keyiterator",data:=.fields #[.ref d,.int 0 0,.int 1 0,.int ep 0]}}):wpAny (model prog w) A (pyIter (.ref d)) Q E s:=by
 have c:s.TypeIs (.ref d) "dict":=⟨o,b,f.1⟩;refine wpAny_pyIter_slot c F.slot_dict_iter (wpAny_call_entry F.slot_dict_iter c F.entry_dict_iter ?_ (F.args_dict_iter_1 _));unfold Builtin.«dict.__iter__»;refine wpAny_bind ?_;unfold Builtin.Dict.dictSlotNone;refine wpAny_bind (wpAny_notOrdered_dict c ?_);show wpAny _ _ (pure (Value.ref d)) _ _ s;refine wpAny_pure ?_;show wpAny _ _ (Builtin.Dict.showsAll d>>=_) _ _ s;unfold Builtin.Dict.showsAll;rw[if_neg (by rw[e];exact Bool.false_ne_true)];refine wpAny_bind (wpAny_pure ?_);refine wpAny_bind (wpAny_dictEntries b a ?_);refine wpAny_bind (wpAny_dictEpoch b a ?_);refine wpAny_bind (wpAny_newObj_type (wpAny_pure ⟨_,rfl,"dict_keyiterator",_,⟨_,Heap.get?_push_size _ rfl,rfl⟩,F.slot_dict_keyiterator_next.lookup,?_⟩));simpa[rawInt]using g
theorem SA(hit:s.heap.IsKeyIter it d 0 1 ep)(b:s.heap.get? d=some o)(c:o.data=.dict #[en] ep)(h:∀h',h'.IsKeyIter it d 1 1 ep->Heap.SameBut it s.heap h'->Q (some en.key) {s with heap:=h'}):wpAny (model prog w) A (pyNext (.ref it)) Q E s:=by
 obtain⟨j,g,i,f⟩:=id hit;unfold pyNext;refine wpAny_bind (wpAny_attempt (wpAny_callSpecial?_slot (name:=Str.ofString "__next__") hit.typeIs F.slot_dict_keyiterator_next (wpAny_call_entry F.slot_dict_keyiterator_next hit.typeIs F.entry_dict_keyiterator_next ?_ (F.args_dict_keyiterator_next_1 _))));refine wpAny_bind (wpAny_pure ?_);refine wpAny_bind ?_;refine wpAny_bind ?_
 first|refine wpAny_bind (wpAny_typeNameOfWhole_keyiter hit.typeIs (wpAny_pure ?_))|refine wpAny_bind (wpAny_typeNameOf_keyiter hit.typeIs (wpAny_pure ?_))
 refine wpAny_bind (wpAny_fieldsOf g f ?_);have e:Builtin.Dict_items.ownsTuple "dict_keyiterator"=false:=by decide
 simp only[e,Bool.false_eq_true,if_false];show wpAny _ _ (if(Value.ref d==Value.none)=true then _ else _) _ _ s;rw[if_neg (show¬((Value.ref d==Value.none)=true)from Bool.false_ne_true)];refine wpAny_bind (wpAny_pure ?_);refine wpAny_bind (wpAny_dictEntries b c ?_);rw[if_neg (by simp)];refine wpAny_bind (wpAny_pure ?_);refine wpAny_bind (wpAny_dictEpoch b c ?_);rw[if_neg (by simp)];refine wpAny_pure ?_;simp only[show¬(((0:Nat):Int)<0)from by lia,if_false,Int.toNat_natCast,show(#[en]:Array DictEntry)[0]?=some en from rfl];refine wpAny_bind ?_
 first|refine wpAny_bind (wpAny_typeNameOfWhole_keyiter hit.typeIs (wpAny_pure ?_))|refine wpAny_bind (wpAny_typeNameOf_keyiter hit.typeIs (wpAny_pure ?_))
 refine wpAny_bind (wpAny_isOneOf_keyiter hit.typeIs ?_);show wpAny _ _ (setField (.ref it) 1 (rawInt (((0:Nat):Int)+1))>>=_) _ _ s;refine wpAny_bind (wpAny_setField g f (by simp) ?_);have a:(s.heap.update it (Obj.mapFields (·.setIfInBounds 1 (rawInt (((0:Nat):Int)+1))))).IsKeyIter it d 1 1 ep:=
  ⟨_,Heap.get?_update_self _ g (Obj.isFreed_of_fields (Obj.data_mapFields f _)),(Obj.cls_mapFields ..).trans i,by rw[Obj.data_mapFields f];simp[rawInt]⟩
 refine wpAny_bind (wpAny_holding ?_);refine wpAny_bind (wpAny_isOneOf_keyiter (s:={s with heap:=s.heap.update it (Obj.mapFields (·.setIfInBounds 1 (rawInt (((0:Nat):Int)+1))))}) a.typeIs ?_);show wpAny _ _ (pure en.key) _ _ _;exact wpAny_pure (wpAny_pure ⟨_,rfl,wpAny_pure (h _ a (Heap.SameBut.update ..))⟩)
theorem Vc(i:A.handled=none)(hit:s.heap.IsKeyIter it d 1 1 ep)(c:s.heap.get? d=some o)(e:o.data=.dict #[en] ep)(j:∀h',Heap.ExtBut it s.heap h'->Q none {s with heap:=h'}):wpAny (model prog w) A (pyNext (.ref it)) Q E s:=by
 obtain⟨k,g,l,h⟩:=id hit;unfold pyNext;refine wpAny_bind (wpAny_attempt (wpAny_callSpecial?_slot (name:=Str.ofString "__next__") hit.typeIs F.slot_dict_keyiterator_next (wpAny_call_entry F.slot_dict_keyiterator_next hit.typeIs F.entry_dict_keyiterator_next ?_ (F.args_dict_keyiterator_next_1 _))));refine wpAny_bind (wpAny_pure ?_);refine wpAny_bind ?_;refine wpAny_bind ?_
 first|refine wpAny_bind (wpAny_typeNameOfWhole_keyiter hit.typeIs (wpAny_pure ?_))|refine wpAny_bind (wpAny_typeNameOf_keyiter hit.typeIs (wpAny_pure ?_))
 refine wpAny_bind (wpAny_fieldsOf g h ?_);have f:Builtin.Dict_items.ownsTuple "dict_keyiterator"=false:=by decide
 simp only[f,Bool.false_eq_true,if_false];show wpAny _ _ (if(Value.ref d==Value.none)=true then _ else _) _ _ s;rw[if_neg (show¬((Value.ref d==Value.none)=true)from Bool.false_ne_true)];refine wpAny_bind (wpAny_pure ?_);refine wpAny_bind (wpAny_dictEntries c e ?_);rw[if_neg (by simp)];refine wpAny_bind (wpAny_pure ?_);refine wpAny_bind (wpAny_dictEpoch c e ?_);rw[if_neg (by simp)];refine wpAny_pure ?_;simp only[show¬(((1:Nat):Int)<0)from by lia,if_false,Int.toNat_natCast,show(#[en]:Array DictEntry)[1]?=none from rfl];refine wpAny_bind ?_
 first|refine wpAny_bind (wpAny_typeNameOfWhole_keyiter hit.typeIs (wpAny_pure ?_))|refine wpAny_bind (wpAny_typeNameOf_keyiter hit.typeIs (wpAny_pure ?_))
 show wpAny _ _ (setField (.ref it) 0 .none>>=_) _ _ s;refine wpAny_bind (wpAny_setField g h (by simp) ?_);show wpAny _ _ (newExc (.type "StopIteration") []>>=_) _ _ _;refine wpAny_bind ?_;simp only[newExc,newTuple];refine wpAny_bind (wpAny_newObj_type ?_ (by size_fits));refine wpAny_bind (m:=firstArgMember _ _) (wpAny_of_eq (a:=Value.none) (by first|rfl|(simp only[firstArgMember];rfl)) ?_);refine wpAny_newObj_type ?_ (by size_fits);simp only[raiseNew];refine wpAny_bind (wpAny_handled ?_);rw[show A.in1.handled=none from i];refine wpAny_bind (wpAny_pure (wpAny_throw ?_));refine wpAny_bind (wpAny_isInstance (T:="StopIteration") (b:=true) ⟨_,Heap.get?_push_size _ rfl,rfl⟩ isSubtype_stop ?_);exact wpAny_pure (j _ (((Heap.SameBut.update ..).extBut.push _).push _))
end
def gj(a:Addr)(o:Obj)(k v:V):It:=⟨fun i H=>H a=some (bJ a o k v)/\i=0,fun i H x b=>b=H/\x=k,fun i H=>H a=some (bJ a o k v)/\i=1⟩
def gp(tl:TE):TI:=fun c H R=>tl c H fun x b=>∃a o k v,x=.ref a/\b a=some (bJ a o k v)/\R (gj a o k v) b
theorem SD{tg:Expr}{it:Addr}{k:V}{ku vu:Value}{hs:Int}{ep:Nat}(rk:RelV k ku)(jm:o.data=.dict #[⟨hs,ku,vu⟩] ep):
  Turn P w K tg (gj a o k v) [it] it (fun i h=>h.IsKeyIter it a i 1 ep)where
 mem:=by simp
 obj:=fun i h st b hb=>by
  have e:b=it:=by simpa using hb
  subst e;obtain⟨ob,h1,_,h3⟩:=st;exact⟨ob,h1,fun v z=>by rw[h3]at z;cases z⟩
 keep:=fun i h h' st k=>st.at fun ob e=>k it (by simp) ob e
 item:=fun X hp hw _ hc i pins s σ H E I hf st go=>by
  subst hp hw;have f:=hf it (by simp);obtain⟨ga,rfl⟩:=go;refine SA st (OF I.Al ga).ho jm fun h' Lg lX=>?_;obtain⟨ob,h1,h2,h3⟩:=Lg;refine⟨ku,rfl,HX (o:=ob) h1 h2 h3 (by decide) ⟨k,H,I.turned (fun b gZ hb e=>lX.extBut b gZ hb e) f.1 f.2.1 f.2.2.2.1 f.2.2.2.2.1 f.2.2.2.2.2,rk,⟨rfl,rfl⟩,⟨ob,h1,h2,h3⟩,fun b hb=>?_⟩⟩;have e:b=it:=by simpa using hb
  subst e;exact f.1
 done:=fun X hp hw _ hc i pins s σ H E I hf st stop=>by
  subst hp hw;have f:=hf it (by simp);obtain⟨ga,rfl⟩:=stop;refine Vc (I.ok.hd hc) st (OF I.Al ga).ho jm fun h' kept=>?_;exact⟨rfl,I.turned (fun b ob hb e=>kept b ob hb e) f.1 f.2.1 f.2.2.2.1 f.2.2.2.2.1 f.2.2.2.2.2⟩
 self:=fun A i s Q E st hQ=>wpAny_pyIter_keyiter st hQ
section
variable {tg:Expr}
theorem Ys{l:Expr}{tl:TE}(g:PE X l tl):PI X tg l (gp tl):=by
 intro pins s i H R I h;refine Aw (g pins s i H _ I h) fun v d j=>j.elim fun x m f n p=>?_;obtain⟨a,o,k,v,rfl,r,q⟩:=p;cases n;obtain⟨t,u,w,A,B,C,D,y,E,c⟩:=OF f.Al r;refine R' t u w c ⟨d.heap.objs.size,[d.heap.objs.size],_,gj a o k v,m,rfl,f.kept (t':=d.toks) fun b F e=>Heap.get?_push_of_some _ e,
  SD y c,⟨_,Heap.get?_push_size _ rfl,rfl,rfl⟩,fun b z=>?_,q⟩
 have e:b=d.heap.objs.size:=by simpa using z
 subst e;exact f.KA (Nat.le_refl _) f.fresh
inductive cY(xs:List V)(H:Hp)(Q:VK):Prop
 |mk(a:Addr)(o:Obj)(k v:V)(c:String)(e:xs=[.ref a,.ty c])(b:VQ c=true)(h:H a=some (bJ a o k v))(q:Q (.bl (IX "dict" c)) H)
def Ij:List V->Hp->VK->Prop:=fun xs H Q=>cS xs H Q∨cY xs H Q
theorem Dq:BG X (.builtin "isinstance") Ij:=by
 intro pins s d H xs e Q I r h;rcases h with h|h
 ·exact Af pins s d H xs e Q I r h
 ·obtain⟨a,o,k,v,c,rfl,f,h,q⟩:=h;obtain⟨u,l,rfl,g,b⟩:=vals2 r;cases b;cases(show u=Value.ref a from g);have p:=OF I.Al h;have i:PySem.W.kitOne X.K (.type "dict") (.type c)=some (IX "dict" c):=Ny (H:=upd H 0 (.dK [])) (v:=.ref 0) (.dK (.inl AD)) f;exact PySem.W.kia_one PySem.W.kitx_dict I.CH ⟨o,p.ho,p.ex.1⟩ i (fun z=>nomatch z) fun j=>⟨.bl _,H,I.tok j,rfl,q⟩
end
inductive SE(H:Hp):V->Prop
 |bl (b:Bool):SE H (.bl b)
 |Ae:SE H .Ae
 |tup {a:Addr} {xs:List V} (h:H a=some (.tup xs)):SE H (.ref a)
 |txt {x:Str} (l:x.length<=20) (h:MO x=false):SE H (.str x)
 |key {a:Addr} {k:Key} {v:V} (h:Rd H a (.dK [(k,v)])) (n:Kj (kV k)=false) (s:Short (kV k)):SE H (.ref a)
 |odd {a:Addr} {o:Obj} {k v:V} {T:String} (h:H a=some (bJ a o k v)) (t:FZ H k T) (n:Kj k=false) (s:Short k):SE H (.ref a)
theorem SE.up{H a:Hp}{v:V}(h:SE H v)(s:AG H a):SE a v:=by
 cases h with
 |bl b=>exact .bl b
 |Ae=>exact .Ae
 |tup h=>exact .tup (s _ _ h)
 |txt l h=>exact .txt l h
 |key h n z=>exact .key (h.up (s _)) n z
 |odd h t n z=>exact .odd (s _ _ h) (t.same s) n z
inductive Node(H:Hp):V->List V->Prop
 |leaf {v:V} (h:cT v):Node H v []
 |row {a:Addr} {xs:List V} (h:Rd H a (.lst xs)):Node H (.ref a) xs
 |tab {a:Addr} {kvs:List (Key×V)} {ks:List Str} (h:Rd H a (.dK kvs)) (b:kvs.map (·.1)=ks.map Sum.inr) (c:ks.Nodup) (nm:∀k∈ks,CI k=true) (l:kvs.length<64):Node H (.ref a) (kvs.map (·.2))
theorem Node.up{H a:Hp}{v:V}{its:List V}(h:Node H v its)(s:AG H a):Node a v its:=by
 cases h with
 |leaf h=>exact .leaf h
 |row h=>exact .row (h.up (s _))
 |tab h b c d l=>exact .tab (h.up (s _)) b c d l
mutual
inductive Tr(H:Hp):Bool->Nat->Nat->V->Prop
 |odd {k:Nat} {v:V} (h:SE H v) (f:Pw H v 78 3):Tr H false 4 k v
 |node {b:Bool} {n k:Nat} {v:V} {its:List V} (h:Node H v its) (t:CF H b n k its):Tr H b (n+1) (k+1) v
inductive CF(H:Hp):Bool->Nat->Nat->List V->Prop
 |nil {k:Nat}:CF H true 0 k []
 |cons {b c:Bool} {n m k:Nat} {v:V} {vs:List V} (h:Tr H b n k v) (t:CF H c m k vs):CF H (b&&c) (n+m) k (v::vs)
end
variable{b:Bool}
theorem Tr.cast{a:Bool}{c:Nat}(h:Tr H b n k v)(e:b=a)(f:n=c):Tr H a c k v:=by subst e f;exact h
theorem CF.cast{a:Bool}{c:Nat}{vs:List V}(h:CF H b n k vs)(e:b=a)(f:n=c):CF H a c k vs:=by subst e f;exact h
theorem Pw.up{H a:Hp}{v:V}{b n:Nat}(h:Pw H v b n)(s:AG H a):Pw a v b n:=by
 obtain⟨D,c,d⟩:=h;exact⟨D,c.up s,d⟩
mutual
theorem Tr.up{H a:Hp}(s:AG H a):∀{c:Bool}{d e:Nat}{g:V},Tr H c d e g->Tr a c d e g
 |_,_,_,_,.odd h f=>.odd (h.up s) (f.up s)
 |_,_,_,_,.node h t=>.node (h.up s) (CF.up s t)
theorem CF.up{H a:Hp}(s:AG H a):∀{c:Bool}{d e:Nat}{vs:List V},CF H c d e vs->CF a c d e vs
 |_,_,_,_,.nil=>.nil
 |_,_,_,_,.cons h t=>.cons (Tr.up s h) (CF.up s t)
end
mutual
theorem Tr.deeper{H:Hp}{j:Nat}:∀{c:Bool}{d e:Nat}{g:V},Tr H c d e g->e<=j->Tr H c d j g
 |_,_,_,_,.odd h f=>fun _=>.odd h f
 |_,_,e+1,_,.node h t=>fun l=>by
  obtain⟨i,rfl⟩:∃i,j=i+1:=⟨j-1,by lia⟩;exact .node h (CF.deeper (j:=i) t (by lia))
theorem CF.deeper{H:Hp}{j:Nat}:∀{c:Bool}{d e:Nat}{vs:List V},CF H c d e vs->e<=j->CF H c d j vs
 |_,_,_,_,.nil=>fun _=>.nil
 |_,_,_,_,.cons h t=>fun l=>.cons (Tr.deeper h l) (CF.deeper t l)
end
theorem Tr.pos(h:Tr H b n k v):1<=n:=by
 cases h with
 |odd=>decide
 |node=>lia
theorem CF.len{H:Hp}:∀{b:Bool}{n k:Nat}{vs:List V},CF H b n k vs->vs.length<=n
 |_,_,_,_,.nil=>Nat.le_refl _
 |_,_,_,_,.cons h t=>by
  have:=CF.len t;have:=h.pos;rw[List.length_cons];lia
theorem CF.append{H:Hp}{c:Bool}{m k:Nat}{a:List V}:∀{b:Bool}{n:Nat}{vs:List V},CF H b n k vs->CF H c m k a->CF H (b&&c) (n+m) k (vs++a)
 |_,_,[]=>fun t u=>by cases t;exact u.cast rfl (Nat.zero_add m).symm
 |_,_,v::vs=>fun t u=>by
  cases t with
  |cons h t=>exact(CF.cons h (CF.append t u)).cast (Bool.and_assoc ..).symm (by lia)
theorem CF.split{H:Hp}{k:Nat}{d:List V}:∀{b:Bool}{n:Nat}{vs:List V},CF H b n k (vs++d)->∃c1 a c2 c,CF H c1 a k vs/\CF H c2 c k d/\b=(c1&&c2)/\n=a+c
 |b,n,[],t=>⟨true,0,b,n,.nil,t,rfl,(Nat.zero_add n).symm⟩
 |_,_,v::vs,t=>by
  cases t with
  |@cons e _ f _ _ _ _ h t=>
   obtain⟨c1,a,c2,c,g,i,e1,e2⟩:=CF.split (vs:=vs) t;exact⟨e&&c1,f+a,c2,c,.cons h g,i,by rw[e1,Bool.and_assoc],by lia⟩
theorem CF.one{H:Hp}{b:Bool}{n k:Nat}{v:V}(h:Tr H b n k v):CF H b n k [v]:=(CF.cons h .nil).cast (Bool.and_true b) rfl
theorem CF.gq(h:CF H b n k [v]):Tr H b n k v:=by
 cases h with
 |cons h t=>cases t;exact h.cast (Bool.and_true _).symm rfl
theorem CF.perm{vs a:List V}(p:vs.Perm a):∀{b:Bool}{n:Nat},CF H b n k vs->CF H b n k a:=by
 induction p with
 |nil=>exact fun t=>t
 |cons x _ c=>intro b n t;cases t with|cons h t=>exact .cons h (c t)
 |swap x y l=>
  intro b n t;cases t with
  |cons h t=>cases t with
   |cons d t=>exact(CF.cons d (.cons h t)).cast (Bool.and_left_comm ..) (by lia)
 |trans _ _ e f=>exact fun t=>f (e t)
theorem OG:∀{kvs:List (Key×V)}{ks:List Str},kvs.map (·.1)=ks.map Sum.inr->ks.Nodup->(ks.map fun k=>(Bs kvs (Sum.inr k)).getD .Ae)=kvs.map (·.2)/\∀k∈ks,(Bs kvs (Sum.inr k)).isSome=true
 |[],[]=>fun _ _=>⟨rfl,fun k c=>nomatch c⟩
 |[],_::_=>fun h _=>by simp at h
 |_::_,[]=>fun h _=>by simp at h
 |(k,v)::kvs,x::ks=>fun h d=>by
  simp only[List.map_cons,List.cons.injEq]at h;obtain⟨e,h⟩:=h;subst e;obtain⟨f,g⟩:=List.nodup_cons.mp d;obtain⟨i,j⟩:=OG h g;have b:∀y∈ks,Bs ((Sum.inr x,v)::kvs) (Sum.inr y)=Bs kvs (Sum.inr y):=fun y a=>EB (by intro z;exact f ((Sum.inr.inj z)▸a));refine⟨?_,fun y a=>?_⟩
  ·rw[List.map_cons,List.map_cons,DF rfl,<-i];congr 1;exact List.map_congr_left fun y a=>by rw[b y a]
  ·rcases List.mem_cons.mp a with rfl|a
   ·rw[DF rfl];rfl
   ·rw[b y a];exact j y a
theorem SF{kvs:List (Key×V)}{ks a:List Str}(g:kvs.map (·.1)=ks.map Sum.inr)(j:ks.Nodup)(d:a.Perm ks):
  ∃b:List V,b.Perm (kvs.map (·.2))/\b.length=a.length/\∀(i:Nat) e,b[i]?=some e->∃k,a[i]?=some k/\Bs kvs (Sum.inr k)=some e:=by
 obtain⟨l,n⟩:=OG g j;refine⟨a.map fun k=>(Bs kvs (Sum.inr k)).getD .Ae,by rw[<-l];exact d.map _,List.length_map ..,fun i e h=>?_⟩;rw[List.getElem?_map]at h;cases c:a[i]? with
 |none=>rw[c]at h;cases h
 |some k=>
  rw[c]at h;have h:(Bs kvs (Sum.inr k)).getD .Ae=e:=by simpa using h
  have m:=n k (d.mem_iff.mp (qF c));refine⟨k,rfl,?_⟩;cases f:Bs kvs (Sum.inr k)with
  |none=>rw[f]at m;cases m
  |some z=>rw[f]at h;rw[<-h];rfl
def Km:Sp:=fun c H Q _=>∃v,c=[v]/\((SE H v/\∀a,AG H a->Q (.bl false) a)∨∃b,Node H v b/\b.length<=900/\∀a,AG H a->Q (.bl true) a)
def gs(H:Hp)(v:V)(s:V)(e:V):Prop:=(∃a xs j,v=.ref a/\Rd H a (.lst xs)/\s=.int ((j:Nat):Int)/\xs[j]?=some e)∨∃a b k,v=.ref a/\Rd H a (.dK b)/\s=.str k/\Bs b (Sum.inr k)=some e
def GS:Sp:=fun d H Q _=>∃v a,d=[v]/\Node H v a/\a.length<=900/\∀(p:Addr)(l b:List V)(c:Hp),AG H c->H p=none->c p=some (.lst l)->b.Perm a->b.length=l.length->(∀(i:Nat) e,b[i]?=some e->∃s,l[i]?=some s/\gs H v s e)->Q (.ref p) c
def Ko:Sp:=fun d H Q _=>∃v a,d=[v]/\Node H v a/\a.length<=900/\∀(p:Addr)(c:List V)(b:Hp),AG H b->H p=none->b p=some (.lst c)->c.Perm a->Q (.ref p) b
def Kp:Sp:=fun c H Q _=>∃v b n k,c=[v]/\Tr H b n k v/\n<=900/\∀a,AG H a->Q (.bl b) a
theorem Pw.Ae{H:Hp}{b n:Nat}:Pw H .Ae b n:=⟨.none,.Ae,rfl,rfl,Nat.zero_le _,Nat.zero_le _⟩
theorem cZ(H:Hp)(k:Key):∃T,FZ H (kV k) T:=by
 cases k with
 |inl i=>exact⟨_,.int i⟩
 |inr x=>exact⟨_,.str x⟩
namespace Dc
end Dc
section
end
structure bK(S fr:List Addr)(h h':Heap):Prop where
 keep:∀b o,h.get? b=some o->b∉S->b∉fr->h'.get? b=some o
 slot:∀b o,h.get? b=some o->b∈fr->∃sl,h'.get? b=some {o with slots:=sl}
variable{S:List Addr}{oe:Obj}{base:Heap}
section
variable{M:Model} {env:Env} {outer:List Env} {L e:Addr} {vs:Array Value} {Q:Unit->Shared->Prop}
structure Entry(h:Heap)(T:Addr)(v:Value):Prop where
 ex:∃oT ts,h.get? T=some oT/\oT.data=.fields ts/\ts[3]?=some v
theorem SG{head:Value}{f:Bool}(p:A.frames=some (env::outer))(v:s.heap.FunFrames base (env::outer))(y:env.frame=some L)(w:s.heap.get? e=some oe)(r:oe.data=.fields vs)(hsz:1<vs.size)(h:∀h' T,bK [e] (II (env::outer)) s.heap h'->s.heap.get? T=none->h'.get? e=some (oe.mapFields (·.setIfInBounds 1 (.ref T)))->Entry h' T (rawInt L)->Q () {s with heap:=h'}):
  wpAny M A (do let a<-frameOf env;let m<-entryPlaceOf L f;let b<-EntryCells.newEntry head a .none (rawInt L) .none m;setField (.ref e) 1 b) Q E s:=by
 have j:e∉(env::outer).filterMap (·.frame):=fun B=>by
  obtain⟨_,o,x,t⟩:=v.mem B;rw[w]at x;cases x;exact t vs r
 refine wpAny_bind (wpAny_frameOf_fun p v y fun d c=>?_);refine wpAny_bind (wpAny_entryPlaceOf fun m u=>?_);unfold EntryCells.newEntry newFields;refine wpAny_bind (wpAny_newObj_type ?_ (u.sizeOk5 _ _ _ _ _));have g:d.get? e=some oe:=(c.2.1 e j).trans w;obtain⟨n,k⟩:∃n:Obj,n={cls:=.type "traceback",dict:=none,data:=.fields ([head,.ref L,.none,rawInt L,.none]++(if m.isEmpty then List.replicate 6 Value.none else m)).toArray}:=⟨_,rfl⟩;rw[<-k];have i:=Heap.get?_push_of_some (h:=d) n g;refine wpAny_setField i r hsz (h _ d.objs.size ⟨fun b o q C l=>?_,fun b o q D=>?_⟩ ?_ ?_ ⟨n,_,?_,by rw[k],?_⟩)
 ·rw[Heap.get?_update_other _ _ (fun z=>C (by rw[<-z];simp))];exact Heap.get?_push_of_some _ ((c.2.1 b l).trans q)
 ·obtain⟨F,z⟩:=c.2.2 b o q;refine⟨F,?_⟩;rw[Heap.get?_update_other _ _ (fun z=>j (by rw[z];exact D))];exact Heap.get?_push_of_some _ z
 ·exact Heap.get?_none_of_le (by rw[c.1];exact Nat.le_refl _)
 ·exact Heap.get?_update_self _ i (Obj.isFreed_of_fields (Obj.data_mapFields r _))
 ·rw[Heap.get?_update_other _ _ (Nat.ne_of_lt (Heap.lt_size g))];exact Heap.get?_push_size d (by rw[k];rfl)
 ·simp
theorem OH{T:Addr}{v:Value}(f:s.heap.get? e=some oe)(g:oe.data=.fields vs)(i:vs[1]?=some (.ref T))(j:Entry s.heap T v)(h:∀h',(∀b,b≠T->h'.get? b=s.heap.get? b)->Entry h' T .none->Q () {s with heap:=h'}):wpAny M A (setFlight (.ref e) none) Q E s:=by
 obtain⟨n,k,d,c,l⟩:=j.ex;have a:3<k.size:=(Array.getElem?_eq_some_iff.mp l).1;unfold setFlight;refine wpAny_bind (wpAny_field f g i ?_);rw[if_pos (show(Value.ref T !=Value.none)=true from by simp)];refine wpAny_setField d c a (h _ (fun b m=>Heap.get?_update_other _ _ (Ne.symm m)) ⟨_,_,Heap.get?_update_self _ d (Obj.isFreed_of_fields (Obj.data_mapFields c _)),Obj.data_mapFields c _,?_⟩);simp[a]
theorem Xc(d:A.frames=some (env::outer))(n:s.heap.FunFrames base (env::outer))(p:env.frame=some L)(i:s.heap.get? e=some oe)(j:oe.data=.fields vs)(hsz:1<vs.size)(w:(vs[1]?=some .none/\S=[])∨∃T0,vs[1]?=some (.ref T0)/\T0≠e/\Entry s.heap T0 .none/\S=[T0])(h:∀h' T,bK (e::S) (II (env::outer)) s.heap h'->s.heap.get? T=none->h'.get? e=some (oe.mapFields (·.setIfInBounds 1 (.ref T)))->Entry h' T (rawInt L)->Q () {s with heap:=h'}):
  wpAny M A (noteFrame (.ref e) env) Q E s:=by
 unfold noteFrame;simp only[p];rcases w with⟨r,rfl⟩|⟨T0,r,x,y,rfl⟩
 ·refine wpAny_bind (wpAny_field i j r ?_);rw[if_neg (by decide)];exact SG d n p i j hsz h
 ·obtain⟨F,B,k,l,t⟩:=y.ex;refine wpAny_bind (wpAny_field i j r ?_);rw[if_pos (show(Value.ref T0 !=Value.none)=true from by simp)];refine wpAny_bind (wpAny_field k l t ?_);rw[if_neg (show¬((Value.none==rawInt L)=true)from by simp[rawInt])];refine wpAny_bind (wpAny_setField k l (Array.getElem?_eq_some_iff.mp t).1 ?_);have other:∀b,b≠T0->(s.heap.update T0 (Obj.mapFields (·.setIfInBounds 3 Value.none))).get? b=s.heap.get? b:=fun b a=>Heap.get?_update_other _ _ (Ne.symm a);have f:∀b o,s.heap.get? b=some o->(∀vs,o.data≠.fields vs)->b≠T0:=fun b o a c q=>by
   rw[q,k]at a;cases a;exact c B l
  refine SG (s:={s with heap:=s.heap.update T0 (Obj.mapFields (·.setIfInBounds 3 Value.none))}) d (n.of_keeps fun b o a c=>⟨o,(other b (f b o a c)).trans a,rfl⟩) p ((other e (Ne.symm x)).trans i) j hsz fun h' T st m C D=>?_;refine h h' T ⟨fun b o q u g=>?_,fun b o q a=>?_⟩ ?_ C D
  ·have a:b≠T0:=fun z=>u (by rw[z];simp);exact st.keep b o ((other b a).trans q) (fun z=>u (by rw[List.mem_singleton.mp z];simp)) g
  ·obtain⟨_,G,z,nf⟩:=n.mem a;rw[q]at z;cases z;exact st.slot b o ((other b (f b o q nf)).trans q) a
  ·cases z:s.heap.get? T with
   |none=>rfl
   |some o=>
    by_cases v:T=T0
    ·rw[v,Heap.get?_update_self _ k (Obj.isFreed_of_fields (Obj.data_mapFields l _))]at m;cases m
    ·rw[other T v,z]at m;cases m
theorem leaveX(d:A.frames=some (env::outer))(k:s.heap.FunFrames base (env::outer))(l:env.frame=some L)(g:s.heap.get? e=some oe)(i:oe.data=.fields vs)(hsz:1<vs.size)(m:(vs[1]?=some .none/\S=[])∨∃T0,vs[1]?=some (.ref T0)/\T0≠e/\Entry s.heap T0 .none/\S=[T0])(h:∀h' T,bK (e::S) (II (env::outer)) s.heap h'->s.heap.get? T=none->h'.get? e=some (oe.mapFields (·.setIfInBounds 1 (.ref T)))->Entry h' T .none->Q () {s with heap:=h'}):
  wpAny M A (leaving env (.ref e)) Q E s:=by
 unfold leaving;refine wpAny_bind (Xc d k l g i hsz m fun n T st a j p=>?_);have f:e≠T:=fun z=>by rw[<-z,g]at a;cases a
 refine OH (s:={s with heap:=n}) j (Obj.data_mapFields i _) (T:=T) (by simp[hsz]) p fun r k1 k2=>?_;refine h r T ⟨fun b o q t c=>?_,fun b o q u=>?_⟩ a ((k1 e f).trans j) k2
 ·exact(k1 b (fun z=>by rw[z,a]at q;cases q)).trans (st.keep b o q t c)
 ·obtain⟨v,z⟩:=st.slot b o q u;exact⟨v,(k1 b (fun z=>by rw[z,a]at q;cases q)).trans z⟩
end
variable{C:Addr}
section
variable {H':Hp} {h' h0:Heap} {e T:Addr} {o:HO}
theorem Ah.some(x:Ah P w H h a o):∃u,h.get? a=some u:=by
 cases o with
 |lst xs=>obtain⟨_,_,_,_,e⟩:=x;exact⟨_,e⟩
 |tup xs=>obtain⟨_,_,_,c,e,_⟩:=x;exact⟨_,e⟩
 |dK b=>obtain⟨_,_,_,_,o,_,_,e,_⟩:=x;exact⟨_,e⟩
 |dT b=>obtain⟨_,_,_,_,o,_,_,e,_⟩:=x;exact⟨_,e⟩
 |set S n=>obtain⟨o,_,_,_,e,_⟩:=x;exact⟨_,e⟩
 |ins C d fs=>obtain⟨_,_,_,e,_⟩:=x;exact⟨_,e⟩
 |own y=>obtain⟨_,e⟩:=x;exact⟨_,e⟩
 |xd fs=>obtain⟨_,⟨_,_,_,e,_⟩,_⟩:=x;exact⟨_,e⟩
 |XR lo g=>obtain⟨_,_,_,e⟩:=x;exact⟨_,e⟩
 |Ci c u=>obtain⟨e,_⟩:=x;exact⟨_,e⟩
 |XS i=>exact⟨_,(show h.get? a=some _ from x)⟩
 |met f y=>exact⟨_,(show h.get? a=some _ from x)⟩
 |ext j=>obtain⟨_,⟨_,e⟩,_⟩:=x;exact⟨_,e⟩
theorem Cf.none_of(x:Cf P w H h)(n:h.get? a=none):H a=none:=by
 cases q:H a with
 |none=>rfl
 |some u=>
  obtain⟨b,e⟩:=(x a u q).some;rw[n]at e;cases e
theorem Un.Vd{fs g:List Addr}(u:Un fs [] H H' h0 h)(t:bK S g h h')(l:∀b∈S,h0.get? b=none)(m:∀b∈g,b∈fs∨h0.get? b=none):Un fs [] H H' h0 h':=by
 have j:∀{b o},h0.get? b=some o->b∉S:=fun q z=>by rw[l _ z]at q;cases q
 refine⟨fun b o q n i c=>?_,fun b o q n i c=>?_,u.free,fun b o q c=>?_,u.Dl,u.DV,u.Du⟩
 ·refine t.keep b o (u.keep b o q n i c) (j q) fun z=>?_;rcases m b z with z|z
  ·exact i z
  ·rw[z]at q;cases q
 ·obtain⟨p,e⟩:=u.slot b o q n i c;by_cases d:b∈g
  ·obtain⟨f,k⟩:=t.slot b _ e d;exact⟨f,k⟩
  ·exact⟨p,t.keep b _ e (j q) d⟩
 ·obtain⟨r,e⟩:=u.there b o q c;by_cases d:b∈g
  ·obtain⟨f,k⟩:=t.slot b _ e d;exact⟨_,k⟩
  ·exact⟨r,t.keep b _ e (j q) d⟩
theorem Cf.Vd{d:List Addr}(x:Cf P w H h)(t:bK S d h h')(f:∀b∈S,H b=none)(g:∀b∈d,H b=none):Cf P w H h':=fun a o q=>
 (x a o q).FG (fun b u c e=>t.keep b u e (fun z=>c.elim (fun e=>by subst e;rw[f _ z]at q;cases q) fun c=>by rw[f _ z]at c;cases c) (fun z=>c.elim (fun e=>by subst e;rw[g _ z]at q;cases q) fun c=>by rw[g _ z]at c;cases c)) (fun _ q=>q) fun _ _ q=>q
end
variable{s':Shared}{e:Value}
section
variable {E:XK} 
end
variable{mg:Str->Option Value}
section
end
def Ve(K:qG)(C:Addr)(b:List Value)(newId:String)(o:Obj):Bool:=match o.data with
 | .cls a=>o.cls==.type "type"&&(a.mro.head?==some (.ref C)&&(PySem.W.tailIn K b a.mro.tail&&(o.slots.size==6&&(o.slots[4]?==some (some (.builtin newId))&&(!a.hasDel&&(PySem.W.nsOkIn K a.ns&&PySem.W.nsIn K a.ns "__init__"==some none))))))
 |_=>false
def SH(K:qG)(C:Addr)(a:List Value)(newId:String):Bool:=(K.lookup C).any (Ve K C a newId)
theorem Xd{g:Type}{l:List g}(h:l.length=6):∃a b c d e f,l=[a,b,c,d,e,f]:=by
 cases l with
 |nil=>cases h
 |cons a l=>
 cases l with
 |nil=>cases h
 |cons b l=>
 cases l with
 |nil=>cases h
 |cons c l=>
 cases l with
 |nil=>cases h
 |cons d l=>
 cases l with
 |nil=>cases h
 |cons e l=>
 cases l with
 |nil=>cases h
 |cons f l=>
 cases l with
 |nil=>exact⟨a,b,c,d,e,f,rfl⟩
 |cons _ _=>cases h
section
end
def subIn(K:qG)(C D:Addr):Bool:=match K.lookup C with
 |some ⟨_,_,.cls a,_⟩=>a.mro.contains (.ref D)
 |_=>false
section
variable{M:Model} 
theorem B_{nm q:Str}{N:Addr}{bs G:List Value}{k:Bool}{sn:List Str}{sub:List Value}{ab:Bool}{p:Option Bool}{dd:Option Addr}{k0 k1 k2 k3 k5:Option Value}{newId:String}{r I:Str}{l J:Addr}{s c:List Value}{i:Bool}{u:List Str}{m:List Value}{v:Bool}{n:Option Bool}{w:Option Addr}{x y z B D:Option Value}{a:String}{g:Array GenState}{d:Drawn}{t:Nat}{os:OsState}{e:Addr}{Q:Bool->Shared->Prop}(K:h.get? C=some (excClassObj nm q C N bs G k sn sub ab p dd k0 k1 k2 k3 k5 newId))(H:h.get? l=some (excClassObj r I l J s c i u m v n w x y z B D a))(L:h.get? e=some oe)(o:oe.cls=.ref C)(j:c.contains (.type "BaseException")=true)(O:(Value.ref C::G).contains (.ref l)=b)(P:Q b ⟨h,g,d,t,os⟩):wpAny M A (excMatches (.ref e) (.ref l)) Q E ⟨h,g,d,t,os⟩:=by
 have F:(Value.ref l::c).contains (.type "BaseException")=true:=by rw[List.contains_cons,j,Bool.or_true]
 have f:=tc_notTuple;unfold excMatches;cases b<;>(repeat (first|(with_reducible refine wpAny_loadPart_at L ?_;rw[o])|with_reducible refine wpAny_loadPart_at H ?_|(with_reducible refine wpAny_isSubtype_exc H ?_;rw[F])|(with_reducible refine wpAny_isSubtype_exc K ?_;rw[O])|wp_step))<;>exact P
end
abbrev Cx.held(X:Cx)(e:Value):Cx:={X with A:=X.A.mark (some e),calm:=false,xe:=fun _ _=>False}
section
variable {E:XK} 
theorem Inv.held(I:Inv X pins σ H s)(e:Value):Inv (X.held e) pins σ H s:=
 ⟨⟨I.ok.mod,I.ok.kind,I.ok.glob,I.ok.blt,I.ok.above,I.ok.inj,I.ok.has,I.ok.XT,(fun z=>nomatch z),I.ok.frames,I.ok.YB,I.ok.YC,I.ok.bs,I.ok.PN,I.ok.Jx,I.ok.Jy,I.ok.Cz,I.ok.Qz⟩,
  I.os,I.bare,I.base,I.loc,I.cell,I.free,I.BS,I.pin,I.Al,I.len⟩
theorem Inv.Yt(ok:X.Ok)(I:Inv (X.held e) pins σ H s):Inv X pins σ H s:=⟨ok,I.os,I.bare,I.base,I.loc,I.cell,I.free,I.BS,I.pin,I.Al,I.len⟩
end
variable{gu gv:List Value}{GU:List Stmt}{nD:String}{Dd:Addr}{e0:Expr}{b0:Stmt}{hp yp tp cp:Pos}{y:Str}{ta:TA}
section
variable {CX:HZ} {x n:Str} {pos:Pos} {nC:String} {ts:TS}
end
abbrev Cx.DZ(X:Cx)(ea:Addr)(oe:Obj):Cx:={X with A:=X.A.mark (some (.ref ea)),calm:=false,xe:=fun _ _=>False,pn:=(ea,oe)::X.pn}
section
variable {E:XK} {ea:Addr} 
theorem Inv.DZ(I:Inv X pins σ H s)(a:s.heap.get? ea=some oe)(b:H ea=none)(c:ea≠X.env.locals)(d:ea∉X.fs)(f:∀v,oe.data≠.cell v):Inv (X.DZ ea oe) pins σ H s:=
 ⟨⟨I.ok.mod,I.ok.kind,I.ok.glob,I.ok.blt,I.ok.above,I.ok.inj,I.ok.has,I.ok.XT,(fun z=>nomatch z),I.ok.frames,I.ok.YB,I.ok.YC,I.ok.bs,I.ok.PN,I.ok.Jx,I.ok.Jy,I.ok.Cz,I.ok.Qz⟩,
  I.os,I.bare,I.base,I.loc,I.cell,I.free,I.BS,fun p g=>(List.mem_cons.mp g).elim (fun z=>by rw[z];exact⟨a,b,c,d,f⟩) (fun z=>I.pin p z),I.Al,I.len⟩
theorem Inv.Vf(ok:X.Ok)(I:Inv (X.DZ ea oe) pins σ H s):Inv X pins σ H s:=⟨ok,I.os,I.bare,I.base,I.loc,I.cell,I.free,I.BS,fun p a=>I.pin p (List.mem_cons_of_mem _ a),I.Al,I.len⟩
end
section
variable {i:Nat} {x n:Str} {pos:Pos} {nC:String} {ts:Addr->TS}
def Ends.only(D:Ends):Ends:={nx:=fun _ _=>False,rt:=D.rt}
end
section
variable {i:Nat} {x n z:Str} {pos zp:Pos} {nC:String} {ts:TS} {tx:Addr->TS}
end
section
variable {x D:Addr} {ox:Obj}
abbrev Hs:List Value:=[.type "ValueError",.type "Exception",.type "BaseException",.type "object"]
theorem jn:builtinKind "BaseException.__getattribute__"=some Manifest.AttrKind.slot:=by kernel_rfl
theorem jo:splitId "BaseException.__getattribute__"=some ("BaseException","__getattribute__"):=by kernel_rfl
theorem jq:Hs.contains (.type "BaseException")=true:=by decide
variable {ea:Addr} 
end
section
end
end L2
namespace L2
open PySem
end L2
namespace L2
open PySem PySem.Spec PyProof.Rows
theorem Ik:bootBuiltins "ValueError"=some (.type "ValueError"):=by decide+kernel
structure Cw(k:Nat)(A:Around):Prop where
 dp:A.depth+3*k+5<recursionLimit
 un:A.units+16*k+200<cLine
 gd:A.guards=some []
abbrev SI(A:Around):Around:={A with handled:=none}
variable{k:Nat}{A:Around}
theorem Cw.deeper(r:Cw (k+1) A)(env:Env):Cw k (A.deeper env):=
 ⟨by have:=r.dp;show A.depth+1+3*k+5<_;lia,by have:=r.un;show A.units+3+16*k+200<_;lia,r.gd⟩
structure Kq(P:Program)(w:World)(K:qG)(mg:Str->Option Value)(base:Heap)(CX:HZ)(k:Nat)(f:Addr)(fd:FuncData)(ps:List Str)(sp:Sp):Prop where
 len:∀vs H Q E,sp vs H Q E->vs.length=ps.length
 run:∀(A:Around)(outer:List Env)(s:Shared)(H:Hp)(args:Args)(us:List Value)(vs:List V)(Q:VK)(E:XK),Cw k A->Fw P w K mg base A outer s H->BindsTo s fd args (ps.zip us)->Vals vs us->sp vs H Q E->
  codeAny (model P w) A (.call (.ref f) args) (CR CX outer P w H s Q E) s
abbrev et(CX:HZ)(P:Program)(w:World)(K:qG)(mg:Str->Option Value)(base:Heap)(N:List Str)(qual:Str)(scope:Scope)(f:Addr)(a:Value)(A:Around)(outer:List Env)(s:Shared)(H:Hp)(E:XK):Cx:=
 {CO CX P w K mg base N qual scope f a A outer s H E with calm:=false}
variable{mg:Str->Option Value}{P:Program}{base:Heap}{w:World}{s:Shared}{K:qG}
theorem Fw.held{outer:List Env}{H:Hp}(e:Fw P w K mg base A outer s H)(u:Unit):Fw P w K mg base (SI A) outer s H:=
 ⟨e.frames,e.mod,e.bs,e.PN,e.Cz,e.Qz,e.Al,e.bare⟩
variable{ps:List Str}{f:Addr}{sp:Sp}
theorem Yu{CX:HZ}{name qual:Str}{params:Arguments}{body:List Stmt}{scope:Scope}{M kV m O c ct X:Value}{R od:Option Addr}{B:Array (Option Value)}{N:List Str}(lk:K.lookup f=some ⟨X,od,.func (PySem.W.fnOf name qual params body scope M kV m O R c ct),B⟩)(C:PySem.W.codeIn K c qual=true)(S:BO N ps scope)(len:∀vs H Q E,sp vs H Q E->vs.length=ps.length)(h:∀(A:Around) (outer:List Env) (s:Shared) (H:Hp) (vs:List V) (Q:VK) (E:XK),Cw k (A.deeper (envOfC qual scope s.heap.objs.size f c))->sp vs H Q E->
   ∃t,G' (et CX P w K mg base N qual scope f c A outer s H E) body t/\t {nx:=fun _ g=>Q .Ae g,rt:=Q} (start N vs) H):
  Kq P w K mg base CX (k+1) f (PySem.W.fnOf name qual params body scope M kV m O R c ct) ps sp:=by
 refine⟨len,fun A outer s H args Y vs Q E T j Z r p=>?_⟩;have hl:=len _ _ _ _ p;have U:K.In s.heap:=j.mod.Qy.keeps fun b o e=>(j.bs b o e).1;have D:s.heap.NoLimit:=j.mod.nolimit.keeps fun b o e=>(j.bs b o e).1;have i:∀y∈ps.zip Y,scope.names.lookup y.1=some .local∨(scope.names.lookup y.1=some .cell/\((cellsFrom (s.heap.objs.size+1) scope.names []).lookup y.1).isSome=true):=fun⟨n,v⟩ hy=>by
  rcases S.par n (List.of_mem_zip hy).1 with q|q
  ·exact .inl q
  ·exact .inr ⟨q,PySem.W.cellsFrom_some _ _ _ (.inl q)⟩
 refine codeAny_call_function (show A.depth<recursionLimit by have:=T.dp;lia) (U _ _ lk) rfl S.co S.gen rfl (PySem.W.codeRec_of U C) (Z _ _ _ _ ?_);refine wpAny_newFunctionEnv_cells S.kind i fun env he F x=>?_;subst he;refine⟨D.keeps x.toInCall.keep,codeAny_func ?_⟩;obtain⟨t,ht,hq⟩:=h A outer s H vs Q E (T.deeper _) p;have a:Inv (CO CX P w K mg base N qual scope f c (SI A) outer s H E) [] (start N vs) H F:=Hh S rfl (j.held ()) hl r x;have I:Inv (et CX P w K mg base N qual scope f c A outer s H E) [] (start N vs) H F:=
  ⟨⟨a.ok.mod,a.ok.kind,a.ok.glob,a.ok.blt,a.ok.above,a.ok.inj,a.ok.has,a.ok.XT,(fun z=>nomatch z),Around.frames_deeper j.frames,a.ok.YB,a.ok.YC,a.ok.bs,a.ok.PN,a.ok.Jx,a.ok.Jy,a.ok.Cz,a.ok.Qz⟩,
   a.os,a.bare,a.base,a.loc,a.cell,a.free,a.BS,a.pin,a.Al,a.len⟩
 refine wpAny_mono (ht [] F (start N vs) H _ I hq) (fun fl G l=>?_) fun e G l=>l;have fin:∀{d:St}{g:Hp}{v:V}{u:Value},Inv (et CX P w K mg base N qual scope f c A outer s H E) [] d g G->RelV v u->Q v g->CE outer P w H s Q u G:=
  fun{d g v u} J L q=>⟨v,g,J.os,J.bare,J.base,J.Al,L,q⟩
 cases fl with
 |ret u=>
  obtain⟨v,d,g,J,L,q⟩:=l;exact fin J L q
 |next=>
  obtain⟨d,g,J,q⟩:=l;exact fin (v:=V.Ae) (u:=Value.none) J rfl q
 |brk=>
  obtain⟨_,_,_,q⟩:=l;exact False.elim q
 |cont=>
  obtain⟨_,_,_,q⟩:=l;exact False.elim q
section
theorem CT.okN{x qual:Str}{st:Stmt}{e:FuncData}{N:List Str}(F:CT K x qual st f e)(S:BO N ps (AJ st))(len:∀vs H Q E,sp vs H Q E->vs.length=ps.length)(b:∀(a:Value) (A:Around) (outer:List Env) (s:Shared) (H:Hp) (vs:List V) (Q:VK) (E:XK),Cw k (A.deeper (envOfC qual (AJ st) s.heap.objs.size f a))->sp vs H Q E->
   ∃t,G' (et BP P w K mg base N qual (AJ st) f a A outer s H E).Uu (AU st) t/\t {nx:=fun _ g=>Q .Ae g,rt:=Q} (start N vs) H):Kq P w K mg base BP (k+1) f e ps sp:=by
 obtain⟨m,n,kV,i,o,p,a,r,j,rfl,lk,c⟩:=F.ex;refine Yu lk c S len fun A outer s H vs Q E l d=>?_;obtain⟨t,h,q⟩:=b a A outer s H vs Q E l d;exact⟨t,h.Uu,q⟩
end
variable{es:List Expr}{fd:FuncData}{X:Cx}
section
variable {CX:HZ} {ds:List Value} {Lu:List V} {E:XK} {x:Str} {p pos:Pos} {e:Expr} {t:TA}
end
variable{C:Addr}
section
variable {pins:List (Addr×Obj)} {σ:St} {H:Hp} {ea:Addr} {oe:Obj}
end
section
variable {i j:Nat} {Dd:Addr} {x y n z:Str} {p pos hp yp tp cp zp:Pos} {e0:Expr} {ta:TA} {gu gv:List Value} {nC nD:String} {b0:Stmt} {GU:List Stmt} {tx:TS}
end
variable{mN:Str->Option Value}
section
variable{DH:Program} {wd:World} {Ar:Around} {Ex:Value->Shared->Prop} {hp:Heap} {gn:Array GenState} {dr:Drawn} {tk:Nat} {sy:OsState}
variable{nm qn:Str} {N:Addr} {bs tl Yv:List Value} {hdc:Bool} {sn:List Str} {sb:List Value} {ab:Bool} {cl:Option Bool} {dd:Option Addr} {k0 k1 k2 k3 k5:Option Value} {B newId Il:String}
abbrev SJ(C t:Addr):Obj:={cls:=.ref C,data:=.fields #[.ref t,.none,.none,.none,.bool false,.none]}
theorem HJ(F:ExcBaseFacts B newId Il Yv)(T:OwnTail hp Yv tl){rest:List Value}{h:Addr}{k:Obj}{Q:Fin->Shared->Prop}(d:hp.get? C=some (excClassObj nm qn C N bs tl hdc sn sb ab cl dd k0 k1 k2 k3 k5 newId))(m:hp.Ns N mN)(n:mN "__init__"=some (.ref h))(p:hp.get? h=some k)(q:k.cls=.type "function")(s:rest.length<=sizeLine)(t:∀h' e,Heap.MadeExcOf hp h' e (.ref C) rest->wpAny (model DH wd) Ar (call (.ref h) (.ref e::rest)) (fun r s'=>r=.none/\Q (.done (.ret (.ref e))) s') Ex ⟨h',gn,dr,tk,sy⟩):
  wpAny (model DH wd) Ar (Builtin.«type.__call__» ⟨.ref C::rest,[]⟩) Q Ex ⟨hp,gn,dr,tk,sy⟩:=by
 repeat (first|with_reducible refine wpAny_loadPart_at d ?_|with_reducible refine wpAny_madeBy_exc d ?_|wp_step)
 refine codeAny_call_builtin_code (Code.quiet_builtin _ F.quiet) (wpAny_check_new_subT F T d ?_);refine codeAny_exc_new_subT F T d ?_ s;show wpAny _ _ _ _ _ _;obtain⟨c,a⟩:∃c,c=(hp.push {cls:=.type "tuple",data:=.seq rest.toArray}).push (SJ C hp.objs.size):=⟨_,rfl⟩;have f:∀b o,hp.get? b=some o->c.get? b=some o:=fun b o e=>by rw[a];exact Heap.get?_push_of_some _ (Heap.get?_push_of_some _ e)
 have l:c.get? (hp.objs.size+1)=some (SJ C hp.objs.size):=by rw[a];heap_get
 have u:c.get? hp.objs.size=some {cls:=.type "tuple",data:=.seq rest.toArray}:=by rw[a];exact Heap.get?_push_of_some _ (Heap.get?_push_at rfl rfl)
 rw[<-a];have g:=f _ _ d;have i:c.Ns N mN:=let⟨o,v,w,e,r⟩:=m;⟨o,v,w,f _ _ e,r⟩;have y:=T.keeps f;have j:(Value.ref C::tl).contains (.ref C)=true:=by simp
 unfold isInstance
 repeat (first|with_reducible refine wpAny_loadPart_at l ?_|(with_reducible refine wpAny_isSubtype_exc g ?_;rw[j])|wp_step)
 show wpAny _ _ (typeLookup (.ref C) _) _ _ _;refine wpAny_typeLookup_tail g i y F.mroIs F.init.lookup ?_;rw[n];refine wpAny_holding (wpAny_bind ?_);unfold bindSpecial;refine wpAny_bind (wpAny_typeOf (T:="function") ⟨_,f _ _ p,q⟩ ?_);rw[if_pos (by decide)];refine wpAny_pure (wpAny_bind (wpAny_mono (t c (hp.objs.size+1) ⟨f,Heap.get?_none_of_le (Nat.le_succ _),hp.objs.size,l,Heap.get?_none_of_le (Nat.le_refl _),u⟩) (fun r s' z=>?_) fun _ _ x=>x));obtain⟨rfl,A⟩:=z;wp_walk;exact A
theorem Kr(F:ExcBaseFacts B newId Il Yv)(T:OwnTail hp Yv tl){rest:List Value}{b:Addr}{c:Obj}{Q:Value->Shared->Prop}(a:hp.get? C=some (excClassObj nm qn C N bs tl hdc sn sb ab cl dd k0 k1 k2 k3 k5 newId))(d:hp.Ns N mN)(f:mN "__init__"=some (.ref b))(g:hp.get? b=some c)(h:c.cls=.type "function")(i:rest.length<=sizeLine)(j:∀h' e,Heap.MadeExcOf hp h' e (.ref C) rest->wpAny (model DH wd) (Ar.under (.builtin "type.__call__" ⟨.ref C::rest,[]⟩)) (call (.ref b) (.ref e::rest)) (fun r s'=>r=.none/\Q (.ref e) s') Ex ⟨h',gn,dr,tk,sy⟩):
  wpAny (model DH wd) Ar (call (.ref C) rest) Q Ex ⟨hp,gn,dr,tk,sy⟩:=by
 have l:=tc_lookup;have m:=tc_bind (.ref C);have n:(⟨hp,gn,dr,tk,sy⟩:Shared).TypeIs (.ref C) "type":=⟨_,a,rfl⟩;refine wpAny_call (codeAny_of_tree ?_);show wpAny _ _ (callAny (.ref C) _) _ _ _
 repeat (any_goals (first|assumption|with_reducible refine wpAny_loadPart_at a ?_|wp_step))
 refine⟨rfl,?_⟩;exact codeAny_call_builtin_at (Code.quiet_builtin _ (by decide+kernel)) entry_typeCall (wpAny_check_type_call_sub a (HJ F T a d f g h i fun h' e k=>j h' e k))
end
end L2
namespace L2
open PySem PySem.Spec PyProof.Rows PySem.W PySem.Builtin PySem.Builtin.ObjectAttr
noncomputable def GV:List Value->Bool
 | .ref _::r=>GV r
 |l=>l==Hs
theorem EI(self:Value):∀{l:List Value},GV l=true->refuseLoop self "__setattr__" l=pure ()
 | .ref c::r,e=>by rw[refuseLoop_ref];exact EI self e
 |[],e=>by cases e
 | .none::r,e=>by cases e
 | .type n::r,e=>by
  have:=beq_iff_eq.mp (show(Value.type n::r==Hs)=true from e);rw[this];exact PySem.F.store_ValueError.passes self
 | .bool _::r,e=>by have:=beq_iff_eq.mp (show(_==Hs)=true from e);cases this
 | .int _ _::r,e=>by have:=beq_iff_eq.mp (show(_==Hs)=true from e);cases this
 | .str _ _::r,e=>by have:=beq_iff_eq.mp (show(_==Hs)=true from e);cases this
 | .bytes _ _::r,e=>by have:=beq_iff_eq.mp (show(_==Hs)=true from e);cases this
 | .float _ _::r,e=>by have:=beq_iff_eq.mp (show(_==Hs)=true from e);cases this
 | .builtin _::r,e=>by have:=beq_iff_eq.mp (show(_==Hs)=true from e);cases this
theorem Ht:∀{l:List Value},GV l=true->l.contains (.type "object")=true
 | .ref c::r,e=>by rw[List.contains_cons,Ht (l:=r) e,Bool.or_true]
 |[],e=>by cases e
 | .type n::r,e=>by rw[beq_iff_eq.mp (show(Value.type n::r==Hs)=true from e)];decide
 | .none::r,e=>by cases e
 | .bool _::r,e=>by have:=beq_iff_eq.mp (show(_==Hs)=true from e);cases this
 | .int _ _::r,e=>by have:=beq_iff_eq.mp (show(_==Hs)=true from e);cases this
 | .str _ _::r,e=>by have:=beq_iff_eq.mp (show(_==Hs)=true from e);cases this
 | .bytes _ _::r,e=>by have:=beq_iff_eq.mp (show(_==Hs)=true from e);cases this
 | .float _ _::r,e=>by have:=beq_iff_eq.mp (show(_==Hs)=true from e);cases this
 | .builtin _::r,e=>by have:=beq_iff_eq.mp (show(_==Hs)=true from e);cases this
variable{o:Obj}
section
variable{DH:Program} {wd:World} {Ar:Around} {R:Result->Shared->Prop} {K:qG} {s:Shared} {x C:Addr} {name:Str} {v:Value} {mA:Str->Option Value} {ns:List Str}
theorem SK{tk:Tok}{od:Option Obj}(X:K.In s.heap)(J:PySem.W.InstAt s.heap x o C od)(p:(clsIn K C).any (fun c=>GV c.mro)=true)(r:(clsIn K C).any (·.hasDict)=true)(t:takerIn K C name=some none)(u:∀b c c1 h d,c.hasDict=true->s.heap.get? C=some ⟨c1,h,.cls c,d⟩->wpAny (model DH wd) Ar.in1 (storeInOwnDict (.ref x) (.ref C) (.str name tk) name v b) (fun fin s'=>match fin with| .done f=>R (.ok f) s'| .again k=>k.quiet=true/\codeAny (model DH wd) Ar k R s') (fun e s'=>R (.error e) s') s):
  codeAny (model DH wd) Ar (.call (.builtin "object.__setattr__") ⟨[.ref x,.str name tk,v],[]⟩) R s:=by
 obtain⟨c,g,j⟩:=any_some p;have i:=PySem.F.store_object;have w:c.mro.isEmpty=false:=by
  cases q:c.mro with
  |nil=>rw[q]at j;cases j
  |cons _ _=>rfl
 have jl:Looks (model DH wd) s.heap (isInstance (.ref x) (.type "object")) true:=J.type.andThen (looks_mroIn X (by unfold mroIn;rw[g,Option.bind_some,if_neg (by rw[w];decide),Ht j]));refine codeAny_call_builtin i.slot.plain i.entry (@check_slot (model DH wd) _ _ s "object.__setattr__" "object" "__setattr__" (.ref x) [.str name tk,v] [] _ i.kind i.split jl (i.args (.ref x) (.str name tk) v) ?_);obtain⟨attr,y,z⟩:=Option.bind_eq_some_iff.mp t;have mro:Looks (model DH wd) s.heap (mroOf (.ref C)) c.mro:=(looks_clsIn X g).andThen .now;have l:Looks (model DH wd) s.heap (storeTaker? attr) none:=by
  cases attr with
  |none=>exact .now
  |some a=>
   obtain⟨b,A,e⟩:=Option.map_eq_some_iff.mp z;cases b with
   |true=>cases e
   |false=>exact(looks_takesIn X A).andThen .now
 rw[osa_eq,refuse_eq];refine wpAny_bind (wpAny_bind (J.type.here (wpAny_bind (mro.here ?_))));rw[EI _ j];refine wpAny_pure (wpAny_bind (J.type.here (wpAny_bind ((looks_findIn X y).here (wpAny_bind (l.here ?_))))));dsimp only;have m:c.hasDict=true:=by
  obtain⟨B,n,D⟩:=any_some r;rw[g]at n;cases n;exact D
 obtain⟨c1,h,d,E⟩:∃c1 h d,s.heap.get? C=some ⟨c1,h,.cls c,d⟩:=by
  unfold clsIn at g;split at g
  ·rename_i k I G H q
   cases g;exact⟨_,_,_,X _ _ q⟩
  ·cases g
 exact u _ c c1 h d m E
theorem Px(h:PySem.W.notCls o=true)(c:ClassData):o.data≠.cls c:=fun q=>by unfold PySem.W.notCls at h;rw[q]at h;cases h
theorem Py{tk:Tok}(X:K.In s.heap)(J:PySem.W.InstAt s.heap x o C none)(t:(clsIn K C).any (fun p=>GV p.mro)=true)(w:(clsIn K C).any (·.hasDict)=true)(z:takerIn K C name=some none)(A:∀h' i,h'.get? x=some {o with dict:=some s.heap.objs.size}->h'.Ns1 s.heap.objs.size (fun y=>if y=name then some v else none)->(∀b u,b≠x->s.heap.get? b=some u->h'.get? b=some u)->R (.ok (.ret .none)) {s with heap:=h',toks:=i}):
  codeAny (model DH wd) Ar (.call (.builtin "object.__setattr__") ⟨[.ref x,.str name tk,v],[]⟩) R s:=by
 refine SK X J t w z fun O p c1 P B D E=>?_;have h:=J.at_;have j:=J.cls;have F:o.dict=none:=by
  have:=J.dict;cases q:o.dict with
  |none=>rfl
  |some _=>rw[q]at this;exact this.elim
 have G:=Heap.lt_size h;unfold storeInOwnDict
 repeat (first|(with_reducible refine wpAny_loadPart_at h ?_;rw[j])|with_reducible refine wpAny_load E ?_|wp_step)
 rw[F];dsimp only;rw[if_neg (by simp[typeHasDict])];split
 ·rename_i c q
  exact absurd q (Px J.no c)
 ·have f:(s.heap.push {cls:=.type "dict",data:=.dict #[]}).get? x=some o:=Heap.get?_push_of_some _ h;have xs:x≠s.heap.objs.size:=Nat.ne_of_lt G;refine wpAny_bind (wpAny_alloc' (wpAny_bind (wpAny_update' f (wpAny_pure ?_))));obtain⟨d,a⟩:∃d,d=(s.heap.push {cls:=.type "dict",data:=.dict #[]}).update x fun o=>{cls:=o.cls,dict:=some s.heap.objs.size,data:=o.data,slots:=o.slots}:=⟨_,rfl⟩;have H:d.get? s.heap.objs.size=some {cls:=.type "dict",data:=.dict #[]}:=by rw[a];exact(Heap.get?_update_ne _ _ _ _ xs.symm).trans (Heap.get?_push_at rfl rfl)
  have I:d.get? x=some {o with dict:=some s.heap.objs.size}:=by
   rw[a];refine Heap.get?_update_self _ f ?_;have L:=(Heap.get?_some_iff.mp h).2;obtain⟨a1,a2,a3,a4⟩:=o;cases a3<;>first|rfl|exact L
  have go:∀b u,b≠x->s.heap.get? b=some u->d.get? b=some u:=fun b u k e=>by rw[a];exact(Heap.get?_update_ne _ _ _ _ k).trans (Heap.get?_push_of_some _ e)
  have M:d.Ns s.heap.objs.size (fun _=>none):=⟨_, #[],_,H,rfl,fun e N=>absurd N (by simp),fun _=>rfl⟩;rw[<-a];show wpAny _ _ (storeInDict s.heap.objs.size (.str name tk) name v) _ _ _;unfold storeInDict newKeyGuard;refine wpAny_bind (wpAny_pure (wpAny_bind (wpAny_nsSet1 (Heap.Ns1.of_empty M) fun h' g r=>?_)));obtain⟨Q,S,T,l,m,n⟩:=g.count (Within.cons name v Within.nil);refine wpAny_bind (wpAny_lookBehind l (by rw[m];exact pastItsLine_dict (Nat.le_trans n (by rw[List.length_cons,List.length_nil,sizeLine_eq];lia))) ?_);wp_walk;exact A h' _ ((r.2 x xs).trans I) g fun b u k e=>(r.2 b (Nat.ne_of_lt (Heap.lt_size e))).trans (go b u k e)
end
end L2
namespace L2
open PySem PySem.Spec PyProof.Rows PySem.W PySem.Builtin PySem.Builtin.ObjectAttr
def OI(C:Addr)(o:Obj):Bool:=match o.data with
 | .cls a=>o.cls==.type "type"&&(a.mro.head?==some (.ref C)&&(a.mro.tail.contains (.type "BaseException")&&(o.slots.size==6&&(o.slots[4]?==some (some (.builtin "ValueError.__new__"))&& !a.hasDel))))
 |_=>false
def Bm(K:qG)(C:Addr):Bool:=(K.lookup C).any (OI C)
theorem DS{K:qG}{h:Heap}{C:Addr}(X:K.In h)(q:Bm K C=true):∃tl N nm qn bs hdc sn sb ab cl dd k0 k1 k2 k3 k5,h.get? C=some (excClassObj nm qn C N bs tl hdc sn sb ab cl dd k0 k1 k2 k3 k5 "ValueError.__new__")/\tl.contains (.type "BaseException")=true:=by
 obtain⟨o,e,q⟩:=any_some q;obtain⟨c,dd,data,f⟩:=o;cases data with
 |cls g=>
  obtain⟨nm,bs,a,i,qn,j,sn,sub,ab,b,k⟩:=g;simp only[OI,Bool.and_eq_true,beq_iff_eq,Bool.not_eq_true']at q;obtain⟨m,d,n,p,r,s⟩:=q;cases a with
  |nil=>cases d
  |cons v t=>
   cases d;obtain⟨l⟩:=f;obtain⟨k0,k1,k2,k3,k4,k5,rfl⟩:=Xd (l:=l) p;cases r;subst m s;exact⟨t,i,nm,qn,bs,j,sn,sub,ab,b,dd,k0,k1,k2,k3,k5,X _ _ e,n⟩
 |_=>cases q
structure Pz(K:qG)(D:Addr):Prop where
 q:Bm K D=true
 ga:PySem.W.findIn K (.ref D) "__getattribute__"=some (some (.builtin "BaseException.__getattribute__"))
 gn:PySem.W.findIn K (.ref D) "__getattr__"=some none
section
variable{DH:Program} {wd:World} {Ar:Around} {K:qG} {s:Shared} {x D:Addr} {ox:Obj} {od:Option Obj} {name:Str} {v:Value}
theorem P_{R:Result->Shared->Prop}{tk:Tok}(X:K.In s.heap)(I:PySem.W.InstAt s.heap x ox D od)(k:Pz K D)(j:PySem.W.findObj K D od name=some (.value v))(h:R (Except.ok (Flow.ret v)) s):
  codeAny (model DH wd) Ar (Code.call (Value.builtin "BaseException.__getattribute__") {pos:=[Value.ref x,Value.str name tk]}) R s:=by
 obtain⟨l,g,d,t,os⟩:=s;obtain⟨m,N,n,o,bs,a,p,sub,r,c,u,w,k1,k2,k3,k5,y,z⟩:=DS X k.q;refine codeAny_call_builtin PySem.F.attrBase_ValueError.ga.plain PySem.F.entry_bexc_ga ?_;have f:=@wpAny_check_slot_inst Ar.in1 (fun e A=>R (Except.error e) A) l g d t os n o D N x bs m a p sub r c u w k1 k2 k3 k5 "ValueError.__new__" (model DH wd) "BaseException.__getattribute__" "BaseException" "__getattribute__" ox [Value.str name tk];refine f jn jo (PySem.F.args_bexc_ga _ _) z I.at_ I.cls y ?_;clear f;unfold Builtin.«object.__getattribute__» slotArgs;generalize b:Builtin.ObjectAttr.find=B;generalize i:Builtin.ObjectAttr.bindTo=C
 repeat (first|(with_reducible refine wpAny_loadPart_at I.at_ ?_;rw[I.cls])|wp_step)
 subst b;refine(PySem.W.looks_find X I j) _ _ _ _ (fun _ _ e=>e) ?_;dsimp only;exact wpAny_pure h
theorem SM{E:Value->Shared->Prop}{Q:Value->Shared->Prop}{ex:Bool}(X:K.In s.heap)(I:PySem.W.InstAt s.heap x ox D od)(k:Pz K D)(a:PySem.W.findObj K D od name=some (.value v))(b:PySem.W.handedIn v=true)(h:Q v {s with toks:=s.toks+1}):
  wpAny (model DH wd) Ar (getAttr (Value.ref x) name ex) Q E s:=by
 unfold getAttr;refine wpAny_bind (wpAny_mkText ?_);unfold getAttrBy;refine wpAny_holding (wpAny_bind ((I.type (h:=s.heap)) _ _ _ _ (fun _ _ e=>e) ?_));refine wpAny_bind ((PySem.W.looks_findIn X k.ga) _ _ _ _ (fun _ _ e=>e) ?_);dsimp only;have c:(Value.builtin "BaseException.__getattribute__"==Value.builtin "object.__getattribute__")=false:=by decide
 rw[c,Bool.and_false,if_neg Bool.false_ne_true];unfold getAttrByItsOwn;refine wpAny_bind ((PySem.W.looks_hook X (mc:=.ref D) (r:=none) k.gn) _ _ _ _ (fun _ _ e=>e) ?_);refine wpAny_bind (wpAny_attempt (wpAny_holding ?_));unfold callGetattribute boundAndCalled;rw[if_neg (by rw[show onTheHeap (Value.builtin "BaseException.__getattribute__")=false from rfl,Bool.and_false];decide),PySem.F.attrBase_ValueError.ga.bind];refine wpAny_bind (wpAny_pure ?_);refine wpAny_call (P_ (s:={s with toks:=s.toks+1}) X I k a ?_);exact PySem.W.handed_on b h
end
end L2
namespace L2
open PySem PySem.Spec PyProof.Rows
variable{H:Hp}{a C f:Addr}{w:World}{P:Program}{d:Option Addr}{h h':Heap}{vs:Array Value}{oe:Obj}
section
variable {H':Hp} {h0:Heap} {e T:Addr} {o:HO}
structure FR(z:Prop)(d:Option Addr)(H:Hp)(h0 h:Heap)(e C:Addr)(oe:Obj)(vs:Array Value)(T:Addr):Prop where
 at_:h.get? e=some oe
 cls:oe.cls=.ref C
 dict:oe.dict=d
 data:oe.data=.fields vs
 sz:1<vs.size
 one:vs[1]?=some (.ref T)
 two:vs[2]?=some .none∨z
 ne:T≠e
 ent:Entry h T .none
 He:H e=none
 HT:H T=none
 bL:h0.get? e=none
 jr:h0.get? T=none
def ER(P:Program)(w:World):HZ:=fun outer H s E e b=>∃(c C:Addr)(d:Option Addr)(H':Hp),e=.ref c/\b.os=s.os/\AllBare b.gens/\Un (II outer) [] H H' s.heap b.heap/\Cf P w H' b.heap/\(∃f g T,FR (E .none d H') d H' s.heap b.heap c C f g T)/\E (.ref C) d H'
theorem FR.next{z:Prop}(cls:oe.cls=.ref C)(dict:oe.dict=d)(data:oe.data=.fields vs)(sz:1<vs.size)(n:vs[2]?=some .none∨z)(p:H e=none)(g:h0.get? e=none)(i:Cf P w H h)(r:∀b o,h0.get? b=some o->∃l,h.get? b=some l)(j:h.get? f=none)(k:∃o,h.get? e=some o)(s:h'.get? e=some (oe.mapFields (·.setIfInBounds 1 (.ref f))))(t:Entry h' f .none):∃oe vs T,FR z d H h0 h' e C oe vs T:=by
 have u:h0.get? f=none:=by
  cases z:h0.get? f with
  |none=>rfl
  |some o=>
   obtain⟨l,m⟩:=r f o z;rw[j]at m;cases m
 refine⟨_,_,f,s,(Obj.cls_mapFields _ _).trans cls,?_,Obj.data_mapFields data _,by simpa using sz,by simp[sz],by rw[Array.getElem?_setIfInBounds_ne (by decide)];exact n,fun z=>?_,t,p,i.none_of j,g,u⟩
 ·obtain⟨c,d,v,x⟩:=oe;cases data;exact dict
 ·obtain⟨o,q⟩:=k;rw[<-z,j]at q;cases q
end
variable{s s':Shared}{pins:List (Addr×Obj)}{X:Cx}{M:Model}{σ:St}
section
variable {E:XK} {e:Value}
theorem P'{u:Value->Shared->Prop}(c:X.stack=X.env::X.outer)(k:X.env.frame=some X.env.locals)(hex:X.ex=[])(I:Inv X pins σ H s)(h:ER X.prog X.w X.stack H s E e s'):
  wpAny M X.A (leaving X.env e) (fun _ l=>ER X.prog X.w X.outer X.H₀ X.s₀ E e l) u s':=by
 obtain⟨m,C,d,j,rfl,os,bare,un,f,⟨B,D,T,F⟩,q⟩:=h;have i:Inv X pins σ j s':=I.HW os un f bare (fun b z=>absurd z (by simp));have p:=i.stack;rw[c]at p;have g:∀b,s.heap.get? b=none->X.s₀.heap.get? b=none:=fun b n=>by
  cases z:X.s₀.heap.get? b with
  |none=>rfl
  |some o=>
   obtain⟨G,r⟩:=I.base.there b o z (by rw[hex];simp);rw[n]at r;cases r
 have t:Un (II X.outer) [] X.H₀ j X.s₀.heap s'.heap:=by
  have:=i.base;rw[hex]at this;exact this
 refine leaveX (by rw[<-c];exact I.ok.frames) p k F.at_ F.data F.sz (.inr ⟨T,F.one,F.ne,F.ent,rfl⟩) fun J K st v x y=>?_;have new:∀b∈[m,T],X.s₀.heap.get? b=none/\j b=none:=fun b a=>by
  simp only[List.mem_cons,List.not_mem_nil,or_false]at a;rcases a with rfl|rfl
  ·exact⟨g _ F.bL,F.He⟩
  ·exact⟨g _ F.jr,F.HT⟩
 rw[<-c]at st;refine⟨m,C,d,j,rfl,i.os,i.bare,t.Vd st (fun b a=>(new b a).1) (fun b a=>?_),f.Vd st (fun b a=>(new b a).2) i.DP,FR.next F.cls F.dict F.data F.sz F.two F.He (g _ F.bL) f (fun b o z=>t.there b o z (by simp)) v ⟨_,F.at_⟩ x y,q⟩;rcases List.mem_cons.mp (I.ES b a)with z|z
 ·right
  rw[z];exact Heap.get?_none_of_le I.ok.above
 ·exact .inl z
theorem Ks{n:Value->Shared->Prop}{t:Addr}(c:X.stack=X.env::X.outer)(h:X.env.frame=some X.env.locals)(hex:X.ex=[])(I:Inv X pins σ H s)(j:s.heap.get? f=some oe)(p:oe.cls=.ref C)(r:oe.dict=d)(a:oe.data=.fields #[.ref t,.none,.none,.none,.bool false,.none])(k:H f=none)(l:X.s₀.heap.get? f=none)(q:E (.ref C) d H):
  wpAny M X.A (leaving X.env (.ref f)) (fun _ i=>ER X.prog X.w X.outer X.H₀ X.s₀ E (.ref f) i) n s:=by
 have u:s.heap.FunFrames X.base (X.env::X.outer):=by rw[<-c];exact I.stack
 have m:Un (II X.outer) [] X.H₀ H X.s₀.heap s.heap:=by
  have:=I.base;rw[hex]at this;exact this
 refine leaveX (s:=s) (S:=[]) (by rw[<-c];exact I.ok.frames) u h j a (by simp) (.inl ⟨rfl,rfl⟩) fun B D st v x y=>?_;rw[<-c]at st;refine⟨f,C,d,H,rfl,I.os,I.bare,m.Vd st (fun b g=>by rw[List.mem_singleton.mp g];exact l) (fun b g=>?_),I.Al.Vd st (fun b g=>by rw[List.mem_singleton.mp g];exact k) I.DP,
  FR.next p r a (by simp) (.inl rfl) k l I.Al (fun b o z=>m.there b o z (by simp)) v ⟨_,j⟩ x y,q⟩
 rcases List.mem_cons.mp (I.ES b g)with z|z
 ·right
  rw[z];exact Heap.get?_none_of_le I.ok.above
 ·exact .inl z
theorem cb{L:Value->Shared->Prop}{G:Shared->Prop}(f:X.stack=X.env::X.outer)(x:X.env.frame=some X.env.locals)(I:Inv X pins σ H s)(h:ER X.prog X.w X.stack H s E e s')(k:∀(ea C:Addr) (d:Option Addr) (c:Hp) (i:Heap) (oe:Obj) (vs:Array Value) (T:Addr),e=.ref ea->E (.ref C) d c->FR (E .none d c) d c s.heap i ea C oe vs T->(∀j:Heap,(∀b,b≠T->j.get? b=i.get? b)->Entry j T .none->Inv X pins σ c {s' with heap:=j})->G {s' with heap:=i}):
  wpAny M X.A (noteFrame e X.env) (fun _ m=>wpAny M X.A (setFlight e none) (fun _ n=>G n) L m) L s':=by
 obtain⟨l,C,d,c,rfl,os,bare,un,g,⟨oe,vs,T,F⟩,q⟩:=h;have N:Inv X pins σ c s':=I.HW os un g bare (fun b z=>absurd z (by simp));have O:=N.stack;rw[f]at O;refine Xc (by rw[<-f];exact I.ok.frames) O x F.at_ F.data F.sz (.inr ⟨T,F.one,F.ne,F.ent,rfl⟩) fun P y st p B Q=>?_;have r:l≠y:=fun z=>by rw[<-z,F.at_]at p;cases p
 refine OH (s:={s' with heap:=P}) B (Obj.data_mapFields F.data _) (T:=y) (by simp[F.sz]) Q fun i k1 k2=>?_;rw[<-f]at st;obtain⟨D,J,u,v⟩:=FR.next (h:=s'.heap) (h':=i) F.cls F.dict F.data F.sz F.two F.He F.bL g (fun b o z=>un.there b o z (by simp)) p ⟨_,F.at_⟩ ((k1 l r).trans B) k2;have R:u=y:=by
  have z:=v.at_;rw[(k1 l r).trans B]at z;cases z;have z1:=v.data;rw[Obj.data_mapFields F.data]at z1;cases z1;have z2:=v.one;simp[F.sz]at z2;exact z2.symm
 subst R;refine k l C d c i D J u rfl q v fun j a1 a2=>?_;have new:∀b∈[l,T],s.heap.get? b=none/\c b=none:=fun b a=>by
  simp only[List.mem_cons,List.not_mem_nil,or_false]at a;rcases a with rfl|rfl
  ·exact⟨F.bL,F.He⟩
  ·exact⟨F.jr,F.HT⟩
 have t:bK [l,T] (II X.stack) s'.heap j:=⟨fun b o q S K=>by
   have a:b≠u:=fun z=>by rw[z,p]at q;cases q
   rw[a1 b a,k1 b a];exact st.keep b o q S K,fun b o q K=>by
   have a:b≠u:=fun z=>by rw[z,p]at q;cases q
   obtain⟨U,z⟩:=st.slot b o q K;exact⟨U,by rw[a1 b a,k1 b a];exact z⟩⟩
 exact I.HW (s':={s' with heap:=j}) os (un.Vd t (fun b a=>(new b a).1) fun b a=>.inl a) (g.Vd t (fun b a=>(new b a).2) N.DP) bare (fun b z=>absurd z (by simp))
end
variable{mg:Str->Option Value}{A:Around}{K:qG}{scope:Scope}{outer:List Env}{N:List Str}{base:Heap}{qual:Str}
section
theorem Xe{a:Value}{E:XK}:Passes (ER P w) (CO (ER P w) P w K mg base N qual scope f a A outer s H E) E:=
 fun pins b c d e g I h=>P' (X:=CO (ER P w) P w K mg base N qual scope f a A outer s H E) rfl rfl rfl I h
theorem gw{a:Value}{E:XK}:PassesOwn (model P w) (CO (ER P w) P w K mg base N qual scope f a A outer s H E).A (CO (ER P w) P w K mg base N qual scope f a A outer s H E).env (CO (ER P w) P w K mg base N qual scope f a A outer s H E).xe:=
 PassesOwn.leaving
end
def cf(ea C:Addr)(d:Option Addr)(h:Heap):Prop:=∃(a:Obj)(t:Addr),h.get? ea=some a/\a.cls=.ref C/\a.dict=d/\a.data=.fields #[.ref t,.none,.none,.none,.bool false,.none]
def Dr(ea C:Addr)(d:Option Addr):HO:=.ext (cf ea C d)
def lY(b:Addr)(fs:List (Str×V))(h:Heap):Prop:=∃a,h.Ns1 b a/\(∀f,Cg (fs.lookup f) (a f))/\Within a (fs.map (·.1))
def OJ(a:Addr)(fs:List (Str×V)):HO:=.ext (lY a fs)
variable{m:Str->Option Value}
theorem SN{b c:Heap}(n:b.Ns1 a m)(k:∀o,b.get? a=some o->c.get? a=some o):c.Ns1 a m:=by
 obtain⟨o,d,f,e,r⟩:=n;exact⟨o,d,f,k o e,r⟩
variable{ob:Obj}
section
variable {u:HO}
theorem Inv.Im(I:Inv X pins σ H s)(g:s.heap.get? a=some ob)(ok:Ah X.prog X.w (upd H a u) s.heap a u)(h:H a=none)(i:X.s₀.heap.get? a=none)(j:a≠X.env.locals)(k:∀v,ob.data≠.cell v)(l:∀p∈X.pn++pins,p.1≠a):
  Inv X pins σ (upd H a u) s:=by
 have d:∀{b:Addr}{o:HO},H b=some o->upd H a u b=some o:=fun q=>by rw[AH (AY q h)];exact q
 refine⟨I.ok,I.os,I.bare,⟨I.base.keep,I.base.slot,fun b o q n m=>?_,I.base.there,fun b xs q=>d (I.base.Dl b xs q),fun b o u q=>d (I.base.DV b o u q),fun b r q=>?_⟩,I.loc,I.cell,?_,fun y c q=>?_,fun p f=>?_,fun b o q=>?_,I.len⟩
 ·have e:b≠a:=fun z=>by rw[z,i]at q;cases q
  rw[AH e];exact I.base.free b o q n m
 ·obtain⟨more,z⟩:=I.base.Du b r q;exact⟨more,d z⟩
 ·rw[AH (Ne.symm j)];exact I.free
 ·have e:c≠a:=fun z=>by
   obtain⟨v,o,z1,z2⟩:=I.cell y c q;rw[z,g]at z1;cases z1;exact k _ z2
  rw[AH e];exact I.BS y c q
 ·obtain⟨t,x,A⟩:=I.pin p f;exact⟨t,by rw[AH (l p f)];exact x,A⟩
 ·by_cases e:b=a
  ·subst e;rw[AD]at q;cases q;exact ok
  ·rw[AH e]at q;exact(I.Al b o q).FG (fun _ _ _ z=>z) (fun _ z=>d z) fun _ _ z=>d z
end
structure Io(K:qG)(C:Addr)(f:Str):Prop where
 sa:PySem.W.findIn K (.ref C) "__setattr__"=some (some (.builtin "object.__setattr__"))
 ov:(PySem.W.clsIn K C).any (fun cd=>GV cd.mro)=true
 hd:(PySem.W.clsIn K C).any (·.hasDict)=true
 nt:PySem.W.takerIn K C f=some none
inductive cg(K:qG)(f:Str)(x y:V)(H:Hp)(N:Hp->Prop):Prop
 |mk(ea C:Addr)(e:x=.ref ea)(h:H ea=some (Dr ea C none))(k:Io K C f)(q:∀a,H a=none->a≠ea->N (upd (upd H ea (Dr ea C (some a))) a (OJ a [(f,y)])))
variable{E:Value->Shared->Prop}{ea:Addr}{y:V}
section
variable {f:Str} {u:Value} {Q:Unit->Shared->Prop} {dx:Addr}
theorem SO(hex:X.ex=[])(I:Inv X pins σ H s)(h:H ea=some (Dr ea C none))(k:Io X.K C f)(G:RelV y u)(q:∀dx s',H dx=none->dx≠ea->Inv X pins σ (upd (upd H ea (Dr ea C (some dx))) dx (OJ dx [(f,y)])) s'->Q () s'):
  wpAny (model X.prog X.w) A (setAttr (.ref ea) f u) Q E s:=by
 obtain⟨⟨L,t,n,r,hd,a⟩,_⟩:=I.Al _ _ h;have J:PySem.W.InstAt s.heap ea L C none:=⟨n,r,by unfold PySem.W.notCls;rw[a],by rw[hd];trivial⟩;refine PySem.W.set_plain I.CH J k.sa (Py (s:={s with toks:=s.toks+1}) I.CH J k.ov k.hd k.nt fun h' c d B M=>?_);have D:s.heap.objs.size≠ea:=Ne.symm (Nat.ne_of_lt (Heap.lt_size n));have N:=I.write (x:=ea) (e:=ea) (o:=Dr ea C (some s.heap.objs.size)) (h':=h') (t':=c) (by rw[h];exact True.intro) (.inl rfl) M ⟨_,d⟩
  ⟨⟨_,t,d,r,rfl,a⟩,⟨_,d⟩,fun k1 k2 ⟨i,t',z1,z2⟩ kk=>⟨i,t',kk i z1,z2⟩⟩
 obtain⟨O,Y,Z,b,j,l⟩:=id B;have P:Within (fun z=>if z=f then some u else none) [f]:=Within.cons f u Within.nil;refine q s.heap.objs.size _ I.fresh D (N.Im (ob:=O) b ⟨⟨_,B,fun g=>?_,P⟩,⟨_,b⟩,fun k1 k2 ⟨m,z1,z2⟩ kk=>⟨m,SN z1 kk,z2⟩⟩ (by rw[AH D];exact I.fresh) ?_ ?_ (fun v z=>by rw[j]at z;cases z) fun p R z=>?_)
 ·show Cg (List.lookup g [(f,y)]) (if g=f then some u else none);by_cases e:g=f
  ·subst e;simp;exact G
  ·have:(g==f)=false:=by simpa using e
   simp[List.lookup_cons,this,e];trivial
 ·cases z:X.s₀.heap.get? s.heap.objs.size with
  |none=>rfl
  |some o=>
   obtain⟨i,S⟩:=I.base.there _ o z (by rw[hex];simp);exact absurd (Heap.lt_size S) (Nat.lt_irrefl _)
 ·obtain⟨m,⟨o,T,U,F,_⟩,_⟩:=I.loc;exact fun z=>by rw[<-z]at F;exact absurd (Heap.lt_size F) (Nat.lt_irrefl _)
 ·have:=(I.pin p R).1;rw[z]at this;exact absurd (Heap.lt_size this) (Nat.lt_irrefl _)
end
variable{o:Expr}
section
variable {value:Expr} {ta tv:TE} {f:Str} {pos pos':Pos}
def Yw(K:qG)(ta tv:TE)(f:Str):TS:=fun D a H=>tv a H fun y b=>ta a b fun x c=>cg K f x y c (D.nx a)
theorem GW(hex:X.ex=[])(b:PE X o ta)(c:PE X value tv)(d:swapsWith value (some (.Attribute o f pos')) pos.line X.env=pure false):PS X (.Assign [.Attribute o f pos'] value pos) (Yw X.K ta tv f):=by
 intro pins s a H D I h;refine plainObj_wpAny_Assign_Attribute (Aw (c pins s a H _ I h) fun u e z1=>z1.elim fun y g i j l=>Aw (b pins e a g _ i l) fun m E z2=>z2.elim fun x F n p r=>?_) d;obtain⟨t,C,rfl,v,k,q⟩:=r;obtain rfl:m=Value.ref t:=p;exact SO hex n v k j fun w G z A B=>⟨a,_,B,q w z A⟩
end
theorem QA{f:Str}{u:Value}{od:Obj}(n:h.Ns1 a m)(e:m f=some u)(g:h.get? a=some od):PySem.W.lookIn f od=some (some u):=by
 obtain⟨o,k,l,b,c,_,_,d⟩:=n;rw[g]at b;cases b;have:=(d f).trans e;unfold nsFind findBy at this;rw[<-Array.find?_toList]at this;obtain⟨p,i,j⟩:=Option.map_eq_some_iff.mp this;unfold PySem.W.lookIn;rw[c];dsimp only;rw[i,<-j]
def Kt(ea C:Addr)(d:Option Addr):HO:=.ext fun h=>∃a:Obj,h.get? ea=some a/\a.cls=.ref C/\a.dict=d/\PySem.W.notCls a=true
structure SQ(K:qG)(C:Addr)(f:Str):Prop where
 fk:Pz K C
 hd:PySem.W.hasDictIn K C=true
 no:PySem.W.findIn K (.ref C) f=some none
inductive gx(K:qG)(f:Str)(x:V)(H:Hp)(Q:VK):Prop
 |mk(ea C a:Addr)(fs:List (Str×V))(i:Int)(e:x=.ref ea)(h:H ea=some (Kt ea C (some a)))(b:H a=some (OJ a fs))(l:fs.lookup f=some (.int i))(k:SQ K C f)(q:Q (.int i) H)
def OK(K:qG)(a:TE)(f:Str):TE:=fun b H Q=>a b H fun x c=>gx K f x c Q
section
variable {e:Expr} {ta:TE} {f:Str} {pos:Pos}
theorem Ip(n:PE X e ta)(o:attributeBase e f X.env (eval e X.env)=eval e X.env):PE X (.Attribute e f pos) (OK X.K ta f):=by
 intro pins s p H Q I h;refine Nl o (Aw (n pins s p H _ I h) fun u y z=>z.elim fun x A c B D=>?_);obtain⟨m,C,S,fs,i,rfl,E,F,l,k,q⟩:=D;obtain rfl:u=Value.ref m:=B;obtain⟨⟨G,L,M,hd,N⟩,_⟩:=c.Al _ _ E;obtain⟨⟨O,a,d,T⟩,_⟩:=c.Al _ _ F;obtain⟨od,U,V,b,P,g⟩:=id a;have J:PySem.W.InstAt y.heap m G C (some od):=⟨L,M,N,by rw[hd];exact b⟩;have r:=d f;rw[l]at r;cases j:O f with
 |none=>rw[j]at r;exact r.elim
 |some w=>
  rw[j]at r;obtain⟨t,rfl⟩:∃t,w=Value.int i t:=r;have R:=PySem.W.findObj_own (K:=X.K) (C:=C) (name:=f) (od:=od) (v:=Value.int i t) (attr:=none) k.hd k.no rfl (QA a j b);exact SM c.CH J k.fk R rfl ⟨.int i,A,c.tok _,⟨t,rfl⟩,q⟩
end
structure E_(K:qG)(D:Addr):Prop where
 fk:Pz K D
 Vg:PySem.W.hasDictIn K D=true
 ha:PySem.W.findIn K (.ref D) "__class__"=some (some (.builtin "object.__class__"))
 hn:PySem.W.specialIn K (.builtin "object.__class__") "__get__"=some (some (.builtin "getset_descriptor.__get__"))
 lZ:PySem.W.takesIn K (.builtin "object.__class__")=some true
 hm:PySem.W.mroIn K D (.type "object")=some true
variable{D:Addr}{od:Option Obj}
theorem cj(k:E_ K D):PySem.W.findObj K D od "__class__"=some (.bind (.builtin "getset_descriptor.__get__") (.builtin "object.__class__")):=by
 obtain⟨b,a,_⟩:=PySem.W.any_some k.Vg;simp only[PySem.W.findObj,a,k.ha,k.hn,k.lZ,Option.bind_some]
variable{R:Result->Shared->Prop}{Ar:Around}{DH:Program}{wd:World}
section
variable {x:Addr} {ox:Obj} 
theorem QB{tk:Tok}(X:K.In s.heap)(I:PySem.W.InstAt s.heap x ox D od)(k:E_ K D)(h:R (Except.ok (Flow.ret (Value.ref D))) s):
  codeAny (model DH wd) Ar (Code.call (Value.builtin "BaseException.__getattribute__") {pos:=[Value.ref x,Value.str (Str.ofString "__class__") tk]}) R s:=by
 obtain⟨j,g,d,t,os⟩:=s;obtain⟨l,N,m,n,bs,a,o,sub,p,f,r,u,k1,k2,k3,k5,v,w⟩:=DS X k.fk.q;have y:=cj (od:=od) k;refine codeAny_call_builtin PySem.F.attrBase_ValueError.ga.plain PySem.F.entry_bexc_ga ?_;have i:=@wpAny_check_slot_inst Ar.in1 (fun e z=>R (Except.error e) z) j g d t os m n D N x bs l a o sub p f r u k1 k2 k3 k5 "ValueError.__new__" (model DH wd) "BaseException.__getattribute__" "BaseException" "__getattribute__" ox [Value.str (Str.ofString "__class__") tk];refine i jn jo (PySem.F.args_bexc_ga _ _) w I.at_ I.cls v ?_;clear i;unfold Builtin.«object.__getattribute__» slotArgs;generalize b:Builtin.ObjectAttr.find=A;generalize c:Builtin.ObjectAttr.bindTo=B
 repeat (first|(with_reducible refine wpAny_loadPart_at I.at_ ?_;rw[I.cls])|wp_step)
 subst b;refine(PySem.W.looks_find X I y) _ _ _ _ (fun _ _ e=>e) ?_;dsimp only;subst c;unfold Builtin.ObjectAttr.bindTo;dsimp only;refine wpAny_bind (wpAny_holding (wpAny_call (PySem.W.class_get X I k.hm ?_)));exact wpAny_pure h
theorem MW{Q:Option Value->Shared->Prop}(X:K.In s.heap)(I:PySem.W.InstAt s.heap x ox D od)(k:E_ K D)(h:Q (some (Value.ref D)) {s with toks:=s.toks+1}):
  wpAny (model DH wd) Ar (getAttr? (Value.ref x) (Str.ofString "__class__")) Q E s:=by
 unfold getAttr?;refine wpAny_bind (wpAny_mkText ?_);unfold getAttrBy?;refine wpAny_bind (wpAny_attempt ?_);unfold getAttrBy;refine wpAny_holding (wpAny_bind ((I.type (h:=s.heap)) _ _ _ _ (fun _ _ e=>e) ?_));refine wpAny_bind ((PySem.W.looks_findIn X k.fk.ga) _ _ _ _ (fun _ _ e=>e) ?_);dsimp only;have a:(Value.builtin "BaseException.__getattribute__"==Value.builtin "object.__getattribute__")=false:=by decide
 rw[a,Bool.and_false,if_neg Bool.false_ne_true];unfold getAttrByItsOwn;refine wpAny_bind ((PySem.W.looks_hook X (mc:=.ref D) (r:=none) k.fk.gn) _ _ _ _ (fun _ _ e=>e) ?_);refine wpAny_bind (wpAny_attempt (wpAny_holding ?_));unfold callGetattribute boundAndCalled;rw[if_neg (by decide),PySem.F.attrBase_ValueError.ga.bind];refine wpAny_bind (wpAny_pure ?_);refine wpAny_call (QB (s:={s with toks:=s.toks+1}) X I k ?_);exact wpAny_pure (wpAny_pure h)
end
section
variable {x:Addr} {ox:Obj} 
theorem Hu(k:E_ K D):PySem.W.KitX K (.ref x) (.ref D) (fun h=>PySem.W.InstAt h x ox D od)where
 ty:=fun _ _ _ I=>I.type
 it:=fun _ _ X _=>by
  obtain⟨la,Yx,_⟩:=PySem.W.any_some k.Vg;unfold PySem.W.clsIn at Yx;split at Yx
  ·rename_i c' d' lg lh ho
   intro A' Q' E' s' kk q;unfold isType loadHead;exact wpAny_bind (wpAny_loadPart (kk _ _ (X _ _ ho)) (wpAny_pure q))
  ·cases Yx
 ne:=fun h tp dd its n sl X lj=>by
  obtain⟨la,Yx,_⟩:=PySem.W.any_some k.Vg;refine Bool.eq_false_iff.mpr fun q=>?_;have e:D=tp:=Value.ref.inj (beq_iff_eq.mp q);subst e;unfold PySem.W.clsIn at Yx;split at Yx
  ·rename_i c' d' lg lh ho
   have z:=(X _ _ ho).symm.trans lj;cases z
  ·cases Yx
 ca:=fun{prog w A E Q s} X I h=>MW X I k h
inductive Iq(K:qG)(C:Addr)(xs:List V)(H:Hp)(Q:VK):Prop
 |mk(ea:Addr)(d:Option Addr)(c:V)(u:Value)(b:Bool)(e:xs=[.ref ea,c])(h:H ea=some (Kt ea C d))(g:d=none∨∃a fs,d=some a/\H a=some (OJ a fs))(i:∀f,RelV c f->f=u)(k:PySem.W.kitOne K (.ref C) u=some b)(q:Q (.bl b) H)
theorem BY(k:E_ X.K C):BG X (.builtin "isinstance") (Iq X.K C):=by
 intro pins s B H xs E Q I r h;obtain⟨e,d,c,u,b,rfl,p,t,v,j,q⟩:=h;cases r with
 |cons w f=>
  cases f with
  |cons y f=>
   cases f;cases(show _=Value.ref e from w);cases v _ y;obtain⟨⟨l,m,n,a,o⟩,_⟩:=I.Al _ _ p;rcases t with rfl|⟨F,fs,rfl,A⟩
   ·have J:PySem.W.InstAt s.heap e l C none:=⟨m,n,o,by rw[a];trivial⟩;exact PySem.W.kia_one (Hu k) I.CH J j (fun z=>nomatch z) fun g=>⟨.bl b,H,I.tok g,rfl,q⟩
   ·obtain⟨⟨G,⟨od,L,M,i,_⟩,_⟩,_⟩:=I.Al _ _ A;have J:PySem.W.InstAt s.heap e l C (some od):=⟨m,n,o,by rw[a];exact i⟩;exact PySem.W.kia_one (Hu k) I.CH J j (fun z=>nomatch z) fun g=>⟨.bl b,H,I.tok g,rfl,q⟩
end
variable{Q:Flow->Shared->Prop}{Ex:Value->Shared->Prop}{dd:Option Addr}{k0 k1 k2 k3 k5:Option Value}{newId:String}{sn:List Str}{cl:Option Bool}{tl sb:List Value}{ab hdc:Bool}{nm qn:Str}{env:Env}
section
variable {N:Addr} {bs:List Value} 
theorem QC{t:Sem Value}(j:tl.contains (.type "BaseException")=true)(k:Ar.handled=none)(h:wpAny M Ar t (fun v a=>∃e oe,v=.ref e/\a.heap.get? C=some (excClassObj nm qn C N bs tl hdc sn sb ab cl dd k0 k1 k2 k3 k5 newId)/\a.heap.get? e=some oe/\oe.cls=.ref C/\(∃t,oe.data=.fields #[.ref t,.none,.none,.none,.bool false,.none])/\Ex (.ref e) a) Ex s):
  wpAny M Ar (raiseStmt env (some t) none) Q Ex s:=by
 have b:(Value.ref C::tl).contains (.type "BaseException")=true:=by rw[List.contains_cons,j,Bool.or_true]
 unfold raiseStmt;refine wpAny_bind (wpAny_mono h (fun v a z=>?_) fun _ _ x=>x);obtain⟨e,oe,rfl,c,l,f,⟨p,i⟩,m⟩:=z;obtain⟨q,r,n,o⟩:=oe;dsimp only at f i;subst f i;obtain⟨u,g,d,w,os⟩:=a
 repeat (first|with_reducible refine wpAny_loadPart_at l ?_|with_reducible refine wpAny_loadPart_at c ?_|(with_reducible refine wpAny_isSubtype_exc c ?_;rw[b])|wp_step)
 exact wpAny_raiseNew_none k m
end
variable{mN:Str->Option Value}{args:List Expr}
section
variable {N:Addr} {bs Yv:List Value} {B Il:String}
theorem QD(F:ExcBaseFacts B newId Il Yv){i:Addr}{x:Str}{m b pos:Pos}(p:tl.contains (.type "BaseException")=true)(q:Ar.handled=none)(j:(backTo b (starEach args env)).any (·.1)=false)(u:mN "__init__"=some (.ref i))(h:wpAny (model DH wd) Ar (eval (.Name x m) env) (fun f n=>f=.ref C/\wpAny (model DH wd) Ar (evalArgs (.ref C) true (backTo b (starEach args env)) []) (fun a c=>a.kw=[]/\a.pos.length<=sizeLine/\c.heap.get? C=some (excClassObj nm qn C N bs tl hdc sn sb ab cl dd k0 k1 k2 k3 k5 newId)/\c.heap.Ns N mN/\OwnTail c.heap Yv tl/\(∃k,c.heap.get? i=some k/\k.cls=.type "function")/\
    ∀h' e,Heap.MadeExcOf c.heap h' e (.ref C) a.pos->wpAny (model DH wd) (Ar.under (.builtin "type.__call__" ⟨.ref C::a.pos,[]⟩)) (call (.ref i) (.ref e::a.pos)) (fun r s'=>r=.none/\s'.heap.get? C=some (excClassObj nm qn C N bs tl hdc sn sb ab cl dd k0 k1 k2 k3 k5 newId)/\(∃oe,s'.heap.get? e=some oe/\oe.cls=.ref C/\∃t,oe.data=.fields #[.ref t,.none,.none,.none,.bool false,.none])/\Ex (.ref e) s') Ex {c with heap:=h'}) Ex n) Ex s):
  wpAny (model DH wd) Ar (exec (.Raise (some (.Call (.Name x m) args [] b)) none pos) env) Q Ex s:=by
 rw[arm_exec_Raise];simp only[evalOpt,Option.map];refine wpAny_bind (wpAny_standAt (QC (C:=C) (nm:=nm) (qn:=qn) (N:=N) (bs:=bs) (tl:=tl) (hdc:=hdc) (sn:=sn) (sb:=sb) (ab:=ab) (cl:=cl) (dd:=dd) (k0:=k0) (k1:=k1) (k2:=k2) (k3:=k3) (k5:=k5) (newId:=newId) p q ?_));refine wpAny_bind (wpAny_mono (wpAny_Call_ofName (wpAny_mono h (fun f n z1=>?_) fun _ _ y=>y)) (fun v L z3=>wpAny_bind (wpAny_standAt (wpAny_pure z3))) fun _ _ y=>y);obtain⟨rfl,z1⟩:=z1;unfold callWith;refine wpAny_bind (wpAny_holding (wpAny_mono z1 (fun a c z2=>wpAny_bind (wpAny_standAt ?_)) fun _ _ y=>y));obtain⟨apos,l⟩:=a;obtain⟨kw,len,o,z,T,⟨k,A,D⟩,z2⟩:=z2;obtain rfl:l=[]:=kw;obtain⟨M,g,d,O,os⟩:=c;simp only[j];refine wpAny_bind (wpAny_keeperOf_exc o ?_);refine wpAny_bind (Kr F T o z u A D len fun h' e E=>wpAny_mono (z2 h' e E) (fun r s' w=>⟨w.1,wpAny_bind (wpAny_holding (wpAny_point (wpAny_pure ?_)))⟩) fun _ _ y=>y);obtain⟨_,G,⟨oe,H,I,J⟩,K⟩:=w;exact⟨e,oe,rfl,G,H,I,J,K⟩
end
def OL(K:qG)(C b:Addr)(o:Obj):Bool:=match o.data with
 | .cls a=>o.cls==.type "type"&&(a.mro.head?==some (.ref C)&&(PySem.W.tailIn K Hs a.mro.tail&&(o.slots.size==6&&(o.slots[4]?==some (some (.builtin "ValueError.__new__"))&&(!a.hasDel&&(PySem.W.nsOkIn K a.ns&&PySem.W.nsIn K a.ns "__init__"==some (some (.ref b))))))))
 |_=>false
def Ds(K:qG)(C a:Addr):Bool:=(K.lookup C).any (OL K C a)
variable{n:Str}
theorem MX{N:Addr}{v:Value}(X:K.In h)(G:h.Ns N mg)(e:PySem.W.nsIn K N n=some (some v)):mg n=some v:=by
 obtain⟨o,j,k,a,b,_,f⟩:=G;unfold PySem.W.nsIn at e;split at e
 ·rename_i c d g l m q
  have:=X _ _ q;rw[a]at this;cases this;cases b;split at e
  ·rename_i p i
   cases e;rw[<-f];unfold nsFind findBy;rw[<-Array.find?_toList,i];rfl
  ·split at e<;>cases e
 ·cases e
theorem OM{d:Addr}(X:K.In h)(q:Ds K C d=true):∃tl N nm qn bs hdc sn sb ab cl dd k0 k1 k2 k3 k5 mN,h.get? C=some (excClassObj nm qn C N bs tl hdc sn sb ab cl dd k0 k1 k2 k3 k5 "ValueError.__new__")/\h.Ns N mN/\mN "__init__"=some (.ref d)/\OwnTail h Hs tl:=by
 obtain⟨o,f,q⟩:=PySem.W.any_some q;obtain⟨c,dd,data,g⟩:=o;cases data with
 |cls i=>
  obtain⟨nm,bs,a,j,qn,k,sn,sub,ab,b,m⟩:=i;simp only[OL,Bool.and_eq_true,beq_iff_eq,Bool.not_eq_true']at q;obtain⟨n,e,p,r,s,t,u,w⟩:=q;cases a with
  |nil=>cases e
  |cons v x=>
   cases e;obtain⟨l⟩:=g;obtain⟨k0,k1,k2,k3,k4,k5,rfl⟩:=Xd (l:=l) r;cases s;subst n t;have N:=Heap.Ns.of_isNs (PySem.W.isNs_of_in X u);exact⟨x,j,nm,qn,bs,k,sn,sub,ab,b,dd,k0,k1,k2,k3,k5,_,X _ _ f,N,MX X N w,PySem.W.tail_of_in X p⟩
 |_=>cases q
section
variable {H3:Hp} {φ:Heap->Prop}
theorem Inv.drop(I:Inv X pins σ H s)(h:H a=some (.ext φ))(n:H3 a=none)(o:∀b,b≠a->H3 b=H b):Inv X pins σ H3 s:=by
 have no:∀{b},H b=none->H3 b=none:=fun{b} z=>by
  by_cases e:b=a
  ·rw[e];exact n
  ·rw[o b e];exact z
 have keep:∀{b u},H b=some u->(∀φ,u≠.ext φ)->H3 b=some u:=fun{b u} z f=>by
  by_cases e:b=a
  ·rw[e,h]at z;cases z;exact absurd rfl (f _)
  ·rw[o b e];exact z
 refine⟨I.ok,I.os,I.bare,⟨I.base.keep,I.base.slot,fun b d q n g=>no (I.base.free b d q n g),I.base.there,fun b xs q=>keep (I.base.Dl b xs q) (fun _ z=>nomatch z),fun b d u q=>keep (I.base.DV b d u q) (fun _ z=>nomatch z),fun b i q=>?_⟩,I.loc,I.cell,no I.free,fun y c q=>no (I.BS y c q),fun p j=>?_,fun b u q=>?_,I.len⟩
 ·obtain⟨more,z⟩:=I.base.Du b i q;exact⟨more,keep z (fun _ z=>nomatch z)⟩
 ·obtain⟨k,l,m⟩:=I.pin p j;exact⟨k,no l,m⟩
 ·have e:b≠a:=fun e=>by rw[e,n]at q;cases q
  rw[o b e]at q;exact(I.Al b u q).FG (fun _ _ _ z=>z) (fun _ z=>keep z (fun _ z=>nomatch z)) fun _ _ z=>keep z (fun _ z=>nomatch z)
end
def ON(X:Cx)(E:XK):Prop:=∀(pins:List (Addr×Obj))(c:St)(H:Hp)(s:Shared)(a C t:Addr)(b:Obj)(d:Option Addr),Inv X pins c H s->s.heap.get? a=some b->b.cls=.ref C->b.dict=d->b.data=.fields #[.ref t,.none,.none,.none,.bool false,.none]->H a=none->X.s₀.heap.get? a=none->E (.ref C) d H->X.xe (.ref a) s
theorem Fc{b:Value}{E:XK}:ON (CO (ER P w) P w K mg base N qual scope f b A outer s H E) E:=
 fun pins j k l m C t n d I c e g a h i q=>Ks (X:=CO (ER P w) P w K mg base N qual scope f b A outer s H E) rfl rfl rfl I c e g a h i q
inductive gy(E:XK)(C ea:Addr)(v:V)(c:Hp):Prop
 |mk(d:Option Addr)(a:Hp)(e:v=.Ae)(h:c ea=some (Dr ea C d))(n:a ea=none)(o:∀b,b≠ea->a b=c b)(q:E (.ref C) d a)
inductive ck(sp:Sp)(E:XK)(C:Addr)(vs:List V)(a:Hp):Prop
 |mk(l:vs.length<=sizeLine)(q:∀ea,a ea=none->sp (.ref ea::vs) (upd a ea (Dr ea C none)) (gy E C ea) E0)
variable{ps:List Str}{fd:FuncData}{k:Nat}{sp:Sp}{ta:TA}
section
theorem DT{x:Str}{R:Addr}{e1:Expr}{l:List Expr}{E:XK}{np f pos:Pos}(hc:X.calm=true)(hex:X.ex=[])(hg:Gl X x)(hm:X.mg x=some (.ref C))(hq:Ds X.K C R=true)(F:AV X.prog X.w X.K X.mg X.base BP k R fd ps sp)(hr:Aq (k+1) X.A)(hb:Binds X.K fd ps [])(S:∃M,X.K.lookup R=some M/\M.cls=.type "function")(hE:ON X E)(ha:PA X (e1::l) ta)(U:(x==("__debug__":Str))=false:=by decide)(he:starEach (e1::l) X.env=(false,eval e1 X.env)::starEach l X.env:=by rfl)(Y:(backTo f (starEach l X.env)).any (·.1)=false:=by rfl):
  PS X (.Raise (some (.Call (.Name x np) (e1::l) [] f)) none pos) (fun D n H=>ta n H fun Z q=>ck sp E C Z q):=by
 intro pins s n H D I h;obtain⟨tl,N,nm,qn,bs,B,sn,sub,ab,W,dd,k0,k1,k2,k3,k5,mN,hC,hN,gz,T⟩:=OM I.ok.mod.Qy hq;refine QD (C:=C) (nm:=nm) (qn:=qn) (N:=N) (bs:=bs) (tl:=tl) (hdc:=B) (sn:=sn) (sb:=sub) (ab:=ab) (cl:=W) (dd:=dd) (k0:=k0) (k1:=k1) (k2:=k2) (k3:=k3) (k5:=k5)
  PySem.F.excBase_ValueError (mN:=mN) (T.hasType jq) (I.ok.hd hc) (by rw[he];exact Y) gz (Bv I hg hm ⟨rfl,?_⟩ U)
 have key:=ha f pins s n H _ I h;rw[he]at key⊢;refine Calls.evalArgs_plain (wpAny_mono key (fun G O h1=>?_) fun _ _ y=>y);obtain⟨Z,q,g,r,hl,q1⟩:=h1;obtain⟨M,lk,g_⟩:=S;refine⟨rfl,by rw[<-r.length];exact hl,g.bk _ _ hC,hN.keeps g.bk,T.keeps g.bk,⟨M,g.CH _ _ lk,g_⟩,fun P c a=>?_⟩;have n0:X.s₀.heap.get? c=none:=by
  cases z:X.s₀.heap.get? c with
  |none=>rfl
  |some o=>
   obtain⟨o',e'⟩:=g.base.there c o z (by rw[hex];simp);rw[a.new]at e';cases e'
 have hH:q c=none:=g.Al.none_of a.new;obtain⟨t,ht,_,_⟩:=a.there;have I2:Inv X pins n q {O with heap:=P}:=g.HW (ch:=[]) (s':={O with heap:=P}) rfl (Un.kept a.keeps) (g.Al.kept a.keeps) g.bare (fun b z=>absurd z (by simp));have nl:c≠X.env.locals:=fun z=>by
  obtain⟨m,⟨o,l,ep,ho,hd,_⟩,_⟩:=g.loc;rw[<-z,a.new]at ho;cases ho
 have I3:Inv X pins n (upd q c (Dr c C none)) {O with heap:=P}:=I2.Im (u:=Dr c C none) ht ⟨⟨_,t,ht,rfl,rfl,rfl⟩,⟨_,ht⟩,fun g1 g2 ⟨o',Q,z1,z2⟩ kk=>⟨o',Q,kk o' z1,z2⟩⟩ hH n0 nl (fun v z=>nomatch z) fun p hp z=>by
  have:=(g.pin p hp).1;rw[z,a.new]at this;cases this
 have rr:Vals (V.ref c::Z) (Value.ref c::G):=.cons rfl r;have q2:=q1 c hH;have bd:=hb {O with heap:=P} (Value.ref c::G) I3.CH (by rw[List.append_nil,<-rr.length];exact F.len _ _ _ _ q2);rw[List.append_nil]at bd;refine wpAny_call (codeAny_mono (F.run _ X.stack _ _ ⟨Value.ref c::G,[]⟩ _ _ _ _ (hr.make C G []) (I3.Pa.make C G []) bd rr q2) fun r' s' i=>?_);cases r' with
 |error e=>exact False.elim i
 |ok fl=>
  cases fl with
  |next=>exact False.elim i
  |brk=>exact False.elim i
  |cont=>exact False.elim i
  |ret u=>
   obtain⟨v,H2,I4,rv,z⟩:=I3.after i;obtain⟨d,H3,rfl,h2,n3,o3,qE⟩:=z;obtain⟨⟨oe,Q,J,L,hF,j⟩,_⟩:=I4.Al _ _ h2;refine⟨rv,I4.bk _ _ hC,⟨oe,J,L,Q,j⟩,?_⟩;exact hE pins n H3 s' c C Q oe d (I4.drop h2 n3 o3) J L hF j n3 n0 qE
end
abbrev TH:=Addr->Option Addr->Ends->St->Hp->Prop
theorem Ee{q:Str}{N:Addr}{bs e:List Value}{a:Bool}{sub:List Value}{c:Option Bool}{b:Bool}(X:K.In h)(g:Bm K C=true)(i:h.get? C=some (excClassObj nm q C N bs e a sn sub ab c dd k0 k1 k2 k3 k5 newId))(d:subIn K C D=b):(Value.ref C::e).contains (.ref D)=b:=by
 cases z:K.lookup C with
 |none=>
  obtain⟨o,f,_⟩:=PySem.W.any_some g;rw[z]at f;cases f
 |some o=>
  have:=X _ _ z;rw[i]at this;cases this;unfold subIn at d;rw[z]at d;exact d
variable{i:Nat}
section
theorem Inv.Vh{u:Option Value}{t':Nat}(I:Inv X pins σ H s)(t:X.N.Nodup)(A:X.N[i]?=some n)(B:∀(j:Nat) (x:Str) (v:V),X.N[j]?=some x->σ[j]?=some (some v)->bS X.env.scope x->∃u,RelV v u/\Look X.env s.heap m x u)(C:h'.Ns X.env.locals (fun x=>if x=n then u else m x))(g:Heap.SameBut X.env.locals s.heap h'):Inv X pins (σ.set i none) H {s with heap:=h',toks:=t'}:=by
 have keep:∀b o,b≠X.env.locals->s.heap.get? b=some o->h'.get? b=some o:=fun b o a q=>(g.2 b a).trans q;have lo:∀{b o},X.s₀.heap.get? b=some o->b≠X.env.locals:=fun e=>Nat.ne_of_lt (Nat.lt_of_lt_of_le (Heap.lt_size e) I.ok.above);refine⟨I.ok,I.os,I.bare,⟨fun b o e n a d=>keep b o (lo e) (I.base.keep b o e n a d),fun b o e n a d=>?_,I.base.free,fun b o e d=>?_,I.base.Dl,I.base.DV,I.base.Du⟩,⟨_,C,fun j y v e1 e2 e3=>?_⟩,fun y c q=>?_,I.free,I.BS,fun p D=>?_,?_,by rw[List.length_set];exact I.len⟩
 ·obtain⟨E,e1⟩:=I.base.slot b o e n a d;exact⟨E,keep b _ (lo e) e1⟩
 ·obtain⟨F,e1⟩:=I.base.there b o e d;exact⟨F,keep b _ (lo e) e1⟩
 ·have l:j≠i:=fun z=>by
   subst z;rw[List.getElem?_set]at e2;split at e2
   ·split at e2<;>cases e2
   ·rename_i w;exact absurd rfl w
  rw[List.getElem?_set_ne (Ne.symm l)]at e2;obtain⟨w,h,lk⟩:=B j y v e1 e2 e3;have G:y≠n:=fun z=>l ((List.getElem?_inj (p' e1).1 t).mp (by rw[e1,A,z]));refine⟨w,h,?_⟩;rcases lk with⟨l1,l2⟩|⟨l1,c,l2,l3⟩
  ·exact .inl ⟨l1,(if_neg G).trans l2⟩
  ·exact .inr ⟨l1,c,l2,l3.sameBut g (I.Us y c l2)⟩
 ·obtain⟨v,z⟩:=I.cell y c q;exact⟨v,z.sameBut g (I.Us y c q)⟩
 ·obtain⟨J,K,r,L,M⟩:=I.pin p D;exact⟨keep p.1 p.2 r J,K,r,L,M⟩
 ·intro b u q;refine(I.Al b u q).FG (fun c w f z=>keep c w (fun k=>?_) z) (fun _ z=>z) fun _ _ z=>z;rcases f with rfl|f
  ·rw[k,I.free]at q;cases q
  ·rw[k,I.free]at f;cases f
end
def PH(X:Cx)(f:List ExceptHandler)(t:TH):Prop:=
 ∀(pins:List (Addr×Obj))(s:Shared)(e:St)(H:Hp)(D:Ends)(g:Heap)(a C T:Addr)(d:Option Addr)(h:Obj)(i:Array Value)(z:Prop),FR z d H g s.heap a C h i T->X.s₀.heap.get? a=none->(∀p∈X.pn++pins,p.1≠a)-> (∀c:Heap,(∀b,b≠T->c.get? b=s.heap.get? b)->Entry c T .none->Inv X pins e H {s with heap:=c})->Bm X.K C=true->t C d D e H->wpAny (model X.prog X.w) X.A (handleBy (.ref a) X.env f) (SP X pins D) X.xe s
def Ends.Vh(D:Ends)(i:Nat):Ends:={nx:=fun a H=>D.nx (a.set i none) H,rt:=D.rt,bk:=fun a H=>D.bk (a.set i none) H,ct:=fun a H=>D.ct (a.set i none) H}
inductive Yy(K:qG)(a:Addr)(i:Nat)(e:TS)(tr:TH)(C:Addr)(d:Option Addr)(D:Ends)(c:St)(H:Hp):Prop
 |hit (b:subIn K C a=true) (q:∀ea,H ea=none->e (D.Vh i) (c.set i (some (.ref ea))) (upd H ea (Kt ea C d))):Yy K a i e tr C d D c H
 |miss (b:subIn K C a=false) (q:tr C d D c H):Yy K a i e tr C d D c H
def cm(K:qG)(a:Addr)(i:Nat)(b:TS)(tr:TH):TH:=fun C d D c H=>Yy K a i b tr C d D c H
variable{es:List Expr}{j:Nat}{z:Str}{zp hp yp tp cp:Pos}{GU:List Stmt}{Dd:Addr}{e0:Expr}
section
variable {x y:Str} {p pos:Pos} {b0:Stmt} {tx:TS} {tr:TH} {rest:List ExceptHandler}
theorem Yz:PH X [] (fun _ _ _ _ _=>False):=fun _ _ _ _ _ _ _ _ _ _ _ _ _ _ _ _ _ _ q=>False.elim q
theorem Vi(hg:Gl X y)(P:X.mg y=some (.ref Dd))(qD:Bm X.K Dd=true)(hN:X.N.Nodup)(hi:X.N[i]?=some n)(R:X.env.scope.names.lookup n=some .local)(S:∀e,G' (X.held e) (b0::GU) tx)(hr:PH X rest tr)(U:(y==("__debug__":Str))=false:=by decide):
  PH X (.ExceptHandler (some (.Name y yp)) (some n) (b0::GU) hp::rest) (cm X.K Dd i tx tr):=by
 intro pins s σ H D h0 a C T d V vs zz F n0 np mk I h;obtain⟨hh,gg,dr,tk,os⟩:=s;have E:=mk hh (fun _ _=>rfl) F.ent;have J:=E.ok.mod.Qy;obtain⟨tl,N,nm,qn,bs,Vg,sn,sub,ab,col,dd,k0,k1,k2,k3,k5,L,_⟩:=DS J I;obtain⟨lq,N',l_,q',l',Y,mB,hG,mC,hI,mD,mE,oV,oW,mF,mG,hD,hB⟩:=DS J qD;refine wpAny_handleBy_cons (codeAny_handlers_test (Bv (X:=X.held (.ref a)) (E.held _) hg P ?_ U)) (by intro z;cases z);cases h with
 |miss b q=>
  refine B_ (M:=model X.prog X.w) (A:=(X.held (.ref a)).A) (E.bk _ _ L) (E.bk _ _ hD) F.at_ F.cls hB (Ee J I L b) ?_;exact hr pins ⟨hh,gg,dr,tk,os⟩ σ H D h0 a C T d V vs zz F n0 np mk I q
 |hit b q=>
  refine B_ (M:=model X.prog X.w) (A:=(X.held (.ref a)).A) (E.bk _ _ L) (E.bk _ _ hD) F.at_ F.cls hB (Ee J I L b) ?_;refine codeAny_handlers_suite_as (OH F.at_ F.data F.one F.ent fun h6 k1 k2=>?_);have O:=mk h6 k1 k2;have e6:h6.get? a=some V:=(k1 a (Ne.symm F.ne)).trans F.at_;have nl:a≠X.env.locals:=fun z=>by
   obtain⟨m,⟨o,es,ep,ho,hd,_⟩,_⟩:=O.loc;rw[<-z,e6]at ho;cases ho;rw[F.data]at hd;cases hd
  have IP:=(O.held (.ref a)).Im (u:=Kt a C d) e6 ⟨⟨V,e6,F.cls,F.dict,by unfold PySem.W.notCls;rw[F.data]⟩,⟨_,e6⟩,fun g1 g2 ⟨o',z1,z2⟩ kk=>⟨o',kk o' z1,z2⟩⟩ F.He n0 nl (fun v z=>by rw[F.data]at z;cases z) np;refine C_ (X:=X.held (.ref a)) IP hN hi (.inl R) (v:=.ref a) rfl (fun s7 I7=>?_) (.inr R);refine wpAny_mono (S (.ref a) pins _ (σ.set i (some (.ref a))) _ (D.Vh i) I7 (q a F.He)) (fun fl s8 z=>?_) fun _ _ z=>False.elim z;have go:∀{c:St}{g:Hp}{Q:Unit->Shared->Prop},Inv (X.held (.ref a)) pins c g s8->(∀G,Inv X pins (c.set i none) g G->Q () G)->wpAny (model X.prog X.w) X.A (do bindName X.env n .none;unbindBehindTheSuite X.env n hp) Q X.xe s8:=fun{c g Q} t k=>by
   have l:=t.Yt O.ok;obtain⟨m,P,Z⟩:=l.loc;exact wpAny_nameGoes_keeps (m:=m) R P (by rw[O.ok.kind];rfl) fun h' v hn hs=>k _ (l.Vh hN hi Z hn hs)
  cases fl with
  |next=>obtain⟨c,g,t,B⟩:=z;exact go t fun G l=>⟨_,_,l,B⟩
  |brk=>obtain⟨c,g,t,B⟩:=z;exact go t fun G l=>⟨_,_,l,B⟩
  |cont=>obtain⟨c,g,t,B⟩:=z;exact go t fun G l=>⟨_,_,l,B⟩
  |ret u=>obtain⟨v,c,g,t,r,B⟩:=z;exact go t fun G l=>⟨v,_,_,l,r,B⟩
end
inductive cn(K:qG)(a:TH)(D:Ends)(b:St)(c:Value)(d:Option Addr)(f:Hp):Prop
 |mk(C:Addr)(e:c=.ref C)(k:Bm K C=true)(q:a C d D b f)
variable{hs:List ExceptHandler}{h1:ExceptHandler}
section
variable {x y:Str} {p pos:Pos} {b0:Stmt} {tx:TS} {th:TH} 
end
section
end
variable{st:Stmt}
section
theorem CT.eu{x:Str}{e:FuncData}(F:CT K x qual st f e)(S:BO N ps (AJ st))(len:∀vs H Q E,sp vs H Q E->vs.length=ps.length)(b:∀(a:Value) (A:Around) (outer:List Env) (s:Shared) (H:Hp) (vs:List V) (Q:VK) (E:XK),Aq k (A.deeper (envOfC qual (AJ st) s.heap.objs.size f a))->sp vs H Q E->
   ∃t,G' (CO (ER P w) P w K mg base N qual (AJ st) f a A outer s H E) (AU st) t/\t {nx:=fun _ g=>Q .Ae g,rt:=Q} (start N vs) H):AV P w K mg base (ER P w) (k+1) f e ps sp:=by
 obtain⟨l,m,kV,h,n,o,a,p,i,rfl,lk,c⟩:=F.ex;exact XZ lk c S len fun A outer s H vs Q E j d=>b a A outer s H vs Q E j d
end
inductive hJ(P:Program)(w:World)(K:qG)(mg:Str->Option Value)(base:Heap)(x:Str)(ps:List Str)(n:Nat)(sp:Sp):Prop
 |mk(f:Addr)(a:FuncData)(k:PySem.W.keepIn K (.ref f)=true)(b:Binds K a ps [])(m:mg x=some (.ref f))(G:AV P w K mg base (ER P w) n f a ps sp)
structure SR(P:Program)(w:World)(K:qG)(mg:Str->Option Value)(base:Heap)(x:Str)(ps:List Str)(n:Nat)(sp:Sp):Prop where
 ex:hJ P w K mg base x ps n sp
theorem SR.mk'{x q:Str}{n:Nat}{a:FuncData}(F:CT K x q st f a)(b:Binds K a ps [])(m:mg x=some (.ref f))(G:AV P w K mg base (ER P w) n f a ps sp):SR P w K mg base x ps n sp:=⟨⟨f,a,F.kp,b,m,G⟩⟩
inductive ew(P:Program)(w:World)(K:qG)(mg:Str->Option Value)(base:Heap)(f:Addr)(ps:List Str)(sp:Sp):Prop
 |mk(a:FuncData)(G:AV P w K mg base BP 1 f a ps sp)(b:Binds K a ps [])(h:∃c,K.lookup f=some c/\c.cls=.type "function")
def ez(K:qG)(D:Addr):Bool:=Bm K D&&(PySem.W.findIn K (.ref D) "__getattribute__"==some (some (.builtin "BaseException.__getattribute__"))&&PySem.W.findIn K (.ref D) "__getattr__"==some none)
def hU(K:qG)(D:Addr):Bool:=ez K D&&(PySem.W.hasDictIn K D&&(PySem.W.findIn K (.ref D) "__class__"==some (some (.builtin "object.__class__"))&&(PySem.W.specialIn K (.builtin "object.__class__") "__get__"==some (some (.builtin "getset_descriptor.__get__"))&&(PySem.W.takesIn K (.builtin "object.__class__")==some true&&PySem.W.mroIn K D (.type "object")==some true))))
def e_(K:qG)(C:Addr)(f:Str):Bool:=PySem.W.findIn K (.ref C) "__setattr__"==some (some (.builtin "object.__setattr__"))&&((PySem.W.clsIn K C).any (fun a=>GV a.mro)&&((PySem.W.clsIn K C).any (·.hasDict)&&PySem.W.takerIn K C f==some none))
def fB(K:qG)(C:Addr)(f:Str):Bool:=ez K C&&(PySem.W.hasDictIn K C&&PySem.W.findIn K (.ref C) f==some none)
theorem Pz.of(h:ez K D=true):Pz K D:=by
 simp only[ez,Bool.and_eq_true,beq_iff_eq]at h;exact⟨h.1,h.2.1,h.2.2⟩
theorem E_.of{K:qG}{D:Addr}(h:hU K D=true):E_ K D:=by
 simp only[hU,Bool.and_eq_true,beq_iff_eq]at h;exact⟨.of h.1,h.2.1,h.2.2.1,h.2.2.2.1,h.2.2.2.2.1,h.2.2.2.2.2⟩
theorem Io.of{f:Str}(h:e_ K D f=true):Io K D f:=by
 simp only[e_,Bool.and_eq_true,beq_iff_eq]at h;exact⟨h.1,h.2.1,h.2.2.1,h.2.2.2⟩
theorem SQ.of{K:qG}{D:Addr}{f:Str}(h:fB K D f=true):SQ K D f:=by
 simp only[fB,Bool.and_eq_true,beq_iff_eq]at h;exact⟨.of h.1,h.2.1,h.2.2⟩
def hV(K:qG)(c:Nat->Addr)(a:Addr)(b:Nat->Addr):Bool:=
 Bm K a&&((List.range 7).all (fun i=>hU K (c i)&&(PySem.W.kitOne K (.ref (c i)) (.type "ValueError")==some true&&(Bm K (c i)&&(subIn K (c i) a&&(List.range 7).all (fun j=>PySem.W.kitOne K (.ref (c i)) (.ref (c j))==some (j==i)&&subIn K (c i) (c j)==(j==i))))))&& ((List.range 2).all (fun i=>SH K (c i) Hs "ValueError.__new__")&&((List.range 5).all (fun i=>Ds K (c (i+2)) (b (i+2))&&(e_ K (c (i+2)) "at"&&fB K (c (i+2)) "at"))&&(e_ K (c 6) "other"&&fB K (c 6) "other"))))
structure Kn(K:qG)(c:Nat->Addr)(cB:Addr)(fi:Nat->Addr):Prop where
 EW:Bm K cB=true
 mH:∀i,i<7->E_ K (c i)
 ve:∀i,i<7->PySem.W.kitOne K (.ref (c i)) (.type "ValueError")=some true
 ex:∀i,i<7->Bm K (c i)=true
 sub:∀i,i<7->subIn K (c i) cB=true
 one:∀i,i<7->∀j,j<7->PySem.W.kitOne K (.ref (c i)) (.ref (c j))=some (j==i)
 hX:∀i,i<7->∀j,j<7->subIn K (c i) (c j)=(j==i)
 plain:∀i,i<2->SH K (c i) Hs "ValueError.__new__"=true
 own:∀i,i<5->Ds K (c (i+2)) (fi (i+2))=true
 sk:∀i,i<5->Io K (c (i+2)) "at"
 gk:∀i,i<5->SQ K (c (i+2)) "at"
 oX:Io K (c 6) "other"
 oY:SQ K (c 6) "other"
theorem Kn.of{K:qG}{c:Nat->Addr}{f:Addr}{g:Nat->Addr}(h:hV K c f g=true):Kn K c f g:=by
 simp only[hV,Bool.and_eq_true,beq_iff_eq,List.all_eq_true,List.mem_range]at h;obtain⟨k,b,l,d,m,n⟩:=h;exact⟨k,fun i a=>.of (b i a).1,fun i a=>(b i a).2.1,fun i a=>(b i a).2.2.1,fun i a=>(b i a).2.2.2.1,fun i a j e=>((b i a).2.2.2.2 j e).1,fun i a j e=>((b i a).2.2.2.2 j e).2,l,fun i a=>(d i a).1,fun i a=>.of (d i a).2.1,fun i a=>.of (d i a).2.2,.of m,.of n⟩
structure Nm(mg:Str->Option Value)(c:Nat->Addr)(cB:Addr):Prop where
 Y_:mg "NoPart"=some (.ref (c 0))
 Y':mg "NoDeed"=some (.ref (c 1))
 Ku:mg "NoRow"=some (.ref (c 2))
 cu:mg "NoFit"=some (.ref (c 3))
 Ir:mg "NoPatch"=some (.ref (c 4))
 ZA:mg "NoText"=some (.ref (c 5))
 cv:mg "Clash"=some (.ref (c 6))
 MY:mg "BoughError"=some (.ref cB)
def Bg(C:Addr):Sp:=fun c H Q _=>∃(a:Addr)(i:Int),c=[.ref a,.int i]/\H a=some (Dr a C none)/\∀b,H b=none->b≠a->Q .Ae (upd (upd H a (Dr a C (some b))) b (OJ b [("at",.int i)]))
def ZC(a:Nat)(one other:Int):List (Str×V):=if a<6 then[("at",.int one)]else[("other",.int other),("at",.int one)]
def Vj(a:Nat)(one other:Int)(d:Option Addr)(H:Hp):Prop:=(a<2/\d=none)∨(2<=a/\∃b,d=some b/\H b=some (OJ b (ZC a one other)))
theorem SS{E:XK}{i:Int}(l:[V.int i].length<=sizeLine)(q:∀a,H a=none->E (.ref C) (some a) (upd H a (OJ a [("at",.int i)]))):ck (Bg C) E C [.int i] H:=
 ⟨l,fun e f=>⟨e,i,rfl,AD,fun a c n=>by
  rw[AH n]at c;refine⟨some a,upd H a (OJ a [("at",.int i)]),rfl,?_,?_,fun b d=>?_,q a c⟩
  ·rw[AH (Ne.symm n),AD]
  ·rw[AH (Ne.symm n)];exact f
  ·by_cases z:b=a
   ·rw[z,AD,AD]
   ·rw[AH z,AH z,AH d,AH d]⟩⟩
noncomputable def CW:V->Bool
 | .str x=>CI x
 | .int i=>decide (0<=i)
 |_=>false
inductive ZD(vs:List V)(H:Hp)(Q:VK):Prop
 |mk(v:V)(T:String)(b:vs=[v])(c:FZ H v T)(d:Short v)(e:∀a,AG H a->Q (.bl (CW v)) a)
def Xf:Sp:=fun a H Q _=>ZD a H Q
inductive QE(H:Hp):V->Option (List V)->Prop
 |no {v:V} {T:String} (t:FZ H v T) (n:IX T "tuple"=false):QE H v none
 |tup {a:Addr} {xs:List V} (h:H a=some (.tup xs)) (l:xs.length<=100) (b:∀x∈xs,(∃T,FZ H x T)/\Short x):QE H (.ref a) (some xs)
noncomputable def hY:Option (List V)->Bool
 |none=>false
 |some xs=>xs.all CW
inductive ZE(vs:List V)(H:Hp)(Q:VK):Prop
 |mk(v:V)(p:Option (List V))(b:vs=[v])(c:QE H v p)(d:∀a,AG H a->Q (.bl (hY p)) a)
def Xg:Sp:=fun a H Q _=>ZE a H Q
variable{v:V}{p:Option (List V)}
theorem QE.up{a:Hp}(h:QE H v p)(s:AG H a):QE a v p:=by
 cases h with
 |no t n=>exact .no (t.same s) n
 |tup h l b=>exact .tup (s _ _ h) l fun x c=>⟨let⟨T,t⟩:=(b x c).1;⟨T,t.same s⟩,(b x c).2⟩
theorem Kv{a:Type}{ps:List a}{f:a->Bool}:∀{e:List V},e.length=ps.length->(∀(i:Nat) v,e[i]?=some v->∃p,ps[i]?=some p/\v=.bl (f p))->e=(ps.map f).map V.bl:=by
 intro e l h;refine List.ext_getElem (by simp[l]) fun i b d=>?_;obtain⟨p,e1,e2⟩:=h i _ (p_ b);have c:i<ps.length:=Nat.lt_of_lt_of_le b (Nat.le_of_eq l);rw[p_ c]at e1;have e1:=qB e1;rw[e2,<-e1];simp
noncomputable def Ef:V->Bool
 | .str _=>true
 | .int i=>decide (i<=20)
 |_=>false
noncomputable def Hv:Option (List V)->Bool
 |none=>false
 |some xs=>xs.all CW&&decide (xs.length<=12)&&xs.all Ef
inductive cw(vs:List V)(H:Hp)(Q:VK):Prop
 |mk(v:V)(p:Option (List V))(b:vs=[v])(c:QE H v p)(d:∀a,AG H a->Q (.bl (Hv p)) a)
def ZF:Sp:=fun a H Q _=>cw a H Q
theorem Iu{xs:List V}(h:Hv (some xs)=true):∀x∈xs,(∃s,x=.str s/\CI s=true)∨∃i:Int,x=.int i/\0<=i/\i<=20:=fun x b=>by
 simp only[Hv,Bool.and_eq_true,List.all_eq_true]at h;have a:=h.1.1 x b;have c:=h.2 x b;cases x with
 |str s=>exact .inl ⟨s,rfl,a⟩
 |int i=>exact .inr ⟨i,rfl,of_decide_eq_true a,of_decide_eq_true c⟩
 |_=>cases a
theorem Fd{xs:List V}(h:Hv (some xs)=true):∀x∈xs,BJ x=true:=fun x a=>by
 rcases Iu h x a with⟨s,rfl,_⟩|⟨i,rfl,_⟩<;>rfl
def Cr:List Str:=["put","take","move","lacks"]
def De(xs:List V):Bool:=match xs.getLast? with|some (.str _)=>true|_=>false
noncomputable def HK(w:Str):Option (List V)->Bool
 |none=>false
 |some xs=>Hv (some xs)&& !(Lh (.str w) (Cr.map V.str)&&xs.isEmpty)&&(!decide (w="lacks")||De xs)
inductive ZG(vs:List V)(H:Hp)(Q:VK):Prop
 |mk(w:Str)(v:V)(p:Option (List V))(b:vs=[.str w,v])(c:QE H v p)(d:∀a,AG H a->Q (.bl (HK w p)) a)
def Xh:Sp:=fun a H Q _=>ZG a H Q
def BZ(xs ys:List V):Bool:=De xs&&HH (ys.take xs.length) xs&&decide (xs.length<ys.length)
inductive Vk(vs:List V)(H:Hp)(Q:VK):Prop
 |mk(a b:Addr)(xs ys:List V)(d:vs=[.ref a,.ref b])(e:H a=some (.tup xs))(f:H b=some (.tup ys))(g:xs≠[])(h:∀z∈xs,BJ z=true)(j:∀z∈ys,BJ z=true)(k:∀z∈xs,(∃s,z=.str s)∨∃i,z=.int i)(l:xs.length<=100)(m:ys.length<=100)(n:∀c,AG H c->Q (.bl (BZ xs ys)) c)
def SU:Sp:=fun a H Q _=>Vk a H Q
def Cs:List Str:=["put","change","ask"]
def Iv:List Str:=["row","table"]
noncomputable def Xi:V->Bool
 | .str s=>Lh (.str s) (Iv.map V.str)
 |_=>false
inductive MZ(H:Hp)(xs:List V):Str->V->Bool->Prop
 |val {w:Str} {v:V} {b:Bool} {n k:Nat} (hw:w∈Cs) (t:Tr H b n k v) (a:n<=900):MZ H xs w v b
 |kind {v:V} {T:String} (t:FZ H v T):MZ H xs "is" v (Xi v)
 |cx {w:Str} {v:V} {p:Option (List V)} (hw:w="copy"∨w="move") (c:QE H v p):MZ H xs w v (Hv p&& !decide (p=some [])&&(decide (w="copy")|| !BZ xs (p.getD [])))
inductive ZH(vs:List V)(H:Hp)(Q:VK):Prop
 |mk(w:Str)(a:Addr)(xs:List V)(v:V)(b:Bool)(d:vs=[.str w,.ref a,v])(e:H a=some (.tup xs))(f:Hv (some xs)=true)(g:w="move"->xs≠[])(h:MZ H xs w v b)(i:∀c,AG H c->Q (.bl b) c)
def Xj:Sp:=fun a H Q _=>ZH a H Q
inductive cy(K:qG)(x y:V)(H:Hp)(Q:VK):Prop
 |mk(a b:Addr)(xs:List V)(c:x=.ref a)(d:y=.ref b)(e:Az K H a xs)(f:Az K H b [])(g:Q (.bl xs.isEmpty) H)
theorem Vl(f:X.A.units<cLine):DC X (compareOp .Eq) (cy X.K):=by
 intro pins s t H x y v u Q I g i h;obtain⟨a,b,xs,rfl,rfl,k,l,q⟩:=h;cases g;cases i;obtain⟨c,m,n,_⟩:=I.tuple k;obtain⟨d,o,p,_⟩:=I.tuple l;cases o;have l1:=m.length;refine SeqAt.eq_tupleAt (e:=fun _=>true) n p f (fun j w r=>absurd r (by simp)) ?_;have e:(((List.range (min c.toArray.size (#[]:Array Value).size)).all fun _=>true)&&c.toArray.size==(#[]:Array Value).size)=xs.isEmpty:=by
  rw[List.size_toArray,<-l1];cases xs<;>simp
 rw[e];exact⟨.bl xs.isEmpty,H,I,rfl,q⟩
structure QF(P:Program)(w:World)(K:qG)(a:Addr)(kvs:List (Key×V)):Prop where
 ne:(a==sysModules)=false
 on:∀h:Heap,K.In h->∃vs,KV kvs vs/\h.DictOf (Ag P w) a vs
inductive js(a:Addr)(kvs:List (Key×V))(f:Option V->Option V)(x y:V)(H:Hp)(Q:VK):Prop
 |mk(k:Key)(v:V)(e:x=.ref a)(b:y=kV k)(g:f (Bs kvs k)=some v)(q:Q v H)
def cz(a:Addr)(kvs:List (Key×V))(ty c:TE):TE:=fun b H Q=>ty b H fun y d=>c b d fun x e=>js a kvs (fun o=>some (.bl o.isSome)) x y e Q
def ZI(a:Addr)(kvs:List (Key×V))(c ty:TE):TE:=fun b H Q=>c b H fun x d=>ty b d fun y e=>js a kvs id x y e Q
variable{kvs:List (Key×V)}
section
variable {i:Expr} {pos:Pos} {td ty:TE} 
theorem Vm(D:QF X.prog X.w X.K a kvs)(e:PE X i ty)(f:PE X o td):PC X .In i o (cz a kvs ty td):=by
 intro pins s c H Q I h;refine Aw (e pins s c H _ I h) fun E j l=>l.elim fun y m n p q=>Aw (f pins j c m _ n q) fun u F ⟨x,r,d,t,k,v,z,A,g,B⟩=>?_;subst z A;obtain rfl:u=Value.ref a:=t;obtain⟨G,b,C⟩:=D.on _ d.CH;refine wpAny_in_of (KO p) D.ne C.mapOf ?_;rw[<-(b.val k).Hi];cases g;exact⟨.bl (Bs kvs k).isSome,r,d.tok _,rfl,B⟩
theorem SV(D:QF X.prog X.w X.K a kvs)(j:PE X o td)(l:PE X i ty)(m:VE i):PE X (.Subscript o i pos) (ZI a kvs td ty):=by
 intro pins s d H Q I h;refine Nv PySem.F.slot_dict_getitem.lookup m (Aw (j pins s d H _ I h) fun u n p=>p.elim fun x q r t z=>Aw (l pins n d q _ r z) fun L M ⟨y,A,e,B,k,v,C,E,g,G⟩=>?_);subst C E;obtain rfl:u=Value.ref a:=t;obtain⟨J,b,f⟩:=D.on _ e.CH;obtain⟨N,hw,c⟩:=Cg.some_of (v:=v) (o:=valueAt J k) (by rw[<-g];exact b.val k);exact⟨f.typeIs,wpAny_getItem_of (KO B) f.mapOf hw ⟨v,A,e.tok _,c,G⟩⟩
end
def Ma:List (Key×V):=[(.inr "put",.int 3),(.inr "take",.int 2),(.inr "change",.int 3),(.inr "move",.int 3),(.inr "copy",.int 3),(.inr "ask",.int 3),(.inr "has",.int 2),(.inr "lacks",.int 2),(.inr "is",.int 3)]
theorem SW{k:Key}(h:Bs Ma k=some v):∃i,v=.int i:=by
 obtain⟨b,a,rfl⟩:=Option.map_eq_some_iff.mp h;have:=List.mem_of_find?_eq_some a;simp only[Ma,List.mem_cons,List.not_mem_nil,or_false]at this;rcases this with rfl|rfl|rfl|rfl|rfl|rfl|rfl|rfl|rfl<;>exact⟨_,rfl⟩
noncomputable def CY:Option (List V)->Bool
 |some (.str w::r)=>match Bs Ma (.inr w)with|some (.int k)=>decide (((r.length+1:Nat):Int)=k)|_=>false
 |_=>false
inductive SX(H:Hp):V->Option (List V)->Prop
 |no {v:V} {T:String} (t:FZ H v T) (n:IX T "tuple"=false):SX H v none
 |tup {a:Addr} {xs:List V} (h:H a=some (.tup xs)) (l:xs.length<=100) (b:∀x,xs.head?=some x->∃T,FZ H x T):SX H (.ref a) (some xs)
inductive Vn(vs:List V)(H:Hp)(Q:VK):Prop
 |mk(v:V)(p:Option (List V))(b:vs=[v])(c:SX H v p)(d:∀a,AG H a->Q (.bl (CY p)) a)
def SY:Sp:=fun a H Q _=>Vn a H Q
theorem ZJ{w:Str}{xs:List V}(h:HK w (some xs)=true):Hv (some xs)=true:=by
 simp only[HK,Bool.and_eq_true]at h;exact h.1.1
theorem ZK{xs:List V}(h:HK "move" (some xs)=true):xs≠[]:=fun z=>by
 subst z;simp only[HK,Bool.and_eq_true]at h;have:Lh (.str "move") (Cr.map V.str)=true:=by decide+kernel
 rw[this]at h;cases h.1.2
theorem MZ.up{H a:Hp}{xs:List V}{w:Str}{v:V}{b:Bool}(h:MZ H xs w v b)(s:AG H a):MZ a xs w v b:=by
 cases h with
 |val hw t c=>exact .val hw (t.up s) c
 |kind t=>exact .kind (t.same s)
 |cx hw d=>exact .cx hw (d.up s)
inductive DX(H:Hp):V->Option Int->Prop
 |Vo {v:V} {p:Option (List V)} (h:SX H v p) (n:CY p=false):DX H v (some 0)
 |first{a:Addr} {w:Str} {y:V} {r:List V} {p:Option (List V)} (h:H a=some (.tup (.str w::y::r))) (l:r.length<=1) (f:CY (some (.str w::y::r))=true) (d:QE H y p) (m:HK w p=false):DX H (.ref a) (some 1)
 |two {a:Addr} {w:Str} {y:V} {p:Option (List V)} (h:H a=some (.tup [.str w,y])) (f:CY (some [.str w,y])=true) (d:QE H y p) (m:HK w p=true):DX H (.ref a) none
 |three {a b:Addr} {w:Str} {xs:List V} {z:V} {c:Bool} (h:H a=some (.tup [.str w,.ref b,z])) (f:CY (some [.str w,.ref b,z])=true) (e:H b=some (.tup xs)) (d:QE H (.ref b) (some xs)) (m:HK w (some xs)=true) (t:MZ H xs w z c):DX H (.ref a) (if c then none else some 2)
inductive QG(c:Nat->Addr)(vs:List V)(H:Hp)(Q:VK)(E:XK):Prop
 |mk(v:V)(a:Option Int)(e:vs=[v])(f:DX H v a)(g:a=none->∀b,AG H b->Q .Ae b)(h:∀i,a=some i->∀d b,AG H b->Vj 2 i 0 d b->E (.ref (c 2)) d b)
def GX(c:Nat->Addr):Sp:=fun a H Q E=>QG c a H Q E
theorem Vp{b:Array DictEntry}{ep:Nat}{vs:List (Key×Value)}(l:K.lookup a=some ob)(ne:(a==sysModules)=false)(ex:ob.ExactDict)(d:ob.data=.dict b ep)(k:KeysOf (Ag P w) b)(p:Pairs (Ag P w) b.toList vs)(c:(vs.map (·.1)).Nodup)(e:KV kvs vs):QF P w K a kvs:=⟨ne,fun _ X=>⟨vs,e,ob,b,ep,X _ _ l,ex,d,k,p,c⟩⟩
def Iw(P:Program)(w:World)(xs:List (Str×Int×Tok×Tok)):List DictEntry:=xs.map fun x=>⟨(Ag P w).hash (.inr x.1),.str x.1 x.2.2.1,.int x.2.1 x.2.2.2⟩
theorem QH{ep:Nat}(xs:List (Str×Int×Tok×Tok))(l:K.lookup a=some ob)(ne:(a==sysModules)=false)(ex:ob.ExactDict)(d:ob.data=.dict (Iw P w xs).toArray ep)(b:(xs.map (·.1)).Nodup):QF P w K a (xs.map fun x=>((.inr x.1:Key),V.int x.2.1)):=by
 refine Vp (vs:=xs.map fun x=>((.inr x.1:Key),Value.int x.2.1 x.2.2.2)) l ne ex d (fun e f=>?_) ?_ ?_ ?_
 ·obtain⟨x,g,rfl⟩:=List.mem_map.mp (show e∈Iw P w xs by simpa using f);exact⟨.inr x.1,by show decide _=true;simp,rfl⟩
 ·show Pairs _ (Iw P w xs) _;clear d b
  induction xs with
  |nil=>exact .nil
  |cons x r c=>exact .cons (by show decide _=true;simp) rfl c
 ·rw[List.map_map];have:(xs.map ((fun y:Key×Value=>y.1)∘fun x=>((.inr x.1:Key),Value.int x.2.1 x.2.2.2)))=(xs.map (·.1)).map Sum.inr:=by rw[List.map_map];rfl
  rw[this];exact List.pairwise_map.mpr (List.Pairwise.imp (fun h e=>h (Sum.inr.inj e)) b)
 ·clear d b
  induction xs with
  |nil=>exact .nil
  |cons x r c=>exact .cons ⟨rfl,⟨_,rfl⟩⟩ c
variable{prog:Program}
section
end
section
variable {xs ys:Array Value}
end
section
variable {xs ys:Array Value}
end
section
end
section
end
open PySem.AutoSeq1 (wpAny_loadPart')
open PySem.MeetsSeq3
variable{b:Addr}
section
def OO(prog:Program)(w:World)(A:Around)(s:Shared)(u v:Value):Prop:=∀(E:Value->Shared->Prop)(Q:Bool->Shared->Prop),Q true s->wpAny (model prog w) A (eqBool u v) Q E s
def c_(prog:Program)(w:World)(A:Around)(s:Shared)(u v:Value):Prop:=∀(E:Value->Shared->Prop)(Q:Value->Shared->Prop),Q (.bool true) s->wpAny (model prog w) A (richCompare .Eq u v) Q E s
theorem OO.of(h:SeqAt.EqAt A s u c true):OO prog w A s u c:=fun E Q a=>h prog w E Q a
theorem OO.refs(h:l≠b->c_ prog w A s (.ref l) (.ref b)):OO prog w A s (.ref l) (.ref b):=fun E Q c=>by
 by_cases e:l=b
 ·subst e;exact SeqAt.EqAt.same _ prog w E Q c
 ·unfold eqBool;refine wpAny_holding ?_;refine wpAny_ite_split (fun a=>absurd (by have:=eq_of_beq a;injection this) e) (fun _=>?_);exact wpAny_bind (h e E _ (wpAny_truthy_bool c))
theorem call_one{T:String}{name:Str}{id:String}{B:Builtin}{self:Value}{rest:List Value}{Q:Value->Shared->Prop}(slot:Slot T name id)(b:s.TypeIs self T)(entry:entryFor table id=some B)(args:argsOk id ⟨self::rest,[]⟩)(g:wpAny (model prog w) A.in1 (B ⟨self::rest,[]⟩) (fun fin s'=>match fin with| .done f=>wants Q E (.ok f) s'| .again a=>a.quiet=true/\codeAny (model prog w) A a (wants Q E) s') (fun e s'=>wants Q E (.error e) s') s):
  wpAny (model prog w) A (call (.builtin id) (self::rest)) Q E s:=wpAny_call (codeAny_call_builtin slot.plain entry (slot.check _ _ _ _ _ _ _ _ b args g))
theorem Sa{t:Nat}{o:Option Addr}{p:Array (Option Value)}(hsz:items.size=O.size)(q:s.heap.get? l=some {cls:=.type "list",dict:=I,data:=.seq items J,slots:=L})(r:s.heap.get? b=some {cls:=.type "list",dict:=o,data:=.seq O t,slots:=p})(u:∀j (E:j<items.size) (F:j<O.size),OO prog w A.in1 s items[j] O[j])(v:R (.ok (.ret (.bool true))) s):
  ∀k i:Nat,items.size-i=k->i<=items.size->codeAny (model prog w) A (.builtin "list.__eq__.loop" ⟨[.ref l,.ref b,rawInt i,rawInt 2],[]⟩) R s:=by
 obtain⟨G,g,d,H,os⟩:=s;intro k
 induction k with
 |zero=>
  intro i x y;have m:i=items.size:=by lia
  refine codeAny_builtin entry_eq_loop ?_;rw[Around.under_plainId plain_eq_loop _];wp_walk using wpAny_loadPart' q,wpAny_loadPart' r;have f:items[((i:Nat):Int).toNat]?=none:=by simp;exact Nat.le_of_eq m.symm
  have h:O[((i:Nat):Int).toNat]?=none:=by simp;exact Nat.le_trans (Nat.le_of_eq hsz.symm) (Nat.le_of_eq m.symm)
  rw[f,h];wp_walk using wpAny_loadPart' q,wpAny_loadPart' r;show R (.ok (.ret (.bool (items.size==O.size)))) _;rw[hsz];simpa using v
 |succ k z=>
  intro i x y;refine codeAny_builtin entry_eq_loop ?_;rw[Around.under_plainId plain_eq_loop _];wp_walk using wpAny_loadPart' q,wpAny_loadPart' r;have c:i<items.size:=by lia
  have e:i<O.size:=Nat.lt_of_lt_of_le c (Nat.le_of_eq hsz);have f:items[((i:Nat):Int).toNat]?=some items[i]:=by simp[c]
  have h:O[((i:Nat):Int).toNat]?=some O[i]:=by simp[e]
  have B:((i:Int)+1)=((i+1:Nat):Int):=by push_cast;rfl
  rw[f,h];refine wpAny_bind (u i c e _ _ ?_);wp_walk;rw[B];exact⟨plainId_quiet plain_eq_loop _,z (i+1) (by lia) c⟩
theorem Kw{l:Addr}{items a:Array Value}(p:s.heap.IsList l items)(q:s.heap.IsList b a)(hsz:items.size=a.size)(r:A.units<cLine)(t:∀j (B:j<items.size) (C:j<a.size),OO prog w A.in1 s items[j] a[j]):c_ prog w A s (.ref l) (.ref b):=fun E Q h=>by
 obtain⟨⟨u,D,data,G⟩,i,k,n,m⟩:=id p;obtain⟨⟨o,v,data2,y⟩,c,e,H,f⟩:=id q;simp only at k m e f;subst k m e f;refine wpAny_richCompare_same_room (op:=.Eq) ⟨_,i,rfl⟩ ⟨_,c,rfl⟩ F.slot_list_eq (call_one F.slot_list_eq ⟨_,i,rfl⟩ F.entry_list_eq (F.args_list_eq_2 _ _) ?_) r;obtain⟨I,g,d,J,os⟩:=s;have K:=AutoSeq1.sub_list_list;have z:¬(items.size !=a.size)=true:=by simp[hsz]
 wp_walk using wpAny_loadPart' i,wpAny_loadPart' c;exact⟨plainId_quiet plain_eq_loop _,Sa hsz i c t (show(Value.bool true≠Value.notImplemented)/\Q (.bool true) _ from⟨(fun x=>nomatch x),h⟩) _ 0 rfl (Nat.zero_le _)⟩
theorem Hw(G:s.heap.IsTuple l items)(H:s.heap.IsTuple b Z)(hsz:items.size=Z.size)(I:A.units<cLine)(J:∀j (r:j<items.size) (z:j<Z.size),OO prog w A.in1 s items[j] Z[j]):c_ prog w A s (.ref l) (.ref b):=fun E Q h=>by
 obtain⟨⟨K,S,data,T⟩,t,B,n,C⟩:=id G;obtain⟨⟨D,L,data2,M⟩,k,m,U,o⟩:=id H;simp only at B C m o;subst B C m o;refine wpAny_richCompare_same_room (op:=.Eq) ⟨_,t,rfl⟩ ⟨_,k,rfl⟩ F.slot_tuple_eq (wpAny_call_entry F.slot_tuple_eq ⟨_,t,rfl⟩ F.entry_tuple_eq ?_ (F.args_tuple_eq_2 _ _)) I;obtain⟨N,g,d,O,os⟩:=s;have V:=AutoSeq1.sub_tuple_tuple;wp_walk using wpAny_loadPart' t,wpAny_loadPart' k,wpAny_forIn_list _ (fun rest b u=>b.1=none/\u=⟨N,g,d,O,os⟩/\∃i,rest=(items.toList.zip Z.toList).drop i) _
 case turn=>
  rintro⟨y,x⟩ rest b u ⟨c,rfl,i,p⟩;have e:i<(items.toList.zip Z.toList).length:=by
   rcases Nat.lt_or_ge i (items.toList.zip Z.toList).length with v|v
   ·exact v
   ·rw[List.drop_of_length_le v]at p;cases p
  have r:i<items.size:=by simp at e;exact Nat.lt_of_lt_of_le e (Nat.min_le_left _ _)
  have z:i<Z.size:=Nat.lt_of_lt_of_le r (Nat.le_of_eq hsz);rw[List.drop_eq_getElem_cons e]at p;injection p with q f;have P:y=items[i]:=by have:=congrArg Prod.fst q;simpa using this
  have R:x=Z[i]:=by have:=congrArg Prod.snd q;simpa using this
  subst P R;refine wpAny_bind (J i r z _ _ ?_);wp_walk;exact⟨rfl,rfl,i+1,f⟩
 case fin=>
  rintro⟨X,Y⟩ u ⟨c,rfl,i,p⟩;simp only at c;subst c;wp_walk;exact⟨_,rfl,(fun x=>nomatch x),by simpa[Builtin.Tuple.tupleCompareSizes,hsz]using h⟩
 case h=>
  exact⟨rfl,rfl,0,rfl⟩
theorem FC{a:Type}[DecidableEq a]:∀{q:List (a×Value)}{j:Nat}{t:a}{u:Value},(q.map (·.1)).Nodup->q[j]?=some (t,u)->valueAt q t=some u
 |[],j,t,u=>fun _ h=>by simp at h
 |p::r,0,t,u=>fun _ h=>by
  simp at h;subst h;simp[valueAt]
 |p::r,j+1,t,u=>fun c h=>by
  rw[List.map_cons]at c;obtain⟨g,i⟩:=List.nodup_cons.mp c;have d:r[j]?=some (t,u):=by simpa using h
  have l:¬p.1=t:=fun e=>g (by rw[e];exact List.mem_map.mpr ⟨_,qF d,rfl⟩);have f:=FC i d;unfold valueAt at f⊢;rw[List.find?_cons_of_neg (by simpa using l)];exact f
theorem Sb{P:Type}[DecidableEq P]{knd:PySem.KeyKind prog w P}{y m:List (P×Value)}(ha:(a==sysModules)=false)(hb:(b==sysModules)=false)(O:s.heap.DictOf knd a y)(R:s.heap.DictOf knd b m)(hk:y.map (·.1)=m.map (·.1))(hu:A.units<cLine)(he:∀(j:Nat) k u v,y[j]?=some (k,u)->m[j]?=some (k,v)->OO prog w A.in1 s u v):c_ prog w A s (.ref a) (.ref b):=fun E Q h=>by
 have ll:y.length=m.length:=by have:=congrArg List.length hk;simpa using this
 refine wpAny_richCompare_same_room (op:=.Eq) O.typeIs R.typeIs PySem.F.slot_dict_eq (wpAny_call_entry PySem.F.slot_dict_eq O.typeIs PySem.F.entry_dict_eq ?_ (PySem.F.args_dict_eq_2 _ _)) hu;show wpAny _ _ (Builtin.Dict.dictSlotArgs "__eq__" ⟨[.ref a,.ref b],[]⟩>>=_) _ _ s;refine wpAny_bind ?_;unfold Builtin.Dict.dictSlotArgs;refine wpAny_bind (wpAny_notOrdered_dict O.typeIs ?_);show wpAny _ _ (pure (Value.ref a,Value.ref b)) _ _ s;refine wpAny_pure ?_;refine wpAny_bind (wpAny_isInstance (T:="dict") R.typeIs PySem.F.sub_dict_dict ?_);simp only[Bool.not_true,Bool.false_eq_true,if_false];refine wpAny_bind (wpAny_pure (wpAny_bind (wpAny_pure ?_)));obtain⟨oa,d,ep,n,_,o,S,H,oZ⟩:=O;obtain⟨ob,f,og,p,_,r,I,D,U⟩:=R;have J:y.length=d.size:=by rw[<-H.length];exact Array.length_toList
 have K:m.length=f.size:=by rw[<-D.length];exact Array.length_toList
 refine wpAny_bind ?_;unfold Builtin.Dict.samePairs Builtin.Dict.showsAll;rw[if_neg (show¬(a==sysModules)=true by rw[ha];exact Bool.false_ne_true),if_neg (show¬(b==sysModules)=true by rw[hb];exact Bool.false_ne_true)];refine wpAny_bind (wpAny_pure (wpAny_bind (wpAny_pure ?_)));refine wpAny_bind (wpAny_dictEntries n o ?_);dsimp only;refine wpAny_bind (wpAny_dictEntries p r ?_);rw[if_neg (by rw[<-J,<-K,ll];simp)];refine wpAny_bind (wpAny_dictEpoch n o ?_);refine wpAny_bind ?_;rw[Std.Legacy.Range.forIn_eq_forIn_range'];simp only[Std.Legacy.Range.size,Nat.sub_zero,Nat.add_sub_cancel,Nat.div_one];have fin:∃v,Fin.done (Flow.ret (Value.bool (true==true)))=.done (.ret v)/\v≠.notImplemented/\Q v s:=⟨_,rfl,(fun x=>nomatch x),h⟩;refine wpAny_forIn_list _ (fun rest q V=>V=s/\q=(none,())/\∃i,rest=List.range' i (d.size-i)/\i<=d.size) _ ?_ ?_ _ _ ⟨rfl,rfl,0,by simp,Nat.zero_le _⟩
 ·rintro x rest q V ⟨rfl,rfl,i,L,hi⟩;have g:i<d.size:=by
   rcases Nat.lt_or_ge i d.size with h|h
   ·exact h
   ·rw[Nat.sub_eq_zero_of_le h]at L;simp at L
  obtain⟨rfl,G⟩:x=i/\rest=List.range' (i+1) (d.size-(i+1)):=by
   have e:d.size-i=(d.size-(i+1))+1:=by lia
   rw[e,List.range'_succ]at L;injection L with h1 h2;exact⟨h1,h2⟩
  have z:x<y.length:=by rw[J];exact g
  have M:x<m.length:=Nat.lt_of_lt_of_le z (Nat.le_of_eq ll);obtain⟨k,u,X⟩:∃k u,y[x]=(k,u):=⟨_,_,rfl⟩;obtain⟨t,v,Y⟩:∃k v,m[x]=(k,v):=⟨_,_,rfl⟩;have Z:y[x]?=some (k,u):=by rw[p_ z,X]
  have W:m[x]?=some (t,v):=by rw[p_ M,Y]
  have ek:t=k:=by
   have:=congrArg (fun l=>l[x]?) hk;simp only[List.getElem?_map,Z,W]at this;simpa using this.symm
  subst ek;have hv:=FC U W;refine wpAny_bind (wpAny_dictEntries n o ?_);rw[Array.getElem?_eq_getElem g];obtain⟨B,N⟩:=H.get? (i:=x) (e:=d[x]) (k:=t) (v:=u) (by rw[Array.getElem?_toList];exact Array.getElem?_eq_getElem g) Z;obtain⟨k2,mI,hh⟩:=S d[x] (Array.getElem_mem g);have mJ:k2=t:=knd.inj _ _ _ mI B;rw[mJ]at hh;show wpAny _ _ (holding [d[x].key,d[x].val] _>>=_) _ _ _;rw[hh];refine wpAny_bind (wpAny_holding (wpAny_bind (wpAny_dictFind_of B p r I ?_)));have c:findBy knd.is f t=valueAt m t:=by
   rw[<-D.find t];clear K D I r p;obtain⟨l⟩:=f;simp[findBy]
  cases hj:f.findIdx? fun e=>knd.is t e.key with
  |none=>
   rw[findBy_of_findIdx?,hj,hv]at c;exact nomatch c
  |some j=>
   obtain⟨C,_,_⟩:=Array.findIdx?_eq_some_iff_getElem.mp hj;have mK:f[j].val=v:=by
    rw[findBy_of_findIdx?,hj,hv]at c;simpa[Array.getElem?_eq_getElem C]using c
   refine wpAny_bind (wpAny_dictEntries p r ?_);rw[Array.getElem?_eq_getElem C];refine wpAny_holding ?_;rw[mK,N];refine he x t u v Z W _ _ ?_;show wpAny _ _ (if(!true)=true then _ else _) _ _ _;rw[if_neg (by decide)];refine wpAny_bind (wpAny_dictEpoch n o ?_);rw[if_neg (by simp)];exact wpAny_pure ⟨rfl,rfl,x+1,G,g⟩
 ·rintro q V ⟨rfl,rfl,i,L,hi⟩;exact wpAny_pure (wpAny_pure fin)
end
open PySem.AutoSeq1 (wpAny_loadPart')
open PySem.MeetsSeq3
inductive TK where
 |s (x:Str)
 |o
 |e
inductive Dg(H:Hp):V->TK->Prop
 |str {x:Str} (l:MO x=true):Dg H (.str x) (.s x)
 |one {a:Addr} (h:H a=some (.lst [.int 1])):Dg H (.ref a) .o
 |emp {a:Addr} (h:H a=some (.dK [])):Dg H (.ref a) .e
theorem Dg.up{a:Hp}{k:TK}(h:Dg H v k)(s:AG H a):Dg a v k:=by
 cases h with
 |str l=>exact .str l
 |one h=>exact .one (s _ _ h)
 |emp h=>exact .emp (s _ _ h)
theorem Dg.tr{k:TK}(h:Dg H v k):∃n,n<=900/\Tr H true n 2 v:=by
 cases h with
 |str l=>exact⟨_,by decide,Tr.node (.leaf (.inr ⟨_,rfl,l⟩)) (.nil (k:=1))⟩
 |one h=>exact⟨_,by decide,Tr.node (.row (.inl h)) (CF.cons (Tr.node (k:=0) (.leaf (.inl ⟨1,rfl,by decide⟩)) .nil) .nil)⟩
 |emp h=>exact⟨_,by decide,Tr.node (.tab (kvs:=[]) (ks:=[]) (.inl h) rfl .nil (fun _ z=>nomatch z) (by decide)) (.nil (k:=1))⟩
def hZ(H:Hp)(v:V):Prop:=∀a,v=.ref a->H a=none
inductive Fe(vs:List V)(H:Hp)(Q:VK):Prop
 |int (c:vs=[.int 1]) (q:Q (.int 1) H):Fe vs H Q
 |ju (v:V) (k:TK) (c:vs=[v]) (h:Dg H v k) (q:∀(a:V)(b:Hp),AG H b->hZ H a->Dg b a k->Q a b):Fe vs H Q
def Sd:Sp:=fun a H Q _=>Fe a H Q
inductive Se(vs:List V)(H:Hp)(Q:VK):Prop
 |mk(v:V)(k:TK)(c:vs=[v])(h:Dg H v k)(q:∀(b:V) (a:Hp),AG H a->Dg a b k->Q b a)
def Ct:Sp:=fun a H Q _=>Se a H Q
def h_:List Str:=["put","take","change","move","copy","ask","has","lacks","is"]
def FT(j:Nat):Str:=h_.getD j ""
def OP(j:Nat):Nat:=[2,0,2,1,1,2,0,0,1].getD j 0
def dA(j:Nat):Str:=["Put","Take","Change","Move","Copy","Ask","Has","Lacks","Is"].getD j ""
def Vq(j:Nat):Str:=if j=8 then "kind"else "to"
def dB(a:Addr)(H c:Hp):Prop:=∀b o,b≠a->H b=some o->c b=some o
section
variable(C:Addr) (w f:Str) (vs:List V) (H:Hp) (Q:VK)
inductive Sf:Prop
 |mk(a c:Addr)(y:V)(d:vs=[.ref a,y])(h:H a=some (.ins C c []))(q:∀b (fs:List (Str×V)),dB a H b->b a=some (.ins C c fs)->fs.lookup ("path":Str)=some y->fs.lookup ("told":Str)=none->Q .Ae b):Sf
inductive Sg:Prop
 |mk(a c:Addr)(y z:V)(d:vs=[.ref a,y,z])(h:H a=some (.ins C c []))(q:∀b (fs:List (Str×V)),dB a H b->b a=some (.ins C c fs)->fs.lookup ("path":Str)=some y->fs.lookup f=some z->fs.lookup ("told":Str)=none->Q .Ae b):Sg
inductive Sh:Prop
 |mk(a c:Addr)(y z:V)(k:TK)(e:vs=[.ref a,y,z])(h:H a=some (.ins C c []))(t:Dg H z k)(q:∀b (fs:List (Str×V)) d,dB a H b->b a=some (.ins C c fs)->fs.lookup ("path":Str)=some y->fs.lookup ("value":Str)=some d->Dg b d k->fs.lookup ("told":Str)=none->Q .Ae b):Sh
inductive Si:Prop
 |mk(a d:Addr)(fs:List (Str×V))(y:V)(e:vs=[.ref a])(h:H a=some (.ins C d fs))(p:fs.lookup ("path":Str)=some y)(q:∀b c,AG H c->c b=some (.tup [.str w,y])->Q (.ref b) c):Si
inductive Sj:Prop
 |mk(a d:Addr)(fs:List (Str×V))(y z:V)(e:vs=[.ref a])(h:H a=some (.ins C d fs))(p:fs.lookup ("path":Str)=some y)(t:fs.lookup f=some z)(q:∀b c,AG H c->c b=some (.tup [.str w,y,z])->Q (.ref b) c):Sj
inductive Sk:Prop
 |mk(a e:Addr)(fs:List (Str×V))(y z:V)(k:TK)(g:vs=[.ref a])(h:H a=some (.ins C e fs))(p:fs.lookup ("path":Str)=some y)(t:fs.lookup ("value":Str)=some z)(i:Dg H z k)(q:∀b d c,AG H c->Dg c d k->c b=some (.tup [.str w,y,d])->Q (.ref b) c):Sk
end
def GY(C:Addr):Sp:=fun a H Q _=>Sf C a H Q
def GZ(C:Addr)(f:Str):Sp:=fun a H Q _=>Sg C f a H Q
def Ga(C:Addr):Sp:=fun a H Q _=>Sh C a H Q
def OQ(C:Addr)(w:Str):Sp:=fun a H Q _=>Si C w a H Q
def OR(C:Addr)(w f:Str):Sp:=fun a H Q _=>Sj C w f a H Q
def OS(C:Addr)(w:Str):Sp:=fun a H Q _=>Sk C w a H Q
def QI(cl:Nat->Addr)(j:Nat):Sp:=match OP j with|0=>OQ (cl j) (FT j)|1=>OR (cl j) (FT j) (Vq j)|_=>OS (cl j) (FT j)
def Vr(cl:Nat->Addr)(j:Nat):Sp:=match OP j with|0=>GY (cl j)|1=>GZ (cl j) (Vq j)|_=>Ga (cl j)
def jv(j:Nat):List Str:=match OP j with|0=>["self","path"]|1=>["self","path",Vq j]|_=>["self","path","value"]
inductive iA(P:Program)(w:World)(K:qG)(mg:Str->Option Value)(base:Heap)(k:Nat)(C:Addr)(m:Str)(sp:Sp):Prop
 |mk(f:Addr)(a:FuncData)(c:DW K C)(b:Meth K C m f)(F:AV P w K mg base BP k f a ["self"] sp)(d:Binds K a ["self"] [])
inductive Sl(P:Program)(w:World)(K:qG)(mg:Str->Option Value)(base:Heap)(k:Nat)(x:Str)(C:Addr)(ps:List Str)(sp:Sp):Prop
 |mk(f:Addr)(a:FuncData)(M:Mk K C f)(F:AV P w K mg base BP k f a ps sp)(b:Binds K a ps [])(m:mg x=some (.ref C))
inductive Xk(cl:Nat->Addr)(n:Nat)(m:Str)(sp:Nat->Sp)(x:V)(H:Hp)(Q:VK):Prop
 |mk(j:Nat)(a b:Addr)(fs:List (Str×V))(c:j<n)(e:x=.ref a)(h:H a=some (.ins (cl j) b fs))(l:fs.lookup m=none)(q:sp j [x] H Q E0)
def ZL(cl:Nat->Addr)(n:Nat)(m:Str)(sp:Nat->Sp)(a:TE):TE:=fun b H Q=>a b H fun x c=>Xk cl n m sp x c Q
theorem Sm{n:Nat}{cl:Nat->Addr}{m:Str}{sp:Nat->Sp}{d:TE}{pos apos:Pos}{pl:Sem Bool}(i:PE X o d)(D:∀j,j<n->iA X.prog X.w X.K X.mg X.base k (cl j) m (sp j))(p:Aq k X.A)(r:eval (.Call (.Attribute o m apos) [] [] pos) X.env=(do
   let e<-eval o X.env
   standAt apos.atName
   let(f,first)<-holding [e] (getMethod e m pl)
   callWith pos f first (backTo pos (starEach [] X.env)) (backToKw pos (keywordEach [] X.env))):=by rfl):
  PE X (.Call (.Attribute o m apos) [] [] pos) (ZL cl n m sp d):=by
 intro pins s t H Q I h;refine PySem.W.methodCall_KW (pl:=pl) (Aw (i pins s t H _ I h) fun u E ⟨x,G,b,v,j,a,J,fs,y,z,B,l,q⟩=>?_) r;subst z;obtain rfl:u=Value.ref a:=v;obtain⟨f,L,c,g,F,C⟩:=D j y;refine Fs b B c g l ?_;exact PySem.W.callWith_K0 (first:=[.ref a]) b.CH g.kp (Lv (us:=[.ref a]) (vs:=[.ref a]) F p C .nil Cv b (.cons rfl .nil) q)
def Sn(K:qG)(C b a:Addr):Bool:=
 PySem.W.makesIn K C&&(PySem.W.findIn K (.ref C) "__init__"==some (some (.ref b))&&(PySem.W.isFn K (.ref b)&&(PySem.W.keepIn K (.ref C)&&(PySem.W.findIn K (.ref C) "told"==some (some (.ref a))&&(PySem.W.isFn K (.ref a)&&(PySem.W.keepIn K (.ref a)&&
 (PySem.W.plainGet K C Str.empty&&(PySem.W.hasDictIn K C&&(PySem.W.plainOver K C&&(PySem.W.findIn K (.ref C) "__setattr__"==some (some (.builtin "object.__setattr__"))&&(PySem.W.findIn K (.ref C) "path"==some none&&(PySem.W.findIn K (.ref C) "value"==some none&&
 (PySem.W.findIn K (.ref C) "to"==some none&&PySem.W.findIn K (.ref C) "kind"==some none)))))))))))))
structure Dk(K:qG)(C fI fT:Addr):Prop where
 M:Mk K C fI
 hm:Meth K C "told" fT
 c:DW K C
 n1:AS K C "path"
 n2:AS K C "value"
 n3:AS K C "to"
 n4:AS K C "kind"
theorem Dk.of{g i:Addr}(h:Sn K C g i=true):Dk K C g i:=by
 simp only[Sn,Bool.and_eq_true,beq_iff_eq]at h;obtain⟨j,k,l,m,n,o,p,q,r,a,b,c,d,e,f⟩:=h;exact⟨⟨j,k,l,m⟩,⟨n,o,p⟩,⟨q,r,a,b⟩,c,d,e,f⟩
inductive EJ(H:Hp)(a:Addr)(j:Nat)(y:V):List V->Prop
 |one (t:OP j=0) (h:H a=some (.tup [.str (FT j),y])):EJ H a j y []
 |two {z:V} (t:OP j=1) (h:H a=some (.tup [.str (FT j),y,z])):EJ H a j y [z]
 |val {z:V} {k:TK} (t:OP j=2) (h:H a=some (.tup [.str (FT j),y,z])) (b:Dg H z k):EJ H a j y [z]
inductive Ba(cl:Nat->Addr)(H:Hp)(v:V)(j:Nat)(y:V):List V->Prop
 |one {a b:Addr} {fs:List (Str×V)} (e:v=.ref a) (h:H a=some (.ins (cl j) b fs)) (n:fs.lookup ("told":Str)=none) (p:fs.lookup ("path":Str)=some y) (t:OP j=0):Ba cl H v j y []
 |two {a b:Addr} {fs:List (Str×V)} {z:V} (e:v=.ref a) (h:H a=some (.ins (cl j) b fs)) (n:fs.lookup ("told":Str)=none) (p:fs.lookup ("path":Str)=some y) (t:OP j=1) (f:fs.lookup (Vq j)=some z):Ba cl H v j y [z]
 |val {a b:Addr} {fs:List (Str×V)} {z c:V} {k:TK} (e:v=.ref a) (h:H a=some (.ins (cl j) b fs)) (n:fs.lookup ("told":Str)=none) (p:fs.lookup ("path":Str)=some y) (t:OP j=2) (f:fs.lookup ("value":Str)=some c) (d:Dg H z k) (g:Dg H c k):Ba cl H v j y [z]
inductive Ff(c cl:Nat->Addr)(vs:List V)(H:Hp)(Q:VK)(E:XK):Prop
 |bad (v:V) (i:Int) (e:vs=[v]) (f:DX H v (some i)) (h:∀d b,AG H b->Vj 2 i 0 d b->E (.ref (c 2)) d b):Ff c cl vs H Q E
 |good (a:Addr) (j:Nat) (y:V) (r:List V) (e:vs=[.ref a]) (f:DX H (.ref a) none) (k:j<9) (g:EJ H a j y r) (q:∀v b,AG H b->Ba cl b v j y r->Q v b):Ff c cl vs H Q E
def Mb(c cl:Nat->Addr):Sp:=fun a H Q E=>Ff c cl a H Q E
section
end
inductive Um(K:qG)(H:Hp):V->V->Prop
 |x {u v:V} (h:OD K H 20 u v):Um K H u v
 |e {a b:Addr} (c:H a=some (.dK [])) (d:H b=some (.dK [])):Um K H (.ref a) (.ref b)
inductive HL(K:qG)(H:Hp):List V->List V->Prop
 |nil:HL K H [] []
 |cons {u v:V} {us vs:List V} (h:Um K H u v) (t:HL K H us vs):HL K H (u::us) (v::vs)
variable{ys:List V}
theorem HL.length{xs:List V}(h:HL K H xs ys):xs.length=ys.length:=by
 induction h with
 |nil=>rfl
 |cons _ _ a=>rw[List.length_cons,List.length_cons,a]
theorem HL.get{xs:List V}(h:HL K H xs ys):∀(i:Nat) u v,xs[i]?=some u->ys[i]?=some v->Um K H u v:=by
 induction h with
 |nil=>intro i u v a;cases a
 |cons h _ c=>
  intro i u v a b;cases i with
  |zero=>cases a;cases b;exact h
  |succ i=>exact c i u v a b
theorem Um.at{X:Cx}{pins:List (Addr×Obj)}{o:St}{H:Hp}{s:Shared}{x y:V}(I:Inv X pins o H s)(h:Um X.K H x y){A:Around}{u v:Value}(l:A.units+20<cLine)(m:RelV x u)(n:RelV y v):OO X.prog X.w A s u v:=by
 cases h with
 |x h=>exact .of (h.at I l m n)
 |@e a b p q=>
  cases(show u=Value.ref a from m);cases(show v=Value.ref b from n);obtain⟨z,r,C,d,t⟩:=GC I.Al (.inl p);obtain⟨D,f,B,c,i⟩:=GC I.Al (.inl q);cases d;cases c;exact OO.refs fun _=>Sb r f t i rfl (Nat.lt_of_le_of_lt (Nat.le_add_right _ _) l) fun j k u E g F=>by cases g
theorem ZM{u:V}{k:TK}(h:Dg H u k)(g:Dg H v k):Um K H u v:=by
 cases h with
 |str l=>cases g;exact .x (.self rfl)
 |one h=>cases g with|one g=>exact .x (.lst (n:=19) (Ap.of h) (Ap.of g) rfl fun i x y e f=>by
   cases i with
   |zero=>cases e;cases f;exact .self rfl
   |succ i=>cases e)
 |emp h=>cases g with|emp g=>exact .e h g
theorem Dg.ins{H:Hp}{z:V}{k:TK}{a C b:Addr}{fs:List (Str×V)}{o:HO}(t:Dg H z k)(h:H a=some (.ins C b fs)):Dg (upd H a o) z k:=by
 cases t with
 |str l=>exact .str l
 |one g=>exact .one (by rw[AH (fun e=>by rw[e,h]at g;cases g)];exact g)
 |emp g=>exact .emp (by rw[AH (fun e=>by rw[e,h]at g;cases g)];exact g)
theorem EJ.row{H:Hp}{a:Addr}{j:Nat}{y:V}{r:List V}(g:EJ H a j y r):H a=some (.tup (.str (FT j)::y::r)):=by
 cases g with
 |one _ h=>exact h
 |two _ h=>exact h
 |val _ h _=>exact h
variable{r:List V}
theorem EJ.len(g:EJ H a j y r):(OP j=0->r=[])/\(OP j≠0->∃z,r=[z]):=by
 cases g with
 |one t h=>exact⟨fun _=>rfl,fun n=>absurd t n⟩
 |two t h=>exact⟨fun z=>(by rw[t]at z;cases z),fun _=>⟨_,rfl⟩⟩
 |val t h _=>exact⟨fun z=>(by rw[t]at z;cases z),fun _=>⟨_,rfl⟩⟩
theorem mL{cl:Nat->Addr}{i:Hp}{Q:VK}(s:AG H i)(g:EJ H a j y r)(q:∀v d,AG H d->Ba cl d v j y r->Q v d):
  ∀x c,i x=none->i c=none->c≠x->Vr cl j (.ref x::y::r) (upd (upd i c (.own x)) x (.ins (cl j) c [])) (fun v l=>v=.Ae/\Q (.ref x) l) E0:=by
 intro x c w z C;have k:∀{l:Hp},dB x (upd (upd i c (.own x)) x (.ins (cl j) c [])) l->AG H l:=fun B b o e=>by
  have e1:=s _ _ e;have m:b≠x:=AY e1 w;exact B b o m (by rw[AH m,AH (AY e1 z)];exact e1)
 unfold Vr;cases g with
 |one t h=>
  rw[t];exact⟨x,c,y,rfl,AD,fun d fs B e p n=>⟨rfl,q _ _ (k B) (.one rfl e n p t)⟩⟩
 |two t h=>
  rw[t];exact⟨x,c,y,_,rfl,AD,fun d fs B e p f n=>⟨rfl,q _ _ (k B) (.two rfl e n p t f)⟩⟩
 |val t h u=>
  rw[t];exact⟨x,c,y,_,_,rfl,AD,u.up (k fun b o _ e=>e),fun d fs D B e p f A n=>⟨rfl,q _ _ (k B) (.val rfl e n p t f (u.up (k B)) A)⟩⟩
theorem j9(h:j<9):j=0∨j=1∨j=2∨j=3∨j=4∨j=5∨j=6∨j=7∨j=8:=by lia
inductive iB(H:Hp)(v:V):Prop
 |mk(p:Option (List V))(h:SX H v p)(n:CY p=false)
theorem SX.up{a:Hp}(h:SX H v p)(s:AG H a):SX a v p:=by
 cases h with
 |no t n=>exact .no (t.same s) n
 |tup h l b=>exact .tup (s _ _ h) l fun x e=>let⟨T,t⟩:=b x e;⟨T,t.same s⟩
theorem iB.tup{H:Hp}{a:Addr}{x:V}{r:List V}{T:String}(h:H a=some (.tup (x::r)))(t:FZ H x T)(l:r.length<=99)(f:CY (some (x::r))=false):iB H (.ref a):=⟨_,.tup h (Nat.succ_le_succ l) fun y e=>by cases e;exact⟨T,t⟩,f⟩
def Fg(x:V):Prop:=(∃s,x=.str s/\CI s=true)∨∃i:Int,x=.int i/\0<=i/\i<=20
theorem Kx{xs:List V}(h:∀x∈xs,Fg x)(l:xs.length<=12):Hv (some xs)=true:=by
 simp only[Hv,Bool.and_eq_true,List.all_eq_true,decide_eq_true_eq];refine⟨⟨fun x a=>?_,l⟩,fun x a=>?_⟩
 ·rcases h x a with⟨s,rfl,e⟩|⟨i,rfl,e,_⟩
  ·exact e
  ·exact decide_eq_true e
 ·rcases h x a with⟨s,rfl,e⟩|⟨i,rfl,_,e⟩
  ·rfl
  ·exact decide_eq_true e
theorem Gb{xs:List V}(e:H a=some (.tup xs))(h:∀x∈xs,Fg x)(l:xs.length<=100):QE H (.ref a) (some xs):=.tup e l fun x b=>by
 rcases h x b with⟨s,rfl,n⟩|⟨i,rfl,_⟩
 ·exact⟨⟨_,.str s⟩,fun y e=>by cases e;exact Nat.le_trans (Hn n).2 (by decide)⟩
 ·exact⟨⟨_,.int i⟩,fun y e=>by cases e⟩
theorem QJ{zs:List V}{s:Str}:De (zs++[.str s])=true:=by unfold De;rw[List.getLast?_concat]
theorem Iy{w:Str}{xs:List V}(h:Hv (some xs)=true)(n:xs≠[])(e:w≠"lacks"∨De xs=true):HK w (some xs)=true:=by
 have e1:xs.isEmpty=false:=by cases xs with
  |nil=>exact absurd rfl n
  |cons _ _=>rfl
 simp only[HK,h,e1,Bool.and_false,Bool.not_false,Bool.and_true,Bool.true_and];rcases e with e|e
 ·rw[decide_eq_false e];rfl
 ·rw[e,Bool.or_true]
theorem Fg.flat{x:V}(h:Fg x):BJ x=true:=by
 rcases h with⟨s,rfl,_⟩|⟨i,rfl,_⟩<;>rfl
theorem Vs{zs:List V}{s:Str}(h:∀x∈zs,Fg x)(n:ys≠[]):BZ (zs++[.str s]) (zs++[.str s]++ys)=true:=by
 unfold BZ;rw[QJ,List.take_left];have:decide ((zs++[V.str s]).length<(zs++[V.str s]++ys).length)=true:=by
  refine decide_eq_true ?_;rw[List.length_append (as:=zs++[V.str s])];have:0<ys.length:=List.length_pos_iff.mpr n;exact Nat.lt_add_of_pos_right this
 rw[this,Pr]
 ·rfl
 ·intro x a;rcases List.mem_append.mp a with a|a
  ·exact(h x a).flat
  ·rw[List.mem_singleton.mp a];rfl
theorem iC{w:Str}{xs:List V}(h:H a=some (.tup (.str w::.ref b::r)))(l:r.length<=1)(f:CY (some (.str w::.ref b::r))=true)(c:H b=some (.tup xs))(st:∀x∈xs,Fg x)(d:xs.length<=100)(m:HK w (some xs)=false):DX H (.ref a) (some 1):=.first h l f (Gb c st d) m
theorem ZN{w:Str}{xs:List V}{z:V}(h:H a=some (.tup [.str w,.ref b,z]))(f:CY (some [.str w,.ref b,z])=true)(c:H b=some (.tup xs))(st:∀x∈xs,Fg x)(d:xs.length<=100)(m:HK w (some xs)=true)(t:MZ H xs w z false):DX H (.ref a) (some 2):=.three h f c (Gb c st d) m t
theorem So{xs:List V}(h:H b=some (.tup ys))(st:∀x∈ys,Fg x)(l:ys.length<=100)(e:BZ xs ys=true):MZ H xs "move" (.ref b) false:=by
 have:=MZ.cx (H:=H) (xs:=xs) (w:="move") (v:=.ref b) (p:=some ys) (.inr rfl) (Gb h st l);have e:(Hv (some ys)&& !decide (some ys=some [])&&(decide (("move":Str)="copy")|| !BZ xs ((some ys).getD [])))=false:=by
  show(_&&(decide (("move":Str)="copy")|| !BZ xs ys))=false;rw[e,decide_eq_false (by decide+kernel:¬("move":Str)="copy"),Bool.not_true,Bool.or_false,Bool.and_false]
 rw[e]at this;exact this
theorem DX.up{H b:Hp}{v:V}{i:Option Int}(h:DX H v i)(s:AG H b):DX b v i:=by
 cases h with
 |Vo h n=>exact .Vo (h.up s) n
 |first h l f a m=>exact .first (s _ _ h) l f (a.up s) m
 |two h f a m=>exact .two (s _ _ h) f (a.up s) m
 |three h f c a m t=>exact .three (s _ _ h) f (s _ _ c) (a.up s) m (t.up s)
theorem EJ.up{H b:Hp}{a:Addr}{j:Nat}{y:V}{r:List V}(g:EJ H a j y r)(s:AG H b):EJ b a j y r:=by
 cases g with
 |one t h=>exact .one t (s _ _ h)
 |two t h=>exact .two t (s _ _ h)
 |val t h c=>exact .val t (s _ _ h) (c.up s)
inductive Qw(H:Hp):List V->List V->Prop
 |same {r:List V}:Qw H r r
 |val {z a:V} {k:TK} (b:Dg H z k) (c:Dg H a k):Qw H [z] [a]
theorem Vt{cl:Nat->Addr}{Q:VK}(i:j<9)(d:Ba cl H v j y r)(q:∀b l c,AG H c->c b=some (.tup (.str (FT j)::y::l))->Qw c l r->Q (.ref b) c):Xk cl 9 "told" (QI cl) v H Q:=by
 cases d with
 |@one a g fs e h n p t=>
  subst e;refine⟨j,a,g,fs,i,rfl,h,n,?_⟩;unfold QI;rw[t];exact⟨a,g,fs,y,rfl,h,p,fun b c s f=>q b _ c s f .same⟩
 |@two a g fs z e h n p t f=>
  subst e;refine⟨j,a,g,fs,i,rfl,h,n,?_⟩;unfold QI;rw[t];exact⟨a,g,fs,y,z,rfl,h,p,f,fun b c s f=>q b _ c s f .same⟩
 |@val a g fs z m k e h n p t f o u=>
  subst e;refine⟨j,a,g,fs,i,rfl,h,n,?_⟩;unfold QI;rw[t];exact⟨a,g,fs,y,m,k,rfl,h,p,f,u,fun b z2 c s w f=>q b _ c s f (.val w (o.up s))⟩
def Gd(v:V):Prop:=BJ v=true∨∃a,v=.ref a
theorem Gd.eq(h:Gd v):Um K H v v:=by
 rcases h with h|⟨a,rfl⟩
 ·exact .x (.self h)
 ·exact .x .same
theorem Gd.eqs{K:qG}{H:Hp}:∀{r:List V},(∀z∈r,Gd z)->HL K H r r
 |[],_=>.nil
 |x::r,h=>.cons (h x List.mem_cons_self).eq (Gd.eqs fun z a=>h z (List.mem_cons_of_mem _ a))
theorem Qw.eqs{K:qG}{H:Hp}{r a:List V}(h:Qw H a r)(f:∀z∈r,Gd z):HL K H a r:=by
 cases h with
 |same=>exact Gd.eqs f
 |val b c=>exact .cons (ZM b c) .nil
inductive GR(H:Hp)(v:V):Prop
 |mk(a b:Addr)(j:Nat)(r:List V)(e:v=.ref a)(x:DX H (.ref a) none)(c:j<9)(g:EJ H a j (.ref b) r)(f:∀z∈r,Gd z)
theorem GR.up{H c:Hp}{v:V}(h:GR H v)(s:AG H c):GR c v:=by
 obtain⟨a,b,j,r,e,x,d,g,f⟩:=h;exact⟨a,b,j,r,e,x.up s,d,g.up s,f⟩
theorem dC{xs:List V}(j:Nat)(h:H a=some (.tup [.str (FT j),.ref b]))(c:j<9)(t:OP j=0)(f:CY (some [.str (FT j),.ref b])=true)(d:H b=some (.tup xs))(st:∀x∈xs,Fg x)(l:xs.length<=100)(m:HK (FT j) (some xs)=true):GR H (.ref a):=
 ⟨a,b,j,[],rfl,.two h f (Gb d st l) m,c,.one t h,fun _ z=>nomatch z⟩
theorem iD{xs:List V}{z:V}(j:Nat)(h:H a=some (.tup [.str (FT j),.ref b,z]))(e:j<9)(t:OP j=1)(f:CY (some [.str (FT j),.ref b,z])=true)(d:H b=some (.tup xs))(st:∀x∈xs,Fg x)(l:xs.length<=100)(m:HK (FT j) (some xs)=true)(g:MZ H xs (FT j) z true)(i:Gd z):GR H (.ref a):=
 ⟨a,b,j,[z],rfl,.three (c:=true) h f d (Gb d st l) m g,e,.two t h,fun y k=>by rw[List.mem_singleton.mp k];exact i⟩
theorem iE{xs:List V}{z:V}{k:TK}(j:Nat)(h:H a=some (.tup [.str (FT j),.ref b,z]))(g:j<9)(t:OP j=2)(f:CY (some [.str (FT j),.ref b,z])=true)(e:H b=some (.tup xs))(st:∀x∈xs,Fg x)(l:xs.length<=100)(m:HK (FT j) (some xs)=true)(hw:FT j∈Cs)(d:Dg H z k):GR H (.ref a):=by
 obtain⟨n,i,tr⟩:=d.tr;refine⟨a,b,j,[z],rfl,.three (c:=true) h f e (Gb e st l) m (.val hw tr i),g,.val t h d,fun y o=>?_⟩;rw[List.mem_singleton.mp o];cases d with
 |str _=>exact .inl rfl
 |one _=>exact .inr ⟨_,rfl⟩
 |emp _=>exact .inr ⟨_,rfl⟩
theorem OT{w:Str}{xs:List V}(hw:w="copy"∨w="move")(h:H b=some (.tup ys))(st:∀x∈ys,Fg x)(l:ys.length<=12)(n:ys≠[])(e:w="copy"∨BZ xs ys=false):MZ H xs w (.ref b) true:=by
 have:=MZ.cx (H:=H) (xs:=xs) (w:=w) (v:=.ref b) (p:=some ys) hw (Gb h st (Nat.le_trans l (by decide)));have e:(Hv (some ys)&& !decide (some ys=some [])&&(decide (w="copy")|| !BZ xs ((some ys).getD [])))=true:=by
  rw[Kx st l,decide_eq_false (by simpa using n)];rcases e with rfl|e
  ·rfl
  ·show(_&&(_|| !BZ xs ys))=true;rw[e,Bool.not_false,Bool.or_true];rfl
 rw[e]at this;exact this
theorem HM:entryFor table "proto.unchain"=some Builtin.«proto.unchain»:=entryFor_of_fast (by kernel_rfl)
theorem EK{o:Obj}{vs}{x:Value}{Q:Unit->Shared->Prop}(b:s.heap.get? a=some o)(c:o.data=.fields vs)(d:i<vs.size)(h:Q () {s with heap:=s.heap.update a (Obj.mapFields (·.setIfInBounds i x))}):wpAny M A (updateField a i x) Q E s:=wpAny_setField b c d h
section
variable {N:Addr} {bs:List Value} 
theorem Mc{t c:Sem Value}(l:∀{s':Shared} {D:Value->Shared->Prop},D .none s'->wpAny (model DH wd) Ar c D Ex s')(a:tl.contains (.type "BaseException")=true)(L:Ar.handled=some (.ref ea))(h:wpAny (model DH wd) Ar t (fun v f=>∃e oe,v=.ref e/\f.heap.get? C=some (excClassObj nm qn C N bs tl hdc sn sb ab cl dd k0 k1 k2 k3 k5 newId)/\f.heap.get? e=some oe/\oe.cls=.ref C/\e≠ea/\(∃m n,f.heap.get? ea=some m/\m.data=.fields n/\n[2]?=some .none)/\
   ∃t,oe.data=.fields #[.ref t,.none,.none,.none,.bool false,.none]/\∀h',h'.get? e=some {oe with data:=.fields #[.ref t,.none,.ref ea,.none,.bool true,.none]}->(∀b,b≠e->h'.get? b=f.heap.get? b)->Ex (.ref e) {f with heap:=h'}) Ex s):
  wpAny (model DH wd) Ar (raiseStmt env (some t) (some c)) Q Ex s:=by
 have p:(Value.ref C::tl).contains (.type "BaseException")=true:=by rw[List.contains_cons,a,Bool.or_true]
 unfold raiseStmt;refine wpAny_bind (wpAny_mono h (fun v f z=>?_) fun _ _ x=>x);obtain⟨e,oe,rfl,j,q,E,F,⟨m,n,M,r,O⟩,G,H,P⟩:=z;obtain⟨U,I,R,k⟩:=oe;dsimp only at E H;subst E H;obtain⟨J,g,d,K,os⟩:=f
 repeat (first|with_reducible refine l ?_|with_reducible refine wpAny_loadPart_at q ?_|with_reducible refine wpAny_loadPart_at j ?_|(with_reducible refine wpAny_isSubtype_exc j ?_;rw[p])|wp_step)
 have nC:C≠e:=fun z=>by
  rw[z,q]at j;cases j
 obtain⟨i,e2,u,w⟩:∃i,(J.update e (Obj.mapFields fun x=>x.setIfInBounds 3 Value.none)).update e (Obj.mapFields fun x=>x.setIfInBounds 4 (Value.bool true))=i/\i.get? e=some {cls:=.ref C,dict:=I,data:=.fields #[.ref G,.none,.none,.none,.bool true,.none],slots:=k}/\∀b,b≠e->i.get? b=J.get? b:=by
  refine⟨_,rfl,?_,fun b a=>?_⟩
  ·rw[Heap.get?_update_self (o:=Obj.mapFields (fun x=>x.setIfInBounds 3 Value.none) {cls:=.ref C,dict:=I,data:=.fields #[.ref G,.none,.none,.none,.bool false,.none],slots:=k}) _ (Heap.get?_update_self _ q rfl) rfl];rfl
  ·rw[Heap.get?_update_ne _ _ _ _ a,Heap.get?_update_ne _ _ _ _ a]
 rw[e2];clear e2;have A:=(w C nC).trans j;have B:=(w ea (Ne.symm F)).trans M
 repeat (first|with_reducible refine wpAny_loadPart_at u ?_|with_reducible refine wpAny_loadPart_at A ?_|wp_step)
 unfold raiseNew;refine wpAny_bind (wpAny_handled ?_);rw[L];have S:(Value.ref ea !=Value.ref e)=true:=by
  rw[bne_iff_ne];exact fun z=>F (by injection z with z;exact z.symm)
 have T:wpAny (model DH wd) Ar (runValue (.builtin "proto.unchain" ⟨[.ref e,.ref ea,.ref ea,.bool false],[]⟩)) (fun _ s'=>s'={heap:=i,gens:=g,drawn:=d,toks:=K,os:=os}) Ex {heap:=i,gens:=g,drawn:=d,toks:=K,os:=os}:=by
  refine wpAny_runValue (codeAny_builtin HM ?_);unfold Builtin.«proto.unchain»;refine wpAny_bind (wpAny_field B r O ?_);simp only[beq_self_eq_true,if_true];exact wpAny_pure rfl
 dsimp only;rw[if_pos S];refine wpAny_bind (wpAny_holding (wpAny_mono T (fun _ s' z=>?_) fun _ _ y=>y));subst z;refine wpAny_bind (EK u rfl (show 2<6 by decide) (wpAny_throw ?_));exact P _ (by rw[Heap.get?_update_self _ u rfl];rfl) fun b a=>by rw[Heap.get?_update_ne _ _ _ _ a];exact w b a
theorem Md{k:List Value}{B i:String}(F:ExcBaseFacts B newId i k){l:Addr}{x:Str}{p c pos E:Pos}{G:Nat}(H:tl.contains (.type "BaseException")=true)(I:Ar.handled=some (.ref ea))(m:(backTo c (starEach args env)).any (·.1)=false)(J:mN "__init__"=some (.ref l))(h:wpAny (model DH wd) Ar (eval (.Name x p) env) (fun f u=>f=.ref C/\wpAny (model DH wd) Ar (evalArgs (.ref C) true (backTo c (starEach args env)) []) (fun a j=>a.kw=[]/\a.pos.length<=sizeLine/\j.heap.get? C=some (excClassObj nm qn C N bs tl hdc sn sb ab cl dd k0 k1 k2 k3 k5 newId)/\j.heap.Ns N mN/\OwnTail j.heap k tl/\(∃n,j.heap.get? l=some n/\n.cls=.type "function")/\
    ∀h' e,Heap.MadeExcOf j.heap h' e (.ref C) a.pos->wpAny (model DH wd) (Ar.under (.builtin "type.__call__" ⟨.ref C::a.pos,[]⟩)) (call (.ref l) (.ref e::a.pos)) (fun r s'=>r=.none/\s'.heap.get? C=some (excClassObj nm qn C N bs tl hdc sn sb ab cl dd k0 k1 k2 k3 k5 newId)/\∃oe,s'.heap.get? e=some oe/\oe.cls=.ref C/\e≠ea/\(∃z A,s'.heap.get? ea=some z/\z.data=.fields A/\A[2]?=some .none)/\∃t,oe.data=.fields #[.ref t,.none,.none,.none,.bool false,.none]/\
      ∀h',h'.get? e=some {oe with data:=.fields #[.ref t,.none,.ref ea,.none,.bool true,.none]}->(∀b,b≠e->h'.get? b=s'.heap.get? b)->Ex (.ref e) {s' with heap:=h'}) Ex {j with heap:=h'}) Ex u) Ex s):
  wpAny (model DH wd) Ar (exec (.Raise (some (.Call (.Name x p) args [] c)) (some (.Constant .none G E)) pos) env) Q Ex s:=by
 rw[arm_exec_Raise];simp only[evalOpt,Option.map];refine wpAny_bind (wpAny_standAt (Mc (C:=C) (nm:=nm) (qn:=qn) (N:=N) (bs:=bs) (tl:=tl) (hdc:=hdc) (sn:=sn) (sb:=sb) (ab:=ab) (cl:=cl) (dd:=dd) (k0:=k0) (k1:=k1) (k2:=k2) (k3:=k3) (k5:=k5) (newId:=newId) (ea:=ea) (fun q=>wpAny_bind (wpAny_pure (wpAny_bind (wpAny_standAt (wpAny_pure q))))) H I ?_));refine wpAny_bind (wpAny_mono (wpAny_Call_ofName (wpAny_mono h (fun f u z1=>?_) fun _ _ y=>y)) (fun v Y z3=>wpAny_bind (wpAny_standAt (wpAny_pure z3))) fun _ _ y=>y);obtain⟨rfl,z1⟩:=z1;unfold callWith;refine wpAny_bind (wpAny_holding (wpAny_mono z1 (fun a j z2=>wpAny_bind (wpAny_standAt ?_)) fun _ _ y=>y));obtain⟨apos,o⟩:=a;obtain⟨kw,len,D,K,T,⟨n,L,M⟩,z2⟩:=z2;obtain rfl:o=[]:=kw;obtain⟨Z,g,d,W,os⟩:=j;simp only[m];refine wpAny_bind (wpAny_keeperOf_exc D ?_);refine wpAny_bind (Kr F T D K J L M len fun h' e O=>wpAny_mono (z2 h' e O) (fun r s' w=>⟨w.1,wpAny_bind (wpAny_holding (wpAny_point (wpAny_pure ?_)))⟩) fun _ _ y=>y);obtain⟨_,P,oe,R,S,U,V,X⟩:=w;exact⟨e,oe,rfl,P,R,S,U,V,X⟩
end
section
theorem Inv.Ky(I:Inv X pins σ H s)(n:H a=none)(A:X.s₀.heap.get? a=none)(B:a≠X.env.locals)(j:∀y c,X.env.cells.lookup y=some c->c≠a)(C:∀p∈X.pn++pins,p.1≠a)(o:∀b,b≠a->h'.get? b=s.heap.get? b):Inv X pins σ H {s with heap:=h'}:=by
 have keep:∀b d,b≠a->s.heap.get? b=some d->h'.get? b=some d:=fun b d g q=>(o b g).trans q;have lo:∀{b d},X.s₀.heap.get? b=some d->b≠a:=fun e z=>by rw[z,A]at e;cases e
 have l:∀{c:Addr}{v:Option Value},c≠a->s.heap.IsCell c v->h'.IsCell c v:=fun f ⟨d,q,r⟩=>⟨d,keep _ _ f q,r⟩;refine⟨I.ok,I.os,I.bare,⟨fun b o e n g h=>keep b o (lo e) (I.base.keep b o e n g h),fun b o e n g h=>?_,I.base.free,fun b o e h=>?_,I.base.Dl,I.base.DV,I.base.Du⟩,?_,fun y c q=>?_,I.free,I.BS,fun p t=>?_,?_,I.len⟩
 ·obtain⟨D,e1⟩:=I.base.slot b o e n g h;exact⟨D,keep b _ (lo e) e1⟩
 ·obtain⟨E,e1⟩:=I.base.there b o e h;exact⟨E,keep b _ (lo e) e1⟩
 ·obtain⟨m,F,G⟩:=I.loc;obtain⟨d,J,K,L,r⟩:=F;refine⟨m,⟨d,J,K,keep _ _ (Ne.symm B) L,r⟩,fun i x v e1 e2 e3=>?_⟩;obtain⟨u,M,lk⟩:=G i x v e1 e2 e3;refine⟨u,M,?_⟩;rcases lk with⟨l1,l2⟩|⟨l1,c,l2,l3⟩
  ·exact .inl ⟨l1,l2⟩
  ·exact .inr ⟨l1,c,l2,l (j x c l2) l3⟩
 ·obtain⟨v,z⟩:=I.cell y c q;exact⟨v,l (j y c q) z⟩
 ·obtain⟨N,O,P,Q,R⟩:=I.pin p t;exact⟨keep p.1 p.2 (C p t) N,O,P,Q,R⟩
 ·intro b u q;refine(I.Al b u q).FG (fun c w f z=>keep c w (fun k=>?_) z) (fun _ z=>z) fun _ _ z=>z;rcases f with rfl|f
  ·rw[k,n]at q;cases q
  ·rw[k,n]at f;cases f
end
section
variable {E:XK}
theorem Kz{m:Value->Shared->Prop}{e:Addr}(c:X.stack=X.env::X.outer)(g:X.env.frame=some X.env.locals)(hex:X.ex=[])(I:Inv X pins σ H s)(i:s.heap.get? e=some oe)(n:oe.cls=.ref C)(p:oe.dict=d)(a:oe.data=.fields vs)(sz:1<vs.size)(r:vs[1]?=some .none)(t:E .none d H)(j:H e=none)(k:X.s₀.heap.get? e=none)(q:E (.ref C) d H):
  wpAny M X.A (leaving X.env (.ref e)) (fun _ h=>ER X.prog X.w X.outer X.H₀ X.s₀ E (.ref e) h) m s:=by
 have u:s.heap.FunFrames X.base (X.env::X.outer):=by rw[<-c];exact I.stack
 have l:Un (II X.outer) [] X.H₀ H X.s₀.heap s.heap:=by
  have:=I.base;rw[hex]at this;exact this
 refine leaveX (s:=s) (S:=[]) (by rw[<-c];exact I.ok.frames) u g i a sz (.inl ⟨r,rfl⟩) fun B D st v x y=>?_;rw[<-c]at st;refine⟨e,C,d,H,rfl,I.os,I.bare,l.Vd st (fun b f=>by rw[List.mem_singleton.mp f];exact k) (fun b f=>?_),I.Al.Vd st (fun b f=>by rw[List.mem_singleton.mp f];exact j) I.DP,
  FR.next n p a sz (.inr t) j k I.Al (fun b o z=>l.there b o z (by simp)) v ⟨_,i⟩ x y,q⟩
 rcases List.mem_cons.mp (I.ES b f)with z|z
 ·right
  rw[z];exact Heap.get?_none_of_le I.ok.above
 ·exact .inl z
end
def OU(X:Cx)(E:XK):Prop:=∀(pins:List (Addr×Obj))(e:St)(H:Hp)(s:Shared)(a C:Addr)(b:Obj)(d:Option Addr)(c:Array Value),Inv X pins e H s->s.heap.get? a=some b->b.cls=.ref C->b.dict=d->b.data=.fields c->1<c.size->c[1]?=some .none->E .none d H->H a=none->X.s₀.heap.get? a=none->E (.ref C) d H->X.xe (.ref a) s
theorem Vu{b:Value}{E:XK}:OU (CO (ER P w) P w K mg base N qual scope f b A outer s H E) E:=
 fun pins l m n o C p d r I c e g a sz h i j k q=>Kz (X:=CO (ER P w) P w K mg base N qual scope f b A outer s H E) rfl rfl rfl I c e g a sz h i j k q
def dD(X:Cx):Prop:=∀e:Value,PassesOwnAt (model X.prog X.w) (X.A.mark (some e)) X.A X.env X.xe
theorem iF{a:Value}{E:XK}:dD (CO (ER P w) P w K mg base N qual scope f a A outer s H E):=
 fun _=>PassesOwnAt.leaving
theorem Cw.make(r:Cw (k+1) A)(C:Addr)(us:List Value)(a:List (Str×Value)):Cw k (A.under (.builtin "type.__call__" ⟨.ref C::us,a⟩)):=
 ⟨by have:=r.dp;rw[Ft];lia,by have:=r.un;rw[Fu];lia,by rw[Eu];exact r.gd⟩
def jw(X:Cx)(f:List ExceptHandler)(t:TH):Prop:=
 ∀(pins:List (Addr×Obj))(s:Shared)(e:St)(H:Hp)(D:Ends)(g:Heap)(a C T:Addr)(d:Option Addr)(h:Obj)(i:Array Value),FR False d H g s.heap a C h i T->X.s₀.heap.get? a=none->(∀p∈X.pn++pins,p.1≠a)-> (∀c:Heap,(∀b,b≠T->c.get? b=s.heap.get? b)->Entry c T .none->Inv X pins e H {s with heap:=c})->Bm X.K C=true->t C d D e H->wpAny (model X.prog X.w) X.A (handleBy (.ref a) X.env f) (SP X pins D) X.xe s
inductive dE(E:XK)(C ea:Addr)(v:V)(c:Hp):Prop
 |mk(d:Option Addr)(a:Hp)(e:v=.Ae)(h:c ea=some (Dr ea C d))(n:a ea=none)(o:∀b,b≠ea->a b=c b)(z:E .none d a)(q:E (.ref C) d a)
inductive dF(sp:Sp)(E:XK)(C:Addr)(vs:List V)(a:Hp):Prop
 |mk(l:vs.length<=sizeLine)(q:∀ea,a ea=none->sp (.ref ea::vs) (upd a ea (Dr ea C none)) (dE E C ea) E0)
inductive dG(K:qG)(a:Addr)(c:TA)(sp:Sp)(E:XK)(d C:Addr)(e:St)(H:Hp):Prop
 |hit (b:subIn K C a=true) (q:c e H fun vs f=>dF sp E d vs f):dG K a c sp E d C e H
def ZO(K:qG)(a:Addr)(b:TA)(sp:Sp)(E:XK)(c:Addr):TH:=fun C _ _ d H=>dG K a b sp E c C d H
section
variable {fI C2:Addr} {x y:Str} {np By pos:Pos} {zk:Nat} {e1:Expr} {E:XK}
theorem Sq(hg:Gl X y)(hm:X.mg y=some (.ref Dd))(qD:Bm X.K Dd=true)(hex:X.ex=[])(mM:Gl X x)(mO:X.mg x=some (.ref C2))(hq:Ds X.K C2 fI=true)(F:Kq X.prog X.w X.K X.mg X.base BP k fI fd ps sp)(hr:Cw (k+1) X.A)(hb:Binds X.K fd ps [])(mQ:∃oI,X.K.lookup fI=some oI/\oI.cls=.type "function")(hE:OU X E)(hO:dD X)(ha:∀ea oe,PA (X.DZ ea oe) (e1::es) ta)(mS:(y==("__debug__":Str))=false:=by decide)(G:(x==("__debug__":Str))=false:=by decide)(he:starEach (e1::es) X.env=(false,eval e1 X.env)::starEach es X.env:=by rfl)(mT:(backTo By (starEach es X.env)).any (·.1)=false:=by rfl):
  jw X [.ExceptHandler (some (.Name y yp)) none [.Raise (some (.Call (.Name x np) (e1::es) [] By)) (some (.Constant .none zk zp)) pos] hp] (ZO X.K Dd ta sp E C2):=by
 intro pins s σ H D h0 ea C T d oe vs g n0 oh mk qC h;obtain⟨hh,gg,dr,tk,os⟩:=s;have I5:=mk hh (fun _ _=>rfl) g.ent;have KX:=I5.ok.mod.Qy;obtain⟨tl,N,nm,qn,bs,n,sn,sub,ab,I,dd,k0,k1,k2,k3,k5,J,_⟩:=DS KX qC;obtain⟨lq,N',l_,q',l',jx,mB,hG,mC,hI,mD,mE,L,O,mF,mG,hD,hB⟩:=DS KX qD;refine wpAny_handleBy_cons (codeAny_handlers_test (Bv (X:=X.held (.ref ea)) (I5.held _) hg hm ?_ mS)) (by intro z;cases z);obtain⟨b,q⟩:=h;refine B_ (M:=model X.prog X.w) (A:=(X.held (.ref ea)).A) (I5.bk _ _ J) (I5.bk _ _ hD) g.at_ g.cls hB (Ee KX qC J b) ?_;refine codeAny_handlers_suite (OH g.at_ g.data g.one g.ent fun h6 k1 k2=>?_);have P:=mk h6 k1 k2;have e6:h6.get? ea=some oe:=(k1 ea (Ne.symm g.ne)).trans g.at_;have v2:vs[2]?=some .none:=g.two.elim id False.elim;refine wpAny_mono (Q:=fun _ _=>False) (E:=X.xe) ?_ (fun _ _ z=>False.elim z) (hO (.ref ea));refine wpAny_execs_cons (wpAny_mono (Q:=fun _ _=>False) (E:=X.xe) ?_ (fun _ _ z=>False.elim z) fun _ _ z=>z);have nl:ea≠X.env.locals:=fun z=>by
  obtain⟨m,⟨o,es,ep,i,hd,_⟩,_⟩:=P.loc;rw[<-z,e6]at i;cases i;rw[g.data]at hd;cases hd
 have nf:ea∉X.fs:=fun z=>by
  obtain⟨_,o,i,hn⟩:=P.Cz.mem z;rw[e6]at i;cases i;exact hn vs g.data
 have J6:=P.DZ (ea:=ea) (oe:=oe) e6 g.He nl nf (fun v z=>by rw[g.data]at z;cases z);obtain⟨tl,N,nm,qn,bs,n,sn,sub,ab,I,dd,k0,L,O,k3,k5,mN,J,hN,gz,TT⟩:=OM P.ok.mod.Qy hq;refine Md (C:=C2) (nm:=nm) (qn:=qn) (N:=N) (bs:=bs) (tl:=tl) (hdc:=n) (sn:=sn) (sb:=sub) (ab:=ab) (cl:=I) (dd:=dd) (k0:=k0) (k1:=L) (k2:=O) (k3:=k3) (k5:=k5) (ea:=ea)
  PySem.F.excBase_ValueError (mN:=mN) (TT.hasType jq) rfl (by rw[he];exact mT) gz (Bv (X:=X.DZ ea oe) J6 mM mO ⟨rfl,?_⟩ G)
 have key:=ha ea oe By pins _ σ H _ J6 q;have mU:starEach (e1::es) (X.DZ ea oe).env=(false,eval e1 X.env)::starEach es X.env:=he;rw[mU]at key;rw[he];refine Calls.evalArgs_plain (wpAny_mono key (fun R S h1=>?_) fun _ _ y=>False.elim y);obtain⟨mV,H1,j,r,hl,q1⟩:=h1;obtain⟨oI,lk,g_⟩:=mQ;have U:=(j.pin (ea,oe) (List.mem_append_left _ List.mem_cons_self)).1;refine⟨rfl,by rw[<-r.length];exact hl,j.bk _ _ J,hN.keeps j.bk,TT.keeps j.bk,⟨oI,j.CH _ _ lk,g_⟩,fun h' e2 f=>?_⟩;have Y:e2≠ea:=fun z=>by rw[z]at f;have:=f.new;rw[U]at this;cases this
 have B:X.s₀.heap.get? e2=none:=by
  cases z:X.s₀.heap.get? e2 with
  |none=>rfl
  |some o=>
   obtain⟨o',e'⟩:=j.base.there e2 o z (by show e2∉X.ex;rw[hex];simp);rw[f.new]at e';cases e'
 have hH:H1 e2=none:=j.Al.none_of f.new;obtain⟨t,ht,_,_⟩:=f.there;have I2:Inv (X.DZ ea oe) pins σ H1 {S with heap:=h'}:=j.HW (ch:=[]) (s':={S with heap:=h'}) rfl (Un.kept f.keeps) (j.Al.kept f.keeps) j.bare (fun b z=>absurd z (by simp));have Z:e2≠X.env.locals:=fun z=>by
  obtain⟨m,⟨o,es,ep,i,hd,_⟩,_⟩:=j.loc;have i:S.heap.get? X.env.locals=some o:=i;rw[<-z,f.new]at i;cases i
 have W:∀p∈(X.DZ ea oe).pn++pins,p.1≠e2:=fun p hp z=>by
  have:=(j.pin p hp).1;rw[z,f.new]at this;cases this
 have mW:∀y c,X.env.cells.lookup y=some c->c≠e2:=fun y c mX z=>by
  obtain⟨v,o,i,_⟩:=j.cell y c mX;rw[z,f.new]at i;cases i
 have I3:Inv (X.DZ ea oe) pins σ (upd H1 e2 (Dr e2 C2 none)) {S with heap:=h'}:=I2.Im (u:=Dr e2 C2 none) ht ⟨⟨_,t,ht,rfl,rfl,rfl⟩,⟨_,ht⟩,fun g1 g2 ⟨o',t',z1,z2⟩ kk=>⟨o',t',kk o' z1,z2⟩⟩ hH B Z (fun v z=>nomatch z) W;have rr:Vals (V.ref e2::mV) (Value.ref e2::R):=.cons rfl r;have q2:=q1 e2 hH;have bd:=hb {S with heap:=h'} (Value.ref e2::R) I3.CH (by rw[List.append_nil,<-rr.length];exact F.len _ _ _ _ q2);rw[List.append_nil]at bd;have mY:Cw (k+1) (X.A.mark (some (.ref ea))):=⟨hr.dp,hr.un,hr.gd⟩;refine wpAny_call (codeAny_mono (F.run _ X.stack _ _ ⟨Value.ref e2::R,[]⟩ _ _ _ _ (mY.make C2 R []) (I3.Pa.make C2 R []) bd rr q2) fun r' s' l=>?_);cases r' with
 |error e=>exact False.elim l
 |ok fl=>
  cases fl with
  |next=>exact False.elim l
  |brk=>exact False.elim l
  |cont=>exact False.elim l
  |ret u=>
   obtain⟨v,H2,I4,rv,z⟩:=I3.after l;obtain⟨d3,H3,rfl,h2,n3,o3,hz,qE⟩:=z;obtain⟨⟨mZ,t',iG,jy,hF,iH⟩,_⟩:=I4.Al _ _ h2;have iI:=(I4.pin (ea,oe) (List.mem_append_left _ List.mem_cons_self)).1;refine⟨rv,I4.bk _ _ J,mZ,iG,jy,Y,⟨oe,vs,iI,g.data,v2⟩,t',iH,fun h9 g1 g2=>?_⟩;have ma:=(I4.drop h2 n3 o3).Ky (a:=e2) (h':=h9) n3 B Z mW W g2;have I9:=ma.Vf P.ok;exact hE pins σ H3 _ e2 C2 _ d3 _ I9 g1 jy hF rfl (show 1<6 by decide) rfl hz n3 B qE
end
abbrev TX:=St->Hp->VK->XK->Prop
inductive dH(X:Cx)(pins:List (Addr×Obj))(c:St)(E:XK)(ex:Value)(s':Shared):Prop
 |mk(a:Hp)(b:Shared)(I:Inv X pins c a b)(h:ER X.prog X.w X.stack a b E ex s')
def fE(X:Cx)(e:Expr)(t:TX):Prop:=∀(pins:List (Addr×Obj))(s:Shared)(a:St)(H:Hp)(Q:VK)(E:XK),Inv X pins a H s->t a H Q E->wpAny (model X.prog X.w) X.A (eval e X.env) (EP X pins a Q) (dH X pins a E) s
section
variable {x:Str} {p pos:Pos} {e:Expr} {th:TH} {tx:TX}
theorem Vv(F:AV X.prog X.w X.K X.mg X.base (ER X.prog X.w) k f fd ps sp)(v:Aq k X.A)(y:Gl X x)(B:X.mg x=some (.ref f))(D:PySem.W.keepIn X.K (.ref f)=true)(G:Binds X.K fd ps [])(J:PA X.Uu (e0::es) ta)(l:(x==("__debug__":Str))=false:=by decide)(L:starEach (e0::es) X.env=(false,eval e0 X.env)::starEach es X.env:=by rfl)(m:(backTo cp (starEach es X.env)).any (·.1)=false:=by rfl):
  fE X (.Call (.Name x p) (e0::es) [] cp) (fun c H Q E=>ta c H fun n a=>sp n a Q E):=by
 intro pins s c H Q E I h;refine wpAny_Call_Name_kw (Bv I y B ?_ l);refine PySem.W.callWith_K (h₀:=X.base) I.ok.mod.Qy D (wpAny_mono (J cp pins s c H _ (I.FH _) h) (fun d g M=>M.elim fun n a o r q=>⟨o.CH,?_⟩) fun _ _ z=>False.elim z) L m;have i:Inv X pins c a g:=o.CL;have N:d.length=ps.length:=by rw[<-r.length];exact F.len _ _ _ _ q
 have t:=G g d i.CH (by rw[List.append_nil];exact N);rw[List.append_nil]at t;refine wpAny_call (codeAny_mono (F.run X.A X.stack g a ⟨d,[]⟩ d n _ _ v i.Pa t r q) fun r P b=>?_);cases r with
 |error e=>exact⟨a,g,i,b⟩
 |ok O=>
  cases O with
  |ret u=>exact i.after b
  |next=>exact False.elim b
  |brk=>exact False.elim b
  |cont=>exact False.elim b
theorem Vw(M:Mk X.K C f)(F:AV X.prog X.w X.K X.mg X.base (ER X.prog X.w) k f fd ps sp)(L:Aq (k+1) X.A)(N:Gl X x)(O:X.mg x=some (.ref C))(P:Binds X.K fd ps [])(R:PA X.Uu (e0::es) ta)(n:(x==("__debug__":Str))=false:=by decide)(S:starEach (e0::es) X.env=(false,eval e0 X.env)::starEach es X.env:=by rfl)(t:(backTo cp (starEach es X.env)).any (·.1)=false:=by rfl):
  fE X (.Call (.Name x p) (e0::es) [] cp) (fun g H Q E=>ta g H fun y d=>∀o i,d o=none->d i=none->i≠o->sp (.ref o::y) (upd (upd d i (.own o)) o (.ins C i [])) (fun v T=>v=.Ae/\Q (.ref o) T) E):=by
 intro pins s g H Q E I h;refine wpAny_Call_Name_kw (Bv I N O ?_ n);refine PySem.W.callWith_K (h₀:=X.base) I.ok.mod.Qy M.kp (wpAny_mono (R cp pins s g H _ (I.FH _) h) (fun c b U=>U.elim fun y d B r q=>⟨B.CH,?_⟩) fun _ _ z=>False.elim z) S t;have l:Inv X pins g d b:=B.CL;have D:=q (b.heap.objs.size+1) b.heap.objs.size (l.Al.fresh (Nat.le_succ _)) (l.Al.fresh (Nat.le_refl _)) (Nat.ne_of_lt (Nat.lt_succ_self _));have m:=Inv.made (C:=C) l;have G:Vals (V.ref (b.heap.objs.size+1)::y) (Value.ref (b.heap.objs.size+1)::c):=.cons rfl r;have Y:(Value.ref (b.heap.objs.size+1)::c).length=ps.length:=by rw[<-G.length];exact F.len _ _ _ _ D
 have J:=P _ (Value.ref (b.heap.objs.size+1)::c) m.CH (by rw[List.append_nil];exact Y);rw[List.append_nil]at J;refine wpAny_call (KH (f:=f) l.CH M.makes M.init (beq_iff_eq.mp M.fn) (codeAny_mono (F.run _ X.stack _ _ ⟨Value.ref (b.heap.objs.size+1)::c,[]⟩ (Value.ref (b.heap.objs.size+1)::c) _ _ E (L.make C c []) (m.Pa.make C c []) J G D) fun r s' a=>?_));cases r with
 |error e=>exact⟨_,_,m,a⟩
 |ok Z=>
  cases Z with
  |ret u=>
   obtain⟨v,H',I3,rv,ev,q3⟩:=m.after a;subst ev;exact⟨rv,⟨V.ref (b.heap.objs.size+1),H',I3,rfl,q3⟩⟩
  |next=>exact False.elim a
  |brk=>exact False.elim a
  |cont=>exact False.elim a
theorem Xl{D:Ends}{m:St}{E:XK}{ex:Value}(g:X.stack=X.env::X.outer)(h:X.env.frame=some X.env.locals)(hex:X.ex=[])(o:dH X pins m E ex s')(k:∀(s:Shared) (H:Hp) (r:Heap) (ea C T:Addr) (d:Option Addr) (oe:Obj) (vs:Array Value),ex=.ref ea->E (.ref C) d H->FR (E .none d H) d H r s.heap ea C oe vs T->X.s₀.heap.get? ea=none->(∀p∈X.pn++pins,p.1≠ea)-> (∀i:Heap,(∀b,b≠T->i.get? b=s.heap.get? b)->Entry i T .none->Inv X pins m H {s with heap:=i})->wpAny (model X.prog X.w) X.A (handleBy (.ref ea) X.env hs) (SP X pins D) X.xe s):
  wpAny (model X.prog X.w) X.A (noteFrame ex X.env) (fun _ a=>wpAny (model X.prog X.w) X.A (setFlight ex none) (fun _ c=>wpAny (model X.prog X.w) X.A (handleBy ex X.env hs) (SP X pins D) X.xe c) X.xe a) X.xe s':=by
 obtain⟨K,t,l,u⟩:=o;refine cb g h l u fun ea C d v y oe vs T B q F mk=>?_;subst B;have G:X.s₀.heap.get? ea=none:=by
  cases z:X.s₀.heap.get? ea with
  |none=>rfl
  |some o=>
   obtain⟨L,n⟩:=l.base.there ea o z (by rw[hex];simp);rw[F.bL]at n;cases n
 have I:∀p∈X.pn++pins,p.1≠ea:=fun p J z=>by
  have:=(l.pin p J).1;rw[z,F.bL]at this;cases this
 exact k {s' with heap:=y} v t.heap ea C T d oe vs rfl q F G I mk
def dJ(K:qG)(tx:TX)(j:Nat)(th:TH):TS:=fun D a H=>tx a H (fun v b=>D.nx (a.set j (some v)) b) (cn K th D a)
theorem Vx(a:X.stack=X.env::X.outer)(b:X.env.frame=some X.env.locals)(hex:X.ex=[])(B:fE X e tx)(E:jw X (h1::hs) th)(G:X.N.Nodup)(J:X.N[j]?=some z)(l:X.env.scope.names.lookup z=some .local)(c:swapsWith e (some (.Name z zp)) pos.line X.env=pure false:=by rfl):
  PS X (.Try [.Assign [.Name z zp] e pos] (h1::hs) [] [] tp) (dJ X.K tx j th):=by
 intro pins s m H D I h;refine wpAny_Try_except (wpAny_execs_cons (Aw (Q:=SP X pins D) (wpAny_Assign_Name (wpAny_mono (B pins s m H _ _ I h) (fun v L M=>M.elim fun _ O P R S=>C_ P G J (.inl l) R (fun g U=>⟨_,O,U,S⟩) (.inr l)) fun ex s' o=>Xl a b hex o fun g n r t C T d w A ee q F V Y mk=>?_) c) fun Z L z=>?_))
 ·obtain⟨C',i,W,q⟩:=q;cases i;have F':FR False d n r g.heap t C w A T:={F with two:=F.two.imp id fun y=>by obtain⟨_,i,_⟩:=y;cases i};exact E pins g m n D r t C T d w A F' V Y mk W q
 ·cases Z with
  |next=>exact wpAny_execs_nil (wpAny_execs_nil z)
  |brk=>exact z
  |cont=>exact z
  |ret u=>exact z
def dM(K:qG)(tx:TX)(j:Nat)(th:TH):TS:=fun D a H=>tx a H (fun v b=>D.nx (a.set j (some v)) b) (fun c d b=>c=.none∨cn K th D a c d b)
theorem Vy(a:X.stack=X.env::X.outer)(b:X.env.frame=some X.env.locals)(hex:X.ex=[])(m:fE X e tx)(n:PH X (h1::hs) th)(r:X.N.Nodup)(t:X.N[j]?=some z)(g:X.env.scope.names.lookup z=some .local)(c:swapsWith e (some (.Name z zp)) pos.line X.env=pure false:=by rfl):
  PS X (.Try [.Assign [.Name z zp] e pos] (h1::hs) [] [] tp) (dM X.K tx j th):=by
 intro pins s i H D I h;refine wpAny_Try_except (wpAny_execs_cons (Aw (Q:=SP X pins D) (wpAny_Assign_Name (wpAny_mono (m pins s i H _ _ I h) (fun v w y=>y.elim fun _ A B E G=>C_ B r t (.inl g) E (fun l J=>⟨_,A,J,G⟩) (.inr g)) fun ex W o=>Xl a b hex o fun l L M O C T d P R ee q F S U mk=>?_) c) fun V w z=>?_))
 ·rcases q with q|⟨C',Y,Z,q⟩
  ·cases q
  cases Y;exact n pins l i L D M O C T d P R _ F S U mk Z q
 ·cases V with
  |next=>exact wpAny_execs_nil (wpAny_execs_nil z)
  |brk=>exact z
  |cont=>exact z
  |ret u=>exact z
end
variable{fv:List Str}
section
variable {H':Hp} {x:Str} {fs:List Nat} {fp:List Addr}
end
section
variable {elt iter:Expr} {x:Str} {px pz pt pos:Pos} {kt:Nat} {ifs:List Expr} {fs:List Nat} {wi:TI} {te:TE} {tc:TT}
end
end L2
namespace PySem
section
variable{prog:Program} {w:World} {A:Around} {E:Value->Shared->Prop} {s:Shared}
end
end PySem
namespace L2
open PySem PySem.Spec PyProof.Rows
variable{H:Hp}{X:Cx}{pins:List (Addr×Obj)}{s:Shared}
theorem Inv.Vz{i:St}{h':Heap}{t':Nat}{it jt:Addr}(I:Inv X pins i H s)(k:∀b o,b≠it->b≠jt->s.heap.get? b=some o->h'.get? b=some o)(f:DA X pins H it)(g:DA X pins H jt):Inv X pins i H {s with heap:=h',toks:=t'}:=by
 obtain⟨p,j,J,t,w,x⟩:=f;obtain⟨y,l,K,A,B,C⟩:=g;have d:∀b u,H b=some u->b≠it/\b≠jt:=fun b u e=>⟨(fun z=>by rw[z,p]at e;cases e),(fun z=>by rw[z,y]at e;cases e)⟩;have kk:∀b o,b∉[it,jt]->s.heap.get? b=some o->h'.get? b=some o:=fun b o a e=>k b o (fun z=>a (by simp[z])) (fun z=>a (by simp[z])) e;refine I.step (g':=s.gens) (d':=s.drawn) (ch:=[it,jt]) (fun b h=>?_) (fun b o _ _ a e _=>kk b o a e) (fun b o _ _ a e _=>⟨o.slots,kk b o a e⟩) (fun _ _ _ _ n=>n) (fun b o a e=>⟨o,kk b o a e⟩) (fun _ _ e=>e) (fun _ _ _ e=>e) (fun b L e=>⟨#[],by rw[e];simp⟩) (fun m D=>?_) (fun b u e=>?_) I.bare
 ·rcases List.mem_cons.mp h with rfl|h
  ·exact⟨t,j,w,x⟩
  ·rw[List.mem_singleton.mp h];exact⟨A,l,B,C⟩
 ·obtain⟨o,E,F,G,r⟩:=D;exact⟨o,E,F,k _ o (Ne.symm j) (Ne.symm l) G,r⟩
 ·refine(I.Al b u e).FG (fun c v a q=>?_) (fun _ q=>q) fun _ _ q=>q;have:c≠it/\c≠jt:=by
   rcases a with z|z
   ·rw[z];exact d b u e
   ·exact d c _ z
  exact k c v this.1 this.2 q
variable{es:List Expr}{kt:Nat}
section
variable {pt:Pos}
theorem K_:bootBuiltins "enumerate"=some (.type "enumerate"):=by decide+kernel
end
def QK(K:qG)(a:Addr):It:=
 ⟨fun i H=>∃xs x,Ap K H a xs/\xs[i]?=some x,fun i H v b=>∃T x,(∀xs,Ap K H a xs->xs[i]?=some x)/\v=.ref T/\H T=none/\b=upd H T (.tup [.int (i:Int),x]),fun i H=>∃xs,Ap K H a xs/\xs.length=i⟩
variable{K:qG}{P:Program}
theorem Me{w:World}{pt:Pos}(a e it:Addr)(ne:e≠it):Turn P w K (.Tuple es kt pt) (QK K a) [e,it] e (fun i h=>(∃old,IsEnum h e it (i:Nat) old)/\h.IsListIter it a i)where
 mem:=by simp
 obj:=fun i h st b hb=>by
  rcases List.mem_cons.mp hb with rfl|hb
  ·obtain⟨⟨old,x⟩,_⟩:=st;exact⟨_,x,fun v z=>by cases z⟩
  ·rw[List.mem_singleton.mp hb];obtain⟨_,o,x,_,d⟩:=st;exact⟨o,x,fun v z=>by rw[d]at z;cases z⟩
 keep:=fun i h h' st k=>⟨let⟨old,x⟩:=st.1;⟨old,k e (by simp) _ x⟩,st.2.at fun o x=>k it (by simp) o x⟩
 item:=by
  intro X hP hw hK hc i pins s σ H E I hf st hg;subst hP hw hK;obtain⟨xs,x,hq,hx⟩:=hg;obtain⟨its,rv,p,hz⟩:=I.list hq;obtain⟨u,hu,ru⟩:=rv.get hx;obtain⟨⟨old,he⟩,hit⟩:=st;have ht:s.heap.IsList a its.toArray:=p.isList;have iJ:a≠it:=fun z=>by
   obtain⟨o,h1,h2,_⟩:=ht;obtain⟨o',g1,g2,_⟩:=hit;rw[z,g1]at h1;cases h1;rw[g2]at h2;exact absurd (Value.type.inj h2) (by decide)
  have md:a≠e:=fun z=>by
   obtain⟨o,h1,h2,_⟩:=ht;rw[z,he]at h1;cases h1;exact absurd (Value.type.inj h2) (by decide)
  have iK:i<its.toArray.size:=by
   have:=(p' hu).1;simpa using this
  refine wpAny_pyNext_enum_itemD (Draws.list (A:=X.A.in1) (I.ok.hd hc) it a iJ its.toArray) he ⟨hit,ht⟩ iK ne (by simp[ne,Ne.symm md]) fun y h1 tk hy ho jz hT hsz hk=>?_;have ey:y=u:=by
   have iL:its.toArray[i]?=some y:=hy;rw[List.getElem?_toArray]at iL;rw[hu]at iL;exact(qB iL).symm
  subst ey;refine⟨_,rfl,wpAny_letOwnedTupleGo_enum ho fun h2 iG j_=>?_⟩;have le:e<s.heap.objs.size:=Heap.lt_size he;have li:it<s.heap.objs.size:=by obtain⟨o,g1,_⟩:=hit;exact Heap.lt_size g1
  have nT:∀b∈[e,it],b≠s.heap.objs.size:=fun b hb=>by
   rcases List.mem_cons.mp hb with rfl|hb
   ·exact Nat.ne_of_lt le
   ·rw[List.mem_singleton.mp hb];exact Nat.ne_of_lt li
  have I1:Inv X pins σ (upd H s.heap.objs.size (.tup [.int (i:Int),x])) {s with heap:=s.heap.push {cls:=.type "tuple",data:=.seq #[.int i tk,y]},toks:=tk+1}:=
   I.laid (fun b o q=>Heap.get?_push_of_some _ q) (Nat.le_refl _) ⟨AZ,[.int i tk,y],.cons ⟨tk,rfl⟩ (.cons ru .nil),⟨_,Heap.get?_push_size _ rfl,rfl,_,rfl⟩⟩
  have ff:∀b∈[e,it],DA X pins (upd H s.heap.objs.size (.tup [.int (i:Int),x])) b:=fun b hb=>⟨by rw[AH (nT b hb)];exact(hf b hb).1,(hf b hb).2⟩;have I2:=Inv.Vz (h':=h2) (t':=tk+1) (it:=e) (jt:=it) I1 (fun b o b1 b2 q=>by
   refine(j_.2 b b1).trans ?_;by_cases hb:b=s.heap.objs.size
   ·subst hb;have q:(s.heap.push {cls:=.type "tuple",data:=.seq #[.int i tk,y]}).get? s.heap.objs.size=some o:=q;rw[Heap.get?_push_size _ rfl]at q;rw[hT];exact q
   ·refine hk b o b1 b2 ?_;have q:(s.heap.push {cls:=.type "tuple",data:=.seq #[.int i tk,y]}).get? b=some o:=q;rwa [Heap.get?_push_ne _ _ _ hb]at q) (ff e (by simp)) (ff it (by simp))
  refine⟨.ref s.heap.objs.size,_,I2,rfl,⟨_,x,(fun ys hy=>by rw[I.J_ hy hq];exact hx),rfl,I.fresh,rfl⟩,⟨⟨y,by simpa using iG⟩,jz.1.extBut j_.extBut (Ne.symm ne)⟩,fun b hb=>(ff b hb).1⟩
 done:=by
  intro X hP hw hK hc i pins s σ H E I hf st hg;subst hP hw hK;obtain⟨xs,hq,hx⟩:=hg;obtain⟨its,rv,p,hz⟩:=I.list hq;obtain⟨⟨old,he⟩,hit⟩:=st;have ht:s.heap.IsList a its.toArray:=p.isList;have iJ:a≠it:=fun z=>by
   obtain⟨o,h1,h2,_⟩:=ht;obtain⟨o',g1,g2,_⟩:=hit;rw[z,g1]at h1;cases h1;rw[g2]at h2;exact absurd (Value.type.inj h2) (by decide)
  obtain⟨f0,f1,f2,f3,f4,f5⟩:=hf it (by simp);have hl:=rv.length;have en:i=its.toArray.size:=by simp;lia
  exact wpAny_pyNext_enum_endD (Draws.list (A:=X.A.in1) (I.ok.hd hc) it a iJ its.toArray) he (by rw[<-en];exact⟨hit,ht⟩) fun h' eb=>⟨rfl,I.turned (t':=s.toks) (fun b o hb q=>eb b o hb q) f0 f1 f3 f4 f5⟩
 self:=fun _ _ _ _ _ st h=>let⟨_,x⟩:=st.1;wpAny_pyIter_enum x h
variable{e:Expr}{p:Pos}
section
variable {pt:Pos}
def ZP(K:qG)(c:TA):TI:=fun d H R=>c d H fun e b=>∃a xs,e=[.ref a]/\Ap K b a xs/\R (QK K a) b
theorem Sr{x:Str}{pos:Pos}{j:TA}(l:Gl X x)(m:X.mg x=none)(n:bootBuiltins x=some (.type "enumerate"))(o:PA X [e] j)(r:x≠"__name__":=by decide)(f:(x==("__debug__":Str))=false:=by decide)(t:starEach [e] X.env=(false,eval e X.env)::starEach [] X.env:=by rfl)(g:(backTo pos (starEach [] X.env)).any (·.1)=false:=by rfl):PI X (.Tuple es kt pt) (.Call (.Name x p) [e] [] pos) (ZP X.K j):=by
 intro pins s v H R I h;refine wpAny_Call_Name_kw (ET I l m n ?_ r f);refine PyProof.Rows.callWith_type1 (Aw (o pos pins s v H _ I h) fun J c w=>w.elim fun L y d z A=>?_) t g;obtain⟨a,xs,rfl,B,q⟩:=A;obtain⟨u,rfl,C⟩:=vals1 z;cases C;obtain⟨D,M,E,N⟩:=d.list B;refine call_enumerate_list E.isList fun O k F sz G=>?_;refine wpAny_pyIter_enum k ?_;refine⟨c.heap.objs.size+1,[c.heap.objs.size+1,c.heap.objs.size],_,_,y,rfl,d.kept (t':=c.toks) G,Me a _ _ (Nat.succ_ne_self _),⟨⟨_,k⟩,F⟩,fun b i=>?_,q⟩;have e:c.heap.objs.size<=b:=by
  rcases List.mem_cons.mp i with rfl|i
  ·exact Nat.le_succ _
  ·rw[List.mem_singleton.mp i];exact Nat.le_refl _
 exact d.KA e (d.Al.fresh e)
end
variable{g:TG}
theorem QL{a:Addr}{xs:List V}{k:TS}{D:Ends}{b:St}(Pv:Nat->St->Hp->Prop)(n:Pv 0 b H)(o:∀i b H,i<=xs.length->Pv i b H->Ap K H a xs)(r:∀i x b H T,xs[i]?=some x->Pv i b H->H T=none->g (.ref T) b (upd H T (.tup [.int (i:Int),x])) fun c j=>k {D with nx:=Pv (i+1),ct:=Pv (i+1),bk:=D.nx} c j)(s:∀b H,Pv xs.length b H->D.nx b H):
  ∃W:Nat->Nat->St->Hp->Prop,(∃m,W 0 m b H)/\∀i m b H,W i m b H-> ((QK K a).stop i H/\D.nx b H)∨((QK K a).go i H/\∃N:St->Hp->Prop,(∀d f,N d f->∃l,l<m/\W (i+1) l d f)/\∀x f,(QK K a).XW i H x f->g x b f fun c j=>k {D with nx:=N,ct:=N,bk:=D.nx} c j):=by
 refine⟨fun i m b H=>m=xs.length-i/\i<=xs.length/\Pv i b H,⟨xs.length,by simp,Nat.zero_le _,n⟩,?_⟩;rintro i m b H ⟨rfl,t,p⟩;have q:=o i b H t p;by_cases h:i<xs.length
 ·refine .inr ⟨⟨xs,xs[i],q,by simp[h]⟩,Pv (i+1),fun d f u=>⟨xs.length-(i+1),by lia,rfl,h,u⟩,fun v f y=>?_⟩;obtain⟨T,x,w,rfl,z,rfl⟩:=y;exact r i x b H T (w xs q) p z
 ·have e:i=xs.length:=by lia
  subst e;exact .inl ⟨⟨xs,q,rfl⟩,s b H p⟩
theorem QM{a:Addr}{xs:List V}{c:TS}{D:Ends}{b:St}(Pv:Nat->St->Hp->Prop)(d:Pv 0 b H)(f:∀i b H,i<=xs.length->Pv i b H->Ap K H a xs)(h:∀i x b H e T,Go D (Pv (i+1)) e->xs[i]?=some x->Pv i b H->H T=none->g (.ref T) b (upd H T (.tup [.int (i:Int),x])) (c e))(j:∀b H,Pv xs.length b H->D.nx b H):
  Uy (QK K a) g c D b H:=QL Pv d f (fun i x b H T k l m=>h i x b H _ T ⟨id,id⟩ k l m) j
inductive dN(P:Program)(w:World)(K:qG)(mg:Str->Option Value)(base:Heap)(f:Addr)(ps:List Str)(sp:Sp):Prop
 |mk(a:FuncData)(G:Kq P w K mg base BP 1 f a ps sp)(b:Binds K a ps [])
abbrev Cy:=Option (Nat×V×List V)
inductive CJ(H:Hp)(v:V):Cy->Prop
 |good {a:Addr} {j:Nat} {y:V} {r:List V} (e:v=.ref a) (x:DX H (.ref a) none) (b:j<9) (g:EJ H a j y r):CJ H v (some (j,y,r))
 |bad {i:Int} (x:DX H v (some i)):CJ H v none
theorem CJ.up{H a:Hp}{v:V}{it:Cy}(h:CJ H v it)(s:AG H a):CJ a v it:=by
 cases h with
 |good e x b g=>exact .good e (x.up s) b (g.up s)
 |bad x=>exact .bad (x.up s)
inductive Ao(H:Hp):List V->List Cy->Prop
 |nil:Ao H [] []
 |cons {v:V} {it:Cy} {vs:List V} {its:List Cy} (h:CJ H v it) (t:Ao H vs its):Ao H (v::vs) (it::its)
variable{its:List Cy}{vs:List V}
theorem Ao.get(h:Ao H vs its):∀{i:Nat}{v:V},vs[i]?=some v->∃it,its[i]?=some it/\CJ H v it:=by
 induction h with
 |nil=>intro i v e;cases e
 |cons h _ a=>
  intro i v e;cases i with
  |zero=>cases e;exact⟨_,rfl,h⟩
  |succ i=>exact a e
theorem Ao.len(h:Ao H vs its):vs.length=its.length:=by
 induction h with
 |nil=>rfl
 |cons _ _ a=>rw[List.length_cons,List.length_cons,a]
theorem Ao.up{H a:Hp}{vs:List V}{its:List Cy}(h:Ao H vs its)(s:AG H a):Ao a vs its:=by
 induction h with
 |nil=>exact .nil
 |cons h _ b=>exact .cons (h.up s) b
variable{v:V}
theorem Ao.snoc{it:Cy}(h:Ao H vs its)(t:CJ H v it):Ao H (vs++[v]) (its++[it]):=by
 induction h with
 |nil=>exact .cons t .nil
 |cons h _ a=>exact .cons h a
theorem Ao.set{it:Cy}(h:Ao H vs its)(t:CJ H v it):∀i:Nat,Ao H (vs.set i v) (its.set i it):=by
 induction h with
 |nil=>intro i;exact .nil
 |cons h r a=>
  intro i;cases i with
  |zero=>exact .cons t r
  |succ i=>exact .cons h (a i)
theorem Ao.take(h:Ao H vs its):∀i:Nat,Ao H (vs.take i) (its.take i):=by
 induction h with
 |nil=>intro i;rw[List.take_nil,List.take_nil];exact .nil
 |cons h r a=>
  intro i;cases i with
  |zero=>exact .nil
  |succ i=>exact .cons h (a i)
noncomputable def Ss:Cy->Nat
 |some (4,_)=>1
 |_=>0
noncomputable def CG:List Cy->Nat->Nat->Option Nat
 |[],_,_=>none
 |none::_,a,_=>some a
 |some x::r,a,c=>if 40<=a∨3<c+Ss (some x)then some a else CG r (a+1) (c+Ss (some x))
def BE(D:Addr)(H:Hp):Hp:=fun b=>if b=D then none else H b
variable{D:Addr}{a:Hp}
theorem DI(s:AG H a):AG (BE D H) (BE D a):=fun b o e=>by
 unfold BE at e⊢;by_cases z:b=D
 ·rw[if_pos z]at e;cases e
 ·rw[if_neg z]at e⊢;exact s _ _ e
variable{o:HO}
theorem EL:BE D (upd H D o)=BE D H:=by
 funext b;unfold BE;by_cases z:b=D
 ·rw[if_pos z,if_pos z]
 ·rw[if_neg z,if_neg z,AH z]
theorem EM:AG (BE D H) H:=fun b o e=>by
 unfold BE at e;by_cases z:b=D
 ·rw[if_pos z]at e;cases e
 ·rw[if_neg z]at e;exact e
theorem Bt{b:Addr}(h:b≠D):BE D H b=H b:=if_neg h
theorem Dg.Xm{k:TK}{a:List V}(t:Dg H v k)(h:H D=some (.lst a))(n:a≠[.int 1]):Dg (BE D H) v k:=by
 cases t with
 |str l=>exact .str l
 |one g=>exact .one (by rw[Bt (fun z=>by rw[z,h]at g;cases g;exact n rfl)];exact g)
 |emp g=>exact .emp (by rw[Bt (fun z=>by rw[z,h]at g;cases g)];exact g)
theorem Ba.Xm{cl:Nat->Addr}{H:Hp}{v:V}{j:Nat}{y:V}{r:List V}{D:Addr}{b:List V}(d:Ba cl H v j y r)(h:H D=some (.lst b))(n:b≠[.int 1]):Ba cl (BE D H) v j y r:=by
 have k:∀{a C c:Addr}{fs:List (Str×V)},H a=some (.ins C c fs)->BE D H a=some (.ins C c fs):=fun g=>by rw[Bt (fun z=>by rw[z,h]at g;cases g)];exact g
 cases d with
 |one e h n p t=>exact .one e (k h) n p t
 |two e h n p t f=>exact .two e (k h) n p t f
 |val e g m p t f i l=>exact .val e (k g) m p t f (i.Xm h n) (l.Xm h n)
theorem Ba.up{cl:Nat->Addr}{H a:Hp}{v:V}{j:Nat}{y:V}{r:List V}(d:Ba cl H v j y r)(s:AG H a):Ba cl a v j y r:=by
 cases d with
 |one e h n p t=>exact .one e (s _ _ h) n p t
 |two e h n p t f=>exact .two e (s _ _ h) n p t f
 |val e h n p t f b c=>exact .val e (s _ _ h) n p t f (b.up s) (c.up s)
variable{cl:Nat->Addr}{j:Nat}{r:List V}{y:V}
theorem Ba.ref(d:Ba cl H v j y r):∃a,v=.ref a:=by
 cases d with
 |one e=>exact⟨_,e⟩
 |two e=>exact⟨_,e⟩
 |val e=>exact⟨_,e⟩
inductive Ay(cl:Nat->Addr)(H:Hp):List V->List Cy->Prop
 |nil:Ay cl H [] []
 |cons {v:V} {j:Nat} {y:V} {r:List V} {vs:List V} {its:List Cy} (a:j<9) (h:Ba cl H v j y r) (t:Ay cl H vs its):Ay cl H (v::vs) (some (j,y,r)::its)
theorem Ay.snoc(h:Ay cl H vs its)(a:j<9)(t:Ba cl H v j y r):Ay cl H (vs++[v]) (its++[some (j,y,r)]):=by
 induction h with
 |nil=>exact .cons a t .nil
 |cons a h _ b=>exact .cons a h b
theorem Ay.up{cl:Nat->Addr}{H a:Hp}{vs:List V}{its:List Cy}(h:Ay cl H vs its)(s:AG H a):Ay cl a vs its:=by
 induction h with
 |nil=>exact .nil
 |cons b h _ c=>exact .cons b (h.up s) c
theorem Ay.refs(h:Ay cl H vs its):vs≠[.int 1]:=fun z=>by
 cases h with
 |nil=>cases z
 |cons _ h _=>
  obtain⟨a,e⟩:=h.ref;rw[e]at z;cases z
theorem Ay.len(h:Ay cl H vs its):vs.length=its.length:=by
 induction h with
 |nil=>rfl
 |cons _ _ _ a=>rw[List.length_cons,List.length_cons,a]
inductive K'(c cl:Nat->Addr)(vs:List V)(H:Hp)(Q:VK)(E:XK):Prop
 |mk(l:Addr)(b:List V)(its:List Cy)(f:vs=[.ref l])(h:H l=some (.lst b))(r:Ao H b its)(n:b.length<=43)(g:CG its 0 0=none->∀D e a,AG H a->a D=some (.lst e)->Ay cl (BE D a) e its->Q (.ref D) a)(j:∀i,CG its 0 0=some i->∀d a,AG H a->Vj 4 (i:Nat) 0 d a->E .none d a/\E (.ref (c 4)) d a):K' c cl vs H Q E
def Iz(c cl:Nat->Addr):Sp:=fun a H Q E=>K' c cl a H Q E
theorem dO{E:XK}{C:Addr}{i:Int}(l:[V.int i].length<=sizeLine)(q:∀a,H a=none->E .none (some a) (upd H a (OJ a [("at",.int i)]))/\E (.ref C) (some a) (upd H a (OJ a [("at",.int i)]))):dF (Bg C) E C [.int i] H:=
 ⟨l,fun e f=>⟨e,i,rfl,AD,fun a c n=>by
  rw[AH n]at c;refine⟨some a,upd H a (OJ a [("at",.int i)]),rfl,?_,?_,fun b d=>?_,(q a c).1,(q a c).2⟩
  ·rw[AH (Ne.symm n),AD]
  ·rw[AH (Ne.symm n)];exact f
  ·by_cases z:b=a
   ·rw[z,AD,AD]
   ·rw[AH z,AH z,AH d,AH d]⟩⟩
variable{i:Nat}
theorem OV{c:Nat}(h:its[i]?=some none):CG (its.drop i) i c=some i:=by
 rw[List.drop_eq_getElem_cons (p' h).1,(p' h).2];rfl
theorem LA{c:Nat}{x:Nat×V×List V}(h:its[i]?=some (some x)):CG (its.drop i) i c=if 40<=i∨3<c+Ss (some x)then some i else CG (its.drop (i+1)) (i+1) (c+Ss (some x)):=by
 rw[List.drop_eq_getElem_cons (p' h).1,(p' h).2];rfl
theorem take_snoc{a:Type}{l:List a}{x:a}(h:l[i]?=some x):l.take (i+1)=l.take i++[x]:=by
 rw[List.take_add_one,h];rfl
theorem LB(a:j<9):decide (V.str (FT j)=V.str "copy")=decide (j=4):=by
 rcases j9 a with rfl|rfl|rfl|rfl|rfl|rfl|rfl|rfl|rfl<;>decide+kernel
theorem Su(a:j<9):Ss (some (j,y,r))=if j=4 then 1 else 0:=by
 rcases j9 a with rfl|rfl|rfl|rfl|rfl|rfl|rfl|rfl|rfl<;>rfl
variable{n:Nat}
theorem Sv{J:It}{k:TE}{fs:List Nat}{w:St}{Q:VK}(item:Nat->V)(Ok:Hp->Nat->V->Prop)(up:∀{H g:Hp} {i:Nat} {y:V},Ok H i y->AG H g->Ok g i y)(A:∀{H:Hp} {i:Nat} {y:V},Ok H i y->∃a,y=.ref a)(K:n<=sizeLine)(l:∀i b,i<n->AG H b->J.go i b)(B:∀i b v g,i<n->AG H b->J.XW i b v g->v=item i/\g=b)(o:∀b,AG H b->J.stop n b)(C:∀i b D ys (R:VK),i<n->AG H b->b D=some (.lst ys)->ys≠[.int 1]->(∀y h,AG b h->Ok (BE D h) i y->R y h)->k (some (item i)::Bu w fs) b R)(E:∀D b ys,H D=none->AG H b->b D=some (.lst ys)->ys.length=n->(∀(i:Nat) y,ys[i]?=some y->Ok (BE D b) i y)->Q (.ref D) b):
  EX J VI k fs w H Q:=by
 intro D p;refine⟨fun i m b=>m=n-i/\i<=n/\AG H b/\∃ys,b D=some (.lst ys)/\ys.length=i/\∀(j:Nat) y,ys[j]?=some y->Ok (BE D b) j y,⟨n,by simp,Nat.zero_le _,AG.new p,[],AD,rfl,fun j y z=>by simp at z⟩,?_⟩;rintro i m b ⟨rfl,L,f,ys,r,x,s⟩;by_cases c:i<n
 ·refine .inr ⟨l i b c f,fun v h F=>?_⟩;obtain⟨rfl,rfl⟩:=B i b v h c f F;show k _ _ _;have G:ys≠[.int 1]:=fun z=>by
   obtain⟨a,e⟩:=A (s 0 (.int 1) (by rw[z];rfl));cases e
  refine C i _ D ys _ c f r G fun y M t u=>⟨ys,t _ _ r,by lia,n-(i+1),by lia,rfl,c,(f.trans t).put p,ys++[y],AD,by simp[x],fun j z d=>?_⟩;rw[EL];by_cases I:j<ys.length
  ·rw[List.getElem?_append_left I]at d;exact up (s j z d) (DI t)
  ·rw[List.getElem?_append_right (by lia)]at d;have e:j-ys.length=0:=by
    cases q:j-ys.length with
    |zero=>rfl
    |succ N=>rw[q]at d;simp at d
   rw[e]at d;have:y=z:=by simpa using d
   subst this;have:j=i:=by lia
   subst this;exact u
 ·have e:i=n:=by lia
  subst e;exact .inl ⟨o b f,E D b ys p f r x s⟩
theorem Qw.up{H a:Hp}{r b:List V}(h:Qw H r b)(s:AG H a):Qw a r b:=by
 cases h with
 |same=>exact .same
 |val c d=>exact .val (c.up s) (d.up s)
theorem Qw.Xm{H:Hp}{r a:List V}{D:Addr}{b:List V}(h:Qw H r a)(g:H D=some (.lst b))(n:b≠[.int 1]):Qw (BE D H) r a:=by
 cases h with
 |same=>exact .same
 |val c d=>exact .val (c.Xm g n) (d.Xm g n)
inductive Dh(H:Hp)(v:V):Cy->Prop
 |mk{b:Addr}{j:Nat}{y:V}{r a:List V}(e:v=.ref b)(h:H b=some (.tup (.str (FT j)::y::a)))(t:Qw H a r):Dh H v (some (j,y,r))
theorem Dh.up{H a:Hp}{v:V}{it:Cy}(h:Dh H v it)(s:AG H a):Dh a v it:=by
 obtain⟨e,h,t⟩:=h;exact⟨e,s _ _ h,t.up s⟩
theorem Dh.ref{it:Cy}(h:Dh H v it):∃a,v=.ref a:=by
 obtain⟨e,h,t⟩:=h;exact⟨_,e⟩
theorem Ay.get(h:Ay cl H vs its):∀{i:Nat}{v:V},vs[i]?=some v->∃j y r,its[i]?=some (some (j,y,r))/\j<9/\Ba cl H v j y r:=by
 induction h with
 |nil=>intro i v e;cases e
 |cons a h _ b=>
  intro i v e;cases i with
  |zero=>cases e;exact⟨_,_,_,rfl,a,h⟩
  |succ i=>exact b e
theorem Ba.Ky{a C l:Addr}(d:Ba cl H v j y r)(h:H a=some (.ins C l [])):Ba cl (upd H a o) v j y r:=by
 have k:∀{b i c:Addr}{fs:List (Str×V)},H b=some (.ins i c fs)->fs.lookup ("path":Str)=some y->upd H a o b=some (.ins i c fs):=fun g p=>by
  rw[AH (fun z=>by rw[z,h]at g;cases g;cases p)];exact g
 cases d with
 |one e g n p t=>exact .one e (k g p) n p t
 |two e g n p t f=>exact .two e (k g p) n p t f
 |val e g n p t f m q=>exact .val e (k g p) n p t f (m.ins h) (q.ins h)
theorem Ay.Ky{cl:Nat->Addr}{H:Hp}{vs:List V}{its:List Cy}{a C b:Addr}{o:HO}(d:Ay cl H vs its)(h:H a=some (.ins C b [])):Ay cl (upd H a o) vs its:=by
 induction d with
 |nil=>exact .nil
 |cons c g _ e=>exact .cons c (g.Ky h) e
theorem OW{a:Addr}(n:a≠D):BE D (upd H a o)=upd (BE D H) a o:=by
 funext b;unfold BE;by_cases z:b=D
 ·rw[if_pos z,AH (fun e=>n (by rw[<-e,z])),if_pos z]
 ·rw[if_neg z];by_cases y:b=a
  ·rw[y,AD,AD]
  ·rw[AH y,AH y,if_neg z]
inductive Sw(c cl:Nat->Addr)(C:Addr)(vs:List V)(H:Hp)(Q:VK)(E:XK):Prop
 |mk(a f l:Addr)(e:List V)(its:List Cy)(j:vs=[.ref a,.ref l])(k:H a=some (.ins C f []))(h:H l=some (.lst e))(r:Ao H e its)(n:e.length<=43)(m:CG its 0 0=none->∀D g b (fs:List (Str×V)),dB a H b->b a=some (.ins C f fs)->fs.lookup ("deeds":Str)=some (.ref D)->fs.lookup ("rows":Str)=none->b D=some (.lst g)->Ay cl (BE D b) g its->Q .Ae b)(o:∀i,CG its 0 0=some i->∀d b,AG H b->Vj 4 (i:Nat) 0 d b->E .none d b/\E (.ref (c 4)) d b):Sw c cl C vs H Q E
def Xn(c cl:Nat->Addr)(C:Addr):Sp:=fun a H Q E=>Sw c cl C a H Q E
inductive LC(cl:Nat->Addr)(C:Addr)(vs:List V)(H:Hp)(Q:VK):Prop
 |mk(a e D:Addr)(fs:List (Str×V))(d:List V)(its:List Cy)(f:vs=[.ref a])(j:H a=some (.ins C e fs))(l:fs.lookup ("deeds":Str)=some (.ref D))(h:H D=some (.lst d))(g:Ay cl (BE D H) d its)(n:d.length<=43)(q:∀L bs c,AG H c->H L=none->c L=some (.lst bs)->bs.length=its.length->(∀(i:Nat) b,bs[i]?=some b->∃it,its[i]?=some it/\Dh (BE L c) b it)->Q (.ref L) c):LC cl C vs H Q
def OX(cl:Nat->Addr)(C:Addr):Sp:=fun a H Q _=>LC cl C a H Q
def LD(H a:Hp):Hp:=fun b=>match H b with|none=>a b|some (.tup _)=>a b|_=>none
theorem BU{Ha:Hp}{p:Addr}(s:AG H Ha)(n:Ha p=none)(f:a p=some o):LD H a p=some o:=by
 unfold LD;rw[s.free n];exact f
theorem ZQ{p:Addr}{xs:List V}(s:AG H a)(f:a p=some (.tup xs)):LD H a p=some (.tup xs):=by
 unfold LD;cases h:H p with
 |none=>exact f
 |some o=>
  have:=s _ _ h;rw[f]at this;cases this;exact f
theorem ZR:AG (LD H a) a:=fun b o e=>by
 unfold LD at e;split at e
 ·exact e
 ·exact e
 ·cases e
variable{L:Addr}
theorem Sx(h:H L=some (.lst vs)):AG (LD H a) (BE L a):=fun b u e=>by
 have n:b≠L:=fun y=>by
  unfold LD at e;rw[y,h]at e;cases e
 rw[Bt n];exact ZR _ _ e
inductive QN(vs:List V)(H:Hp)(Q:VK):Prop
 |mk(c:Int)(n:Addr)(ys:List Str)(b:vs=[.int c,.ref n])(d:H n=some (.lst (ys.map V.str)))(e:ys.length=6)(f:∀y∈ys,CI y=true)(g:∀(v:V) (a:Hp),AG H a->GR (LD H a) v->Q v a)
def LF:Sp:=fun a H Q _=>QN a H Q
def Mf(H:Hp)(v:V):Prop:=Gd v/\∃i,DX H v (some i)
theorem Mf.up{H a:Hp}{v:V}(h:Mf H v)(s:AG H a):Mf a v:=⟨h.1,let⟨i,x⟩:=h.2;⟨i,x.up s⟩⟩
inductive Sy(vs:List V)(H:Hp)(Q:VK):Prop
 |mk(c:Int)(n:Addr)(ys:List Str)(b:vs=[.int c,.ref n])(d:H n=some (.lst (ys.map V.str)))(e:ys.length=6)(f:∀y∈ys,CI y=true)(g:∀(v:V) (a:Hp),AG H a->Mf (LD H a) v->Q v a)
def OY:Sp:=fun a H Q _=>Sy a H Q
noncomputable def dP:Option Nat->V
 |some i=>.int (i:Nat)
 |none=>.Ae
inductive Sz(vs:List V)(H:Hp)(Q:VK):Prop
 |mk(l o:Addr)(a:List V)(its:List Cy)(os:List Int)(c:vs=[.ref l,.ref o])(h:H l=some (.lst a))(r:Ao H a its)(n:a.length<=43)(d:H o=some (.lst (os.map V.int)))(e:os.length<=10)(f:∀i:Nat,i<its.length->(its[i]?=some none↔(i:Int)∈os))(q:∀b,AG H b->Q (dP (CG its 0 0)) b)
def OZ:Sp:=fun a H Q _=>Sz a H Q
inductive Hx(vs:List V)(H:Hp)(Q:VK):Prop
 |mk(l:Addr)(c:List V)(its:List Cy)(d:vs=[.ref l])(h:H l=some (.lst c))(r:Ao H c its)(n:c.length<=43)(e:CG its 0 0=none->∀t L bs a,AG H a->a t=some (.tup [.str "made",.ref L])->a L=some (.lst bs)->bs.length=its.length->(∀(i:Nat) b,bs[i]?=some b->∃it,its[i]?=some it/\Dh a b it)->Q (.ref t) a)(f:∀i:Nat,CG its 0 0=some i->∀t a,AG H a->a t=some (.tup [.str "at",.int (i:Nat)])->Q (.ref t) a):Hx vs H Q
def LG:Sp:=fun a H Q _=>Hx a H Q
inductive Li(K:qG)(H:Hp):Nat->V->V->Prop
 |e {n:Nat} {u v:V} (h:Um K H u v):Li K H n u v
 |lst {n:Nat} {a b:Addr} {xs ys:List V} (c:Ap K H a xs) (d:Ap K H b ys) (l:xs.length=ys.length) (h:∀(i:Nat) u v,xs[i]?=some u->ys[i]?=some v->Li K H n u v):Li K H (n+1) (.ref a) (.ref b)
 |tup {n:Nat} {a b:Addr} {xs ys:List V} (c:Az K H a xs) (d:Az K H b ys) (l:xs.length=ys.length) (h:∀(i:Nat) u v,xs[i]?=some u->ys[i]?=some v->Li K H n u v):Li K H (n+1) (.ref a) (.ref b)
variable{A:Around}
section
variable {σ:St} 
theorem Li.rc{a b:Addr}(I:Inv X pins σ H s)(h:Li X.K H (n+1) (.ref a) (.ref b))(C:∀{x y:V},Li X.K H n x y->∀{A:Around} {u v:Value},A.units+n+20<cLine->RelV x u->RelV y v->OO X.prog X.w A s u v)(E:A.units+(n+1)+20<cLine)(ne:a≠b∨True):(∃e:Um X.K H (.ref a) (.ref b),True)∨c_ X.prog X.w A s (.ref a) (.ref b):=by
 cases h with
 |e h=>exact .inl ⟨h,trivial⟩
 |@lst _ _ _ xs D g i l h=>
  obtain⟨k,c,m,_⟩:=I.list g;obtain⟨d,f,o,_⟩:=I.list i;refine .inr (Kw m.isList o.isList (by rw[List.size_toArray,List.size_toArray,<-c.length,<-f.length,l]) (by lia) fun j p q=>?_);obtain⟨x,r,t⟩:=BK c p;obtain⟨y,z,B⟩:=BK f q;exact C (h j x y r z) (A:=A.in1) (by show A.units+1+n+20<cLine;lia) t B
 |@tup _ _ _ xs D g i l h=>
  obtain⟨k,c,m,_⟩:=I.tuple g;obtain⟨d,f,o,_⟩:=I.tuple i;refine .inr (Hw m o (by rw[List.size_toArray,List.size_toArray,<-c.length,<-f.length,l]) (by lia) fun j p q=>?_);obtain⟨x,r,t⟩:=BK c p;obtain⟨y,z,B⟩:=BK f q;exact C (h j x y r z) (A:=A.in1) (by show A.units+1+n+20<cLine;lia) t B
theorem Li.at(I:Inv X pins σ H s):∀{n:Nat}{x y:V},Li X.K H n x y->∀{A:Around}{u k:Value},A.units+n+20<cLine->RelV x u->RelV y k->OO X.prog X.w A s u k
 |0,x,y,h,A,u,k,i,c,d=>by
  cases h with
  |e h=>exact h.at I (by lia) c d
 |n+1,x,y,h,A,u,k,i,c,d=>by
  have key:∀{a b:Addr},Li X.K H (n+1) (.ref a) (.ref b)->OO X.prog X.w A s (.ref a) (.ref b):=fun{a b} h=>by
   rcases Li.rc I h (fun h=>Li.at I h) i (.inr trivial)with⟨e,_⟩|r
   ·exact e.at I (by lia) rfl rfl
   ·exact OO.refs fun _=>r
  cases h with
  |e h=>exact h.at I (by lia) c d
  |@lst _ a b xs j f g l h=>
   cases(show u=Value.ref a from c);cases(show k=Value.ref b from d);exact key (.lst f g l h)
  |@tup _ a b xs j f g l h=>
   cases(show u=Value.ref a from c);cases(show k=Value.ref b from d);exact key (.tup f g l h)
end
inductive ZS(K:qG)(x y:V)(H:Hp)(Q:VK):Prop
 |lst (a b:Addr) (xs ys:List V) (c:x=.ref a) (d:y=.ref b) (e:Ap K H a xs) (f:Ap K H b ys) (l:xs.length=ys.length) (h:∀(i:Nat) u v,xs[i]?=some u->ys[i]?=some v->Li K H 20 u v) (q:Q (.bl true) H):ZS K x y H Q
 |tup (a b:Addr) (xs ys:List V) (c:x=.ref a) (d:y=.ref b) (e:Az K H a xs) (f:Az K H b ys) (l:xs.length=ys.length) (h:∀(i:Nat) u v,xs[i]?=some u->ys[i]?=some v->Li K H 20 u v) (q:Q (.bl true) H):ZS K x y H Q
theorem S_(D:X.A.units+64<cLine):DC X (compareOp .Eq) (ZS X.K):=by
 intro pins s E H x y v u Q I c d h;cases h with
 |lst a b xs C i k m n l h q=>
  subst i k;cases c;cases d;obtain⟨o,e,p,_⟩:=I.list m;obtain⟨f,g,r,_⟩:=I.list n;refine Kw (A:=X.A) p.isList r.isList (by rw[List.size_toArray,List.size_toArray,<-e.length,<-g.length,l]) (by lia) (fun j t w=>?_) _ _ ⟨.bl true,H,I,rfl,q⟩;obtain⟨x,z,c⟩:=BK e t;obtain⟨y,B,d⟩:=BK g w;exact(h j x y z B).at I (A:=X.A.in1) (by show X.A.units+1+20+20<cLine;lia) c d
 |tup a b xs C i k m n l h q=>
  subst i k;cases c;cases d;obtain⟨o,e,p,_⟩:=I.tuple m;obtain⟨f,g,r,_⟩:=I.tuple n;refine Hw (A:=X.A) p r (by rw[List.size_toArray,List.size_toArray,<-e.length,<-g.length,l]) (by lia) (fun j t w=>?_) _ _ ⟨.bl true,H,I,rfl,q⟩;obtain⟨x,z,c⟩:=BK e t;obtain⟨y,B,d⟩:=BK g w;exact(h j x y z B).at I (A:=X.A.in1) (by show X.A.units+1+20+20<cLine;lia) c d
theorem Ge(w:Int):∀a:List Int,Lh (.int w) (a.map V.int)=decide (w∈a)
 |[]=>rfl
 |x::a=>by
  have b:=Ge w a;unfold Lh at b⊢;rw[List.map_cons,List.any_cons,b];have:L_ (.int x) (.int w)=decide (w=x):=by
   by_cases h:w=x
   ·subst h;rw[decide_eq_true rfl];exact GP rfl
   ·rw[decide_eq_false h];simp only[L_];simp[Ne.symm h]
  rw[this];by_cases h:w=x<;>simp[h]
theorem QO(a:List Int):(a.map V.int).all BJ=true:=by
 rw[List.all_map,List.all_eq_true];exact fun _ _=>rfl
theorem CJ.S'{x:Nat×V×List V}(h:CJ H v (some x)):∃a r,v=.ref a/\x.1<9/\H a=some (.tup (.str (FT x.1)::r)):=by
 cases h with
 |good e _ b g=>exact⟨_,_,e,b,g.row⟩
def fF:Cy->Prop
 |none=>True
 |some x=>(∃b,x.2.1=.ref b)/\∀z∈x.2.2,Gd z
theorem GR.it(h:GR H v):∃x,CJ H v (some x)/\fF (some x)/\Gd v:=by
 obtain⟨a,b,j,r,e,x,c,g,f⟩:=h;exact⟨(j,.ref b,r),.good e x c g,⟨⟨b,rfl⟩,f⟩,.inr ⟨a,e⟩⟩
theorem Mf.it(h:Mf H v):CJ H v none:=by
 obtain⟨_,i,x⟩:=h;exact .bad x
theorem LH:∀{its:List Cy}{d c i:Nat},CG its d c=some (d+i)->CG (its.take i) d c=none
 |[],d,c,i,h=>by cases h
 |none::r,d,c,i,h=>by
  have:d=d+i:=by simpa[CG]using h
  have:i=0:=by lia
  subst this;rfl
 |some x::r,d,c,i,h=>by
  unfold CG at h;split at h
  ·have:d=d+i:=by simpa using h
   have:i=0:=by lia
   subst this;rfl
  ·rename_i b
   cases i with
   |zero=>rfl
   |succ i=>
    rw[List.take_succ_cons];unfold CG;rw[if_neg b];exact LH (by rw[h];congr 1;lia)
theorem Oa{b:V}{it:Cy}(t:Dh H b it)(r:CJ H v it)(f:fF it):Li K H (n+1) b v:=by
 cases t with
 |@mk s j y l m e h o=>
  cases r with
  |@good a _ _ _ e2 x u g=>
   subst e e2;obtain⟨⟨c,d⟩,f⟩:=f;have d:y=.ref c:=d;subst d;have k:HL K H (.str (FT j)::.ref c::m) (.str (FT j)::.ref c::l):=.cons (.x (.self rfl)) (.cons (.x .same) (o.eqs (K:=K) f));exact .tup (n:=n) (Az.of h) (Az.of g.row) k.length fun i x y p q=>.e (k.get i x y p q)
theorem QP{O:Addr}(s:AG H a):AG (BE O (BE L H)) (BE O (BE L a)):=DI (DI s)
theorem V_{O:Addr}{us:List V}(h:H L=some (.lst vs))(g:H O=some (.lst us)):AG (LD H a) (BE O (BE L a)):=fun b u e=>by
 have n:b≠O:=fun y=>by
  unfold LD at e;rw[y,g]at e;cases e
 rw[Bt n];exact Sx h _ _ e
theorem ZT{O:Addr}{G:Hp}(s:AG G a)(n:G O=none):AG (BE L G) (BE O (BE L a)):=fun b u e=>by
 by_cases z:b=L
 ·rw[z]at e;unfold BE at e;rw[if_pos rfl]at e;cases e
 ·rw[Bt z]at e;rw[Bt (AY e n),Bt z];exact s _ _ e
theorem Gd.x(h:Gd v):OD K H n v v:=by
 rcases h with h|⟨a,rfl⟩
 ·exact .self h
 ·exact .same
theorem Gd.xs{K:qG}{H:Hp}{n:Nat}:∀{r:List V},(∀z∈r,Gd z)->Ih K H n r r
 |[],_=>.nil
 |x::r,h=>.cons (h x List.mem_cons_self).x (Gd.xs fun z a=>h z (List.mem_cons_of_mem _ a))
def iM(K:qG)(C b a:Addr):Bool:=
 PySem.W.makesIn K C&&(PySem.W.findIn K (.ref C) "__init__"==some (some (.ref b))&&(PySem.W.isFn K (.ref b)&&(PySem.W.keepIn K (.ref C)&&(PySem.W.findIn K (.ref C) "rows"==some (some (.ref a))&&(PySem.W.isFn K (.ref a)&&(PySem.W.keepIn K (.ref a)&&
 (PySem.W.plainGet K C Str.empty&&(PySem.W.hasDictIn K C&&(PySem.W.plainOver K C&&(PySem.W.findIn K (.ref C) "__setattr__"==some (some (.builtin "object.__setattr__"))&&PySem.W.findIn K (.ref C) "deeds"==some none))))))))))
structure iN(K:qG)(C fI fR:Addr):Prop where
 M:Mk K C fI
 hm:Meth K C "rows" fR
 c:DW K C
 nD:AS K C "deeds"
theorem iN.of{C d e:Addr}(h:iM K C d e=true):iN K C d e:=by
 simp only[iM,Bool.and_eq_true,beq_iff_eq]at h;obtain⟨f,g,i,j,k,l,m,n,o,a,b,c⟩:=h;exact⟨⟨f,g,i,j⟩,⟨k,l,m⟩,⟨n,o,a,b⟩,c⟩
variable{k:Nat}
theorem Aq.mm(r:Aq k A)(h:j<=k:=by first|decide|lia):Aq j A:=r.mono h
theorem FU(K:qG){j:Int}(i:Nat){x:Str}{y:_}{b c pos:Pos}(d:X.N[i]?=some x:=by rfl)(f:bS X.env.scope x:=by first|exact Or.inl rfl|exact Or.inr (Or.inl rfl)|exact Or.inr (Or.inr rfl))(g:(x==("__debug__":Str))=false:=by decide)(a:(x==("__classdict__":Str))=false:=by decide)(e:X.K=K:=by rfl):PE X (.Subscript (.Name x b) (.Constant (.int j) y c) pos) (bG (Pb K) (YD i) (tC (.int j))):=by
 subst e;exact Be Fy (pv i d f g a) AF (fun _ _=>rfl)
theorem BL(i:Nat){x:Str}{a:TE}{pos pos':Pos}(b:X.N.Nodup)(c:PE X e a)(d:X.N[i]?=some x:=by rfl)(f:Loc X.env.scope x:=by exact Or.inl rfl)(g:swapsWith e (some (.Name x pos')) pos.line X.env=pure false:=by rfl)(h:X.fn x=true∨X.env.scope.names.lookup x=some .local:=by first|exact .inl rfl|exact .inr rfl|assumption):
  PS X (.Assign [.Name x pos'] e pos) (YI a (Fn i)):=BA b d f c g h
theorem Bh{x z:V}:[x,y,z].length<=sizeLine:=Ab (show 3<=1000 by decide)
theorem Di(i:Nat){x:Str}{pos:Pos}(a:X.N.Nodup)(b:X.N[i]?=some x:=by rfl)(c:Loc X.env.scope x:=by exact Or.inl rfl)(d:X.fn x=true∨X.env.scope.names.lookup x=some .local:=by first|exact .inl rfl|exact .inr rfl|assumption):PG X (.Name x pos) (Fn i):=IJ a b c d
variable{ps:List Str}{st:Stmt}
section
variable {w:World} {mg:Str->Option Value} {base:Heap}
theorem CT.oq{x qual:Str}{f:Addr}{c:FuncData}{sp:Sp}(F:CT K x qual st f c)(N:List Str)(a:∀{b:Value} {A:Around} {outer:List Env} {s:Shared} {vs:List V} {E:XK} (H:Hp) (e:Ends),(∀{g H},e.rt .Ae H->e.nx g H)->N.Nodup->(A.deeper (envOfC qual (AJ st) s.heap.objs.size f b)).units+1<cLine->Aq k (A.deeper (envOfC qual (AJ st) s.heap.objs.size f b))->sp vs H e.rt E->
   ∃t,G' (CO BP P w K mg base N qual (AJ st) f b A outer s H E).Uu (AU st) t/\t e (start N vs) H)(S:BO N ps (AJ st):=by exact{})(len:∀vs H Q E,sp vs H Q E->vs.length=ps.length:=by intro _ _ _ _ h;first|(obtain⟨⟩:=h;subst_vars;rfl)|(obtain⟨_,⟨⟩⟩:=h;subst_vars;rfl)|(obtain⟨_,_,_,_,_,_,rfl,_⟩:=h;rfl)|(repeat obtain⟨_,h⟩:=h);subst_vars;rfl):AV P w K mg base BP (k+1) f c ps sp:=F.ok S len fun _ _ _ _ H _ e _ i d h=>a H e i S.nd (Hk d) d h
end
theorem Bo{sp:Sp}{x:Str}{pos:Pos}{a:List Expr}{t:TA}(D:Df X.prog X.w X.K X.mg X.base x ps k sp)(g:Aq j X.A)(h:PA X (e::a) t)(i:Gl X x:=by rfl)(c:(x==("__debug__":Str))=false:=by decide)(l:starEach (e::a) X.env=(false,eval e X.env)::starEach a X.env:=by rfl)(d:(backTo pos (starEach a X.env)).any (·.1)=false:=by rfl)(n:k<=j:=by first|decide|lia):PE X (.Call (.Name x p) (e::a) [] pos) (XY sp [] E0 t):=by
 obtain⟨f,o,k,b,m,G⟩:=D.ex;exact IQ G (g.mono n) i m k b .nil Cv h c l d
theorem Ax{a:TE}(h:PE X e a)(b:starEach [e] X.env=(false,eval e X.env)::starEach [] X.env:=by rfl):PA X [e] (Fv a Ls):=AA h AI b
theorem ZU(K:qG){a b:Expr}{c d:TE}{pos:Pos}(f:PE X a c)(g:PE X b d)(h:Np b:=by exact fun _ _=>rfl)(e:X.K=K:=by rfl):PE X (.Subscript a b pos) (bG (FJ K) c d):=by
 subst e;exact Be Bf f g h
theorem fG{o i:Expr}{a ty:TE}{pos:Pos}(b:X.A.units+1<cLine)(c:PE X o a)(d:PE X i ty)(e:VE i:=by exact fun _ _=>rfl):PE X (.Subscript o i pos) (Xb a ty):=VF b c d e
theorem cmp{x:Str}{b pos:Pos}{iter a:Expr}{c:TI}{d:TE}{scope:Scope}(fv:List Str)(fs:List Nat)(e:PI X (.Name x b) iter c)(f:∀C g h i,PE (KW X (x::fv) scope C g h i) a d)(j:X.calm=true:=by rfl)(ok:Bl X scope x fv fs:=by exact .of (by rfl))(k:∀x,foldedSetIterable iter X.env x=pure x:=by intro _;rfl):PE X (.ListComp a [⟨.Name x b,iter,[],0⟩] scope pos) (KY c VI d fs):=VJ j ok e (fun _ _ _ _=>Nx) f k
theorem Hy{r:List V->Hp->VK->Prop}{a:TE}{q pos:Pos}{y:Str}{U:String}(c:BG X (.builtin "isinstance") r)(T:Txt X.mg)(d:PE X e a)(f:X.mg y=none)(g:bootBuiltins y=some (.type U))(h:Gl X "isinstance":=by rfl)(i:Gl X y:=by rfl)(j:y≠"__name__":=by decide)(k:(y==("__debug__":Str))=false:=by decide)(b:starEach [e,.Name y q] X.env=(false,eval e X.env)::starEach [.Name y q] X.env:=by rfl):PE X (.Call (.Name "isinstance" p) [e,.Name y q] [] pos) (el r (Fv a (Fv (tC (.ty U)) Ls))):=An c h T.isinstance A_ (AA d (AA (Ut i f g rfl j k) AI) b) (by decide) (by decide) b
theorem BC{j:Int}(h:0<j:=by decide):0<j:=h
theorem B'{A B:Prop}(h:A:=by decide)(a:B:=by decide):A/\B:=⟨h,a⟩
theorem bM{a iter:Expr}{body:List Stmt}{b:TI}{c:TS}{pos:Pos}(d:PI X a iter b)(e:PG X a g)(f:G' X body c)(h:PassesOwn (model X.prog X.w) X.A X.env X.xe:=by exact PassesOwn.never)(i:X.calm=true:=by rfl)(j:∀x,foldedSetIterable iter X.env x=pure x:=by intro _;rfl):PS X (.For a iter body [] pos) (bc b g c):=RE h i d e f j
theorem dQ{c:Bool}{A B:Prop}(h:B)(a:c=false:=by decide+kernel):if c=true then A else B:=Aj a h
inductive FA(K:qG)(x:Str)(st:Stmt):Prop
 |mk(f:Addr)(b:FuncData)(F:CT K x x st f b)(a:PySem.W.nsIn K mainGlobals x=some (some (.ref f)))
theorem fa{x:Str}{f:Addr}{g:Value}{od h:Option Addr}{d:Array (Option Value)}{kV e i b ct:Value}(a:PySem.W.nsIn K mainGlobals x=some (some (.ref f)))(l:K.lookup f=some ⟨g,od,.func (PySem.W.fnOf x x (AX st) (AU st) (AJ st) .none kV e i h b ct),d⟩)(c:PySem.W.codeIn K b x=true)(k:PySem.W.keepIn K (.ref f)=true):FA K x st:=⟨_,_,Av l c k,a⟩
end L2
namespace Bb
open PySem L2
def top(i:Nat):Stmt:=PySem.Challenge.pw_patchbough_k36_patches_refused.main.body.getD i (.Pass ⟨0,0,0,0⟩)
abbrev Fq(K:qG)(x:Str)(i:Nat)(f:Addr)(d:FuncData):Prop:=CT K x x (top i) f d
abbrev Fb(K:qG)(x:Str)(i:Nat):Prop:=FA K x (top i)
abbrev Mg:Stmt:=top 15
abbrev I_:Stmt:=top 62
abbrev V':Stmt:=top 63
abbrev TB:Stmt:=top 67
abbrev Mh:Stmt:=top 77
abbrev CA:Stmt:=inClass (top 20) 0
abbrev BF:Stmt:=inClass (top 22) 0
abbrev DJ:Stmt:=inClass (top 47) 0
abbrev DK:Stmt:=inClass (top 47) 2
abbrev CZ:Stmt:=inClass (top 48) 0
abbrev Ca:Stmt:=inClass (top 48) 2
abbrev Bq:Stmt:=inClass (top 49) 0
abbrev Br:Stmt:=inClass (top 49) 2
abbrev Cb:Stmt:=inClass (top 50) 0
abbrev Cc:Stmt:=inClass (top 50) 2
abbrev Cd:Stmt:=inClass (top 51) 0
abbrev Ce:Stmt:=inClass (top 51) 2
abbrev DL:Stmt:=inClass (top 52) 0
abbrev DM:Stmt:=inClass (top 52) 2
abbrev DN:Stmt:=inClass (top 53) 0
abbrev DO:Stmt:=inClass (top 53) 2
abbrev CB:Stmt:=inClass (top 54) 0
abbrev CC:Stmt:=inClass (top 54) 2
abbrev EN:Stmt:=inClass (top 55) 0
abbrev EO:Stmt:=inClass (top 55) 2
abbrev Bn:Stmt:=inClass (top 68) 0
abbrev CD:Stmt:=inClass (top 68) 1
def bO(a c1 c2 c3 c4 c5 c6 c7 c8:Nat):Nat->Nat:=fun j=>[a,c1,c2,c3,c4,c5,c6,c7,c8].getD j 0
end Bb
namespace Bb
open PySem L2
variable{a:FuncData}
section
variable{P:Program} {w:World} {K:qG} {mg:Str->Option Value} {base:Heap}
theorem JA{C f:Addr}(F:CT K "__init__" "NoRow.__init__" CA f a)(k:Io K C "at"):AV P w K mg base BP 1 f a ["self","at"] (Bg C):=by
 refine F.oq ["self","at"] fun H _ b _ _ l h=>?_;obtain⟨c,i,rfl,d,q⟩:=h;refine⟨_,(AB (GW rfl (pv 0) (pv 1) rfl)),?_⟩;exact⟨_,rfl,_,rfl,c,C,rfl,d,k,fun e g j=>b (q e g j)⟩
theorem HN:BO ["self","at"] ["self","at"] (AJ BF):={}
theorem Gf{C f:Addr}(F:CT K "__init__" "NoPatch.__init__" BF f a)(k:Io K C "at"):AV P w K mg base BP 1 f a ["self","at"] (Bg C):=by
 refine F.oq ["self","at"] fun H _ b _ _ l h=>?_;obtain⟨c,i,rfl,d,q⟩:=h;refine⟨_,(AB (GW rfl (pv 0) (pv 1) rfl)),?_⟩;exact⟨_,rfl,_,rfl,c,C,rfl,d,k,fun e g j=>b (q e g j)⟩
theorem FV{C f:Addr}(F:CT K "__init__" "NoPatch.__init__" BF f a)(k:Io K C "at"):Kq P w K mg base BP 1 f a ["self","at"] (Bg C):=by
 refine F.okN HN (fun d H Q E h=>?_) (fun e A outer s H d Q E m h=>?_)
 ·obtain⟨b,i,rfl,c,q⟩:=h;rfl
 ·obtain⟨b,i,rfl,c,q⟩:=h;refine⟨_,(AB (GW rfl (pv 0) (pv 1) rfl)),?_⟩;exact⟨_,rfl,_,rfl,b,C,rfl,c,k,fun g j l=>q g j l⟩
end
end Bb
namespace Bb
open PySem L2
end Bb
namespace Bb
open PySem L2
variable{f:Addr}
section
variable{P:Program} {w:World} {K:qG} {mg:Str->Option Value} {base:Heap}
theorem Mi{a:FuncData}(F:Fq K "is_whole" 5 f a)(T:Txt mg):AV P w K mg base BP 1 f a ["thing"] Ie:=by
 refine F.oq ["thing"] fun H _ _ _ _ b h=>?_;obtain⟨v,Ty,rfl,ty,k⟩:=h;refine⟨_,(AB (AK (Bi (Hy Af T (pv 0) T.int Kf) (Bc (Lj (Hy Af T (pv 0) T.bool Rl)))))),?_⟩;refine⟨v,rfl,v,"int",Ty,rfl,rfl,ty,_,rfl,?_⟩;have e:MS v=(IX Ty "int"&& !IX Ty "bool"):=by cases ty<;>simp[MS,IX]
 rw[e]at k;refine KS (fun h=>?_) (fun h=>?_)
 ·refine⟨v,rfl,v,"bool",Ty,rfl,rfl,ty,_,rfl,?_⟩;rw[h]at k;exact k
 ·rw[Bool.not_eq_true _|>.mp h]at k;exact k
theorem Dt{j:FuncData}(F:Fq K "has_letters_alone" 6 f j)(T:Txt mg)(l:∃t,mg "LETTERS"=some (.str "abcdefghijklmnopqrstuvwxyz" t)):AV P w K mg base BP 1 f j ["text"] Ec:=by
 obtain⟨m,p⟩:=l;refine F.oq ["text"] fun H _ _ _ _ z h=>?_;obtain⟨x,rfl,q,k⟩:=h;refine⟨_,(AB (AK (An (ED rfl) rfl T.all N_ (Ax (cmp [] [] (Yd (pv 0)) fun _ _ _ _=>(BD PX (pv 0) (Au (v:=.str "abcdefghijklmnopqrstuvwxyz") rfl p ⟨m,rfl⟩) rfl)))))),?_⟩;refine⟨.str x,rfl,x,rfl,?_⟩;refine Hm (n:=x.cps.size) (fun i=>.str ⟨#[x.cps.getD i 0]⟩) (fun i=>.bl (Ju (x.cps.getD i 0))) (fun _=>true) ?_ (fun i D g a d=>a) (fun i D g v A a d y=>?_) (fun D g d=>rfl) (fun i D g R a d r=>by exact r) (fun i D g R a d _ r=>?_) (fun D d=>?_)
 ·have:x.cps.size<=1000:=q;exact Nat.le_of_lt (BH this)
 ·obtain⟨e,c,s,e2⟩:=y;subst e e2;have:x.cps.getD i 0=c:=by rw[Array.getD_eq_getD_getElem?,s];rfl
  exact⟨by rw[this],rfl⟩
 ·refine⟨_,rfl,_,_,rfl,rfl,?_⟩;rw[StrLaws.found_one];exact r
 ·refine⟨D,(sgn x).map Ju,rfl,?_,?_⟩
  ·have e:List.map (fun i=>V.bl (Ju (x.cps.getD i 0))) (List.filter (fun _=>true) (List.range x.cps.size))=List.map V.bl (List.map Ju (sgn x)):=by
    rw[List.filter_eq_self.mpr fun _ _=>rfl,List.map_map];refine List.ext_getElem (by simp) fun i u B=>?_;simp only[List.getElem_map,List.getElem_range,Function.comp];congr 2;have a:i<x.cps.size:=by simpa using u
    rw[Array.getD_eq_getD_getElem?,Array.getElem?_eq_getElem a];simp
   rw[e];exact Ap.of AD
  ·rw[List.all_map];exact k _ fun b o e=>by rw[AH (AY e d)];exact e
theorem QQ{g:FuncData}(F:Fq K "is_name" 7 f g)(T:Txt mg)(a:Df P w K mg base "has_letters_alone" ["text"] 1 Ec)(l:∃t,mg "LONGEST_NAME"=some (.int 8 t)):AV P w K mg base BP 2 f g ["thing"] MV:=by
 obtain⟨m,n⟩:=l;refine F.oq ["thing"] fun H _ _ _ _ o h=>?_;obtain⟨v,Ty,rfl,ty,p,k⟩:=h;refine⟨_,(AB (AK (Bi (Hy Af T (pv 0) T.str GJ) (Bi (RK Nk Nk AF (An D' rfl T.len PySem.boot_len (Ax (pv 0))) (Au (v:=.int 8) rfl n ⟨m,rfl⟩)) (Bc (Bo a o (Ax (pv 0)))))))),?_⟩;refine⟨v,rfl,v,"str",Ty,rfl,rfl,ty,_,rfl,?_⟩;cases ty with
 |str x=>
  refine Co ?_;have j:=p x rfl;have q:x.length<=sizeLine:=Nat.le_of_lt (BH j);refine⟨.str x,rfl,x,rfl,q,1,_,rfl,rfl,_,rfl,?_⟩;have k:=k;have e:Kj (.str x)=(decide (1<=x.length)&&decide (x.length<=8)&&(sgn x).all Ju):=by
   show EF (sgn x)=_;unfold EF;rw[Cq]
  rw[e]at k;have r:decide ((1:Int)<=(x.length:Int))=decide (1<=x.length):=by rw[Bool.eq_iff_iff];simp;lia
  have s:decide ((x.length:Int)<=8)=decide (x.length<=8):=by rw[Bool.eq_iff_iff];simp;lia
  rw[r];refine KS (fun c=>?_) (fun c=>?_)
  ·rw[c]at k;refine⟨_,_,rfl,rfl,_,rfl,?_⟩;rw[s];refine KS (fun d=>?_) (fun d=>?_)
   ·rw[d]at k;exact⟨.str x,rfl,x,rfl,j,k⟩
   ·rw[Bool.not_eq_true _|>.mp d]at k;exact k H (AG.refl H)
  ·rw[Bool.not_eq_true _|>.mp c]at k;exact⟨_,rfl,Aa (k H (AG.refl H))⟩
 |Ae=>exact Aa (k H (AG.refl H))
 |bl b=>exact Aa (k H (AG.refl H))
 |int i=>exact Aa (k H (AG.refl H))
 |lst e=>exact Aa (k H (AG.refl H))
 |tup e=>exact Aa (k H (AG.refl H))
 |dK e=>exact Aa (k H (AG.refl H))
theorem Mj{X:FuncData}(F:Fq K "is_sound" 8 f X)(T:Txt mg)(p:Df P w K mg base "is_whole" ["thing"] 1 Ie)(c:Df P w K mg base "has_letters_alone" ["text"] 1 Ec)(m:Df P w K mg base "is_name" ["thing"] 2 MV)(hT:∃t,mg "LONGEST_TEXT"=some (.int 12 t)):AV P w K mg base BP 3 f X ["thing"] Km:=by
 obtain⟨tl,L⟩:=hT;refine F.oq ["thing"] fun H _ _ _ _ M h=>?_;obtain⟨v,rfl,h⟩:=h;refine⟨_,(AE (Ai (BM (Hy (Dq:BG _ _ Ij) T (pv 0) T.list EZ)) (AB (AK DY)) AO) (AE (Ai (BM (Hy (Dq:BG _ _ Ij) T (pv 0) T.dict Ia)) (AB (AK (An (ED rfl) rfl T.all N_ (Ax (GO (VY (cmp [] [] (VV (pv 0)) fun _ _ _ _=>(Bo m M (Ax (pv 0))))) (cmp [] [] (Ys (pv 0)) fun _ _ _ _=>(Bo m M (Ax (pv 0))))))))) AO) (AE (Ai (BM (Hy (Dq:BG _ _ Ij) T (pv 0) T.str GJ)) (AB (AK (Bi (BD Nk (An D' rfl T.len PySem.boot_len (Ax (pv 0))) (Au (v:=.int 12) rfl L ⟨tl,rfl⟩) (AQ _)) (Bc (Bo c M (Ax (pv 0))))))) AO) (AB (AK (Bo p M (Ax (pv 0)))))))),?_⟩;rcases h with⟨u,q⟩|⟨its,node,L,q⟩
 ·cases u with
  |bl b=>exact⟨_,rfl,.inl ⟨_,"list","bool",rfl,rfl,.bl b,_,rfl,Aa ⟨_,rfl,.inl ⟨_,"dict","bool",rfl,rfl,.bl b,_,rfl,Aa ⟨_,rfl,.inl ⟨_,"str","bool",rfl,rfl,.bl b,_,rfl,Aa ⟨_,rfl,_,_,rfl,.bl b,q H (AG.refl H)⟩⟩⟩⟩⟩⟩⟩
  |Ae=>exact⟨_,rfl,.inl ⟨_,"list","NoneType",rfl,rfl,.Ae,_,rfl,Aa ⟨_,rfl,.inl ⟨_,"dict","NoneType",rfl,rfl,.Ae,_,rfl,Aa ⟨_,rfl,.inl ⟨_,"str","NoneType",rfl,rfl,.Ae,_,rfl,Aa ⟨_,rfl,_,_,rfl,.Ae,q H (AG.refl H)⟩⟩⟩⟩⟩⟩⟩
  |tup h=>exact⟨_,rfl,.inl ⟨_,"list","tuple",rfl,rfl,.tup h,_,rfl,Aa ⟨_,rfl,.inl ⟨_,"dict","tuple",rfl,rfl,.tup h,_,rfl,Aa ⟨_,rfl,.inl ⟨_,"str","tuple",rfl,rfl,.tup h,_,rfl,Aa ⟨_,rfl,_,_,rfl,.tup h,q H (AG.refl H)⟩⟩⟩⟩⟩⟩⟩
  |@txt x l h=>
   refine⟨_,rfl,.inl ⟨_,"list","str",rfl,rfl,.str x,_,rfl,Aa ⟨_,rfl,.inl ⟨_,"dict","str",rfl,rfl,.str x,_,rfl,Aa ⟨_,rfl,.inl ⟨_,"str","str",rfl,rfl,.str x,_,rfl,Co ?_⟩⟩⟩⟩⟩⟩;refine⟨_,rfl,x,rfl,Ab (by lia),_,_,rfl,rfl,_,rfl,?_⟩;by_cases Q:x.length<=12
   ·refine Ad (decide_eq_true (by lia)) ⟨_,rfl,x,rfl,by lia,fun C s=>?_⟩;have e:(sgn x).all Ju=false:=by
     unfold MO at h;rw[decide_eq_true Q,Bool.true_and]at h;exact h
    rw[e];exact q C s
   ·have e:decide ((x.length:Int)<=12)=false:=decide_eq_false (by lia);rw[e];exact Aa (q H (AG.refl H))
  |@key a k v h n S=>
   refine⟨_,rfl,.inl ⟨_,"list","dict",rfl,rfl,.dK h,_,rfl,Aa ?_⟩⟩;refine⟨_,rfl,.inl ⟨_,"dict","dict",rfl,rfl,.dK h,_,rfl,Co ?_⟩⟩;refine .inl ⟨a,_,h,fun o Hf F=>⟨_,rfl,a,o,_,rfl,F.at_,?_⟩⟩;refine EY (n:=1) (fun _=>kV k) (fun _=>.bl false) (fun _=>true) (Ab (show 1<=1000 by decide)) (fun i g j d=>⟨d _ _ F.at_,j⟩) (fun i g v' C j d y=>?_) (fun g d=>⟨d _ _ F.at_,rfl⟩) (fun i g R j d r=>by exact r g (AG.refl g)) (fun i g R j d _ r=>?_) (fun D g N d E=>?_)
   ·obtain⟨e,k',U,e1,e2⟩:=y;have z:i=0:=by lia
    subst z;cases(show some (k,v)=some (k',U)from e1);exact⟨e2,e⟩
   ·obtain⟨Y,ty⟩:=cZ g k;refine⟨_,rfl,_,Y,rfl,ty,S,fun G I=>?_⟩;rw[n];exact r G I
   ·refine⟨d _ _ F.at_,?_⟩;refine⟨D,[false],rfl,Ap.of ?_,q _ (F.back d)⟩;rw[Ic (F.free N).2,E];rfl
  |@odd a o k v Y h t n S=>
   refine⟨_,rfl,.inr ⟨a,o,k,v,"list",rfl,rfl,h,_,rfl,Aa ?_⟩⟩;refine⟨_,rfl,.inr ⟨a,o,k,v,"dict",rfl,rfl,h,_,rfl,Co ?_⟩⟩;refine .inr ⟨_,rfl,a,o,k,v,rfl,h,?_⟩;refine EY (n:=1) (fun _=>k) (fun _=>.bl false) (fun _=>true) (Ab (show 1<=1000 by decide)) (fun i g j d=>⟨d _ _ h,by lia⟩) (fun i g v' C j d y=>⟨y.2,y.1⟩) (fun g d=>⟨d _ _ h,rfl⟩) (fun i g R j d r=>by exact r g (AG.refl g)) (fun i g R j d _ r=>?_) (fun D g N d E=>?_)
   ·refine⟨_,rfl,_,_,rfl,t.same d,S,fun G I=>?_⟩;rw[n];exact r G I
   ·exact⟨D,[false],rfl,Ap.of (by rw[E];rfl),q _ d⟩
 ·cases node with
  |leaf h=>
   rcases h with⟨i,rfl,j⟩|⟨x,rfl,O⟩
   ·exact⟨_,rfl,.inl ⟨_,"list","int",rfl,rfl,.int i,_,rfl,Aa ⟨_,rfl,.inl ⟨_,"dict","int",rfl,rfl,.int i,_,rfl,Aa ⟨_,rfl,.inl ⟨_,"str","int",rfl,rfl,.int i,_,rfl,Aa ⟨_,rfl,_,_,rfl,.int i,q H (AG.refl H)⟩⟩⟩⟩⟩⟩⟩
   ·refine⟨_,rfl,.inl ⟨_,"list","str",rfl,rfl,.str x,_,rfl,Aa ⟨_,rfl,.inl ⟨_,"dict","str",rfl,rfl,.str x,_,rfl,Aa ⟨_,rfl,.inl ⟨_,"str","str",rfl,rfl,.str x,_,rfl,Co ?_⟩⟩⟩⟩⟩⟩;have l12:=Rn O;have L:(sgn x).all Ju=true:=by
     unfold MO at O;simp only[Bool.and_eq_true]at O;exact O.2
    refine⟨_,rfl,x,rfl,Ab (by lia),_,_,rfl,rfl,_,rfl,Ad (decide_eq_true (by lia)) ⟨_,rfl,x,rfl,by lia,fun C s=>?_⟩⟩;rw[L];exact q C s
  |row h=>exact⟨_,rfl,.inl ⟨_,"list","list",rfl,rfl,.lst h,_,rfl,Co (q H (AG.refl H))⟩⟩
  |@tab a J A h Z oi nm l=>
   refine⟨_,rfl,.inl ⟨_,"list","dict",rfl,rfl,.dK h,_,rfl,Aa ?_⟩⟩;refine⟨_,rfl,.inl ⟨_,"dict","dict",rfl,rfl,.dK h,_,rfl,Co ?_⟩⟩;have V:J.length=A.length:=by
    have:=congrArg List.length Z;simpa using this
   have B:∀(i:Nat) k v,J[i]?=some (k,v)->i<A.length/\k=Sum.inr (A.getD i ""):=fun i k v e=>by
    have j:=(p' e).1;rw[V]at j;refine⟨j,?_⟩;have e2:=congrArg (fun z=>z[i]?) Z;simp only[List.getElem?_map,e,p_ j]at e2;have e2:k=Sum.inr A[i]:=by simpa using e2
    rw[e2,List.getD_eq_getElem?_getD,p_ j];rfl
   refine .inl ⟨a,_,h,fun o Hf F=>⟨_,rfl,a,o,_,rfl,F.at_,?_⟩⟩;refine EY (n:=A.length) (fun i=>.str (A.getD i "")) (fun _=>.bl true) (fun _=>true) (Ab (by lia)) (fun i g j d=>⟨d _ _ F.at_,by rw[V];exact j⟩) (fun i g v C j d y=>?_) (fun g d=>⟨d _ _ F.at_,V.symm⟩) (fun i g R j d r=>by exact r g (AG.refl g)) (fun i g R j d _ r=>?_) (fun D g N d E=>?_)
   ·obtain⟨e,k,U,e1,e2⟩:=y;rw[(B i k U e1).2]at e2;exact⟨e2,e⟩
   ·have hm:A.getD i ""∈A:=by
     rw[List.getD_eq_getElem?_getD,p_ j];exact List.getElem_mem j
    have hn:=nm _ hm;refine⟨_,rfl,_,"str",rfl,.str _,fun x e=>?_,fun G I=>?_⟩
    ·cases e;have:=(Hn hn).2;lia
    ·have e:Kj (.str (A.getD i ""))=true:=hn;rw[e];exact r G I
   ·refine⟨d _ _ F.at_,?_⟩;have Da:D≠a:=(F.free N).2;have sb:=F.back d;refine⟨D,List.replicate A.length true,rfl,Ap.of ?_,?_⟩
    ·rw[Ic Da,E];congr 2;rw[List.filter_eq_self.mpr fun _ _=>rfl,List.map_replicate];refine List.ext_getElem (by simp) fun i h1 h2=>by simp
    ·have e:(List.replicate A.length true).all id=true:=by simp
     rw[e];exact q _ sb
theorem TC{E:FuncData}(F:Fq K "is_doc" 9 f E)(T:Txt mg)(a:Df P w K mg base "is_sound" ["thing"] 3 Km)(c:Df P w K mg base "inner_of" ["doc"] 2 Ko):AV P w K mg base BP 4 f E ["thing"] Kp:=by
 refine F.oq ["thing","waiting","part"] fun H _ _ s u G h=>?_;obtain⟨v,b,n,k,rfl,tr,hn,q⟩:=h;refine⟨_,(AE (BL 1 s (BB (Ax (pv 0)))) (AE (J' PassesOwn.never (KG (pv 1) (fun _=>rfl)) (AE (BL 2 s (RS PySem.F.plainAttrs_list PySem.F.slot_list_pop PySem.F.type_list_pop RW (pv 1))) (AE (Ai (CK (BM (Bo a G (Ax (pv 2))))) (AB (AK DY)) AO) (AB (Cj (lV K (pv 1) (Bo c G (Ax (pv 2))))))))) (AB (AK DY)))),?_⟩;refine⟨_,rfl,Ak,fun L C=>?_⟩;have X:=AG.new (o:=.lst [v]) C;dsimp only[Fn,PR];refine OC (fun m D y=>∃(g:List V)(I:Option V),D=[some v,some (.ref L),I]/\AG H y/\y L=some (.lst g)/\CF H b m k g/\m<=n)
  n ⟨[v],none,rfl,X,AD,CF.one tr,Nat.le_refl _⟩ ?_ (fun D H Q Q' h ⟨v,e,k,t,q⟩=>⟨v,e,k,t,h _ _ q⟩)
 rintro m D y _ go ⟨g,I,rfl,J,i,M,hm⟩;refine⟨_,rfl,_,.inl ⟨_,Ap.of i,rfl⟩,?_⟩;by_cases j:g=[]
 ·subst j;cases M;exact Aa (q y J)
 ·obtain⟨l,x,rfl⟩:∃l x,g=l++[x]:=⟨g.dropLast,g.getLast j,(List.dropLast_concat_getLast j).symm⟩;refine Ad (by simp) ?_;obtain⟨c1,Y,c2,m2,N,O,e1,e2⟩:=M.split;have Z:=CF.gq O;have lu:=N.len;refine⟨_,rfl,.inl ⟨rfl,_,Ap.of i⟩,L,_,x,rfl,rfl,i,by simp,?_⟩;have dl:(l++[x]).dropLast=l:=by simp
  rw[dl];have z:AG H (upd y L (.lst l)):=J.put C;clear O;cases Z with
  |odd u f=>
   have hb:b=false:=by rw[e1];simp
   rw[hb]at q;exact⟨_,rfl,x,rfl,.inl ⟨u.up z,fun R d=>⟨_,rfl,Ad rfl (go.r (q R (z.trans d)))⟩⟩⟩
  |@node _ n' k' _ A B S=>
   have li:=S.len;refine⟨_,rfl,x,rfl,.inr ⟨A,B.up z,by lia,fun R d=>⟨_,rfl,Aj rfl ?_⟩⟩⟩;refine⟨_,rfl,.inl ⟨rfl,_,Ap.of (d _ _ AD)⟩,_,rfl,x,A,rfl,(B.up z).up d,by lia,fun p es H2 U np hp perm=>?_⟩;have te:=(CF.perm perm.symm (S.deeper (Nat.le_succ _)));have le:=perm.length_eq;refine⟨L,p,_,_,rfl,rfl,U _ _ (d _ _ AD),hp,Ab (by lia),go.n ⟨Y+n',by lia,l++es,_,rfl,((z.trans d).trans U).put C,AD,(N.append te).cast e1.symm rfl,by lia⟩⟩
end
end Bb
namespace Bb
open PySem L2
end Bb
namespace Bb
open PySem L2
section
variable{P:Program} {w:World} {K:qG} {mg:Str->Option Value} {base:Heap}
theorem Ml{f:Addr}{n:FuncData}(F:Fq K "steps_of" 11 f n)(T:Txt mg):AV P w K mg base BP 1 f n ["doc"] GS:=by
 refine F.oq ["doc"] fun H _ _ _ _ g h=>?_;obtain⟨v,c,rfl,node,C,q⟩:=h;refine⟨_,(AE (Ai (BM (Hy Af T (pv 0) T.list EZ)) (AB (AK (Bk (HI rfl) rfl T.list EZ (Ax (Rv rfl T.range (Ax (Ig K T (pv 0)))))))) AO) (AE (Ai (BM (Hy Af T (pv 0) T.dict Ia)) (AB (AK (An (IZ rfl) rfl T.sorted Rm (Ax (pv 0))))) AO) (AB (AK (BB AI))))),?_⟩;cases node with
 |leaf h=>
  rcases h with⟨i,rfl,_⟩|⟨x,rfl,_⟩
  ·refine⟨_,rfl,_,"list","int",rfl,rfl,.int i,_,rfl,Aa ⟨_,rfl,_,"dict","int",rfl,rfl,.int i,_,rfl,Aa ?_⟩⟩;exact⟨Nat.zero_le _,fun p b=>q p [] [] _ (AG.new b) b AD (.refl _) rfl (fun i e h=>by simp at h)⟩
  ·refine⟨_,rfl,_,"list","str",rfl,rfl,.str x,_,rfl,Aa ⟨_,rfl,_,"dict","str",rfl,rfl,.str x,_,rfl,Aa ?_⟩⟩;exact⟨Nat.zero_le _,fun p b=>q p [] [] _ (AG.new b) b AD (.refl _) rfl (fun i e h=>by simp at h)⟩
 |@row a xs h=>
  refine⟨_,rfl,_,"list","list",rfl,rfl,.lst h,_,rfl,Co ?_⟩;refine⟨_,rfl,a,_,rfl,.inl (.inl h),_,rfl,fun r g=>?_⟩;refine⟨r,c.length,rfl,AD,by lia,fun p b=>?_⟩;exact q p _ c _ ((AG.new g).trans (AG.new b)) ((AG.new g).free b) AD (.refl _) (by simp) (fun i e d=>⟨_,by rw[List.getElem?_map,List.getElem?_range (p' d).1];rfl,.inl ⟨a,c,i,rfl,h,rfl,d⟩⟩)
 |@tab a j t h o m D l=>
  refine⟨_,rfl,_,"list","dict",rfl,rfl,.dK h,_,rfl,Aa ?_⟩;refine⟨_,rfl,_,"dict","dict",rfl,rfl,.dK h,_,rfl,Co ?_⟩;refine⟨_,rfl,a,_,t,rfl,h,o,l,fun p u y z s b perm A=>?_⟩;obtain⟨B,e1,e2,e3⟩:=SF o m perm;exact q p _ B y s z b e1 (by rw[List.length_map];exact e2) (fun i e d=>by
   obtain⟨k,k1,k2⟩:=e3 i e d;exact⟨.str k,by rw[List.getElem?_map,k1];rfl,.inr ⟨a,j,k,rfl,h,rfl,k2⟩⟩)
theorem Mm{f:Addr}{E:FuncData}(F:Fq K "inner_of" 12 f E)(T:Txt mg)(b:Df P w K mg base "steps_of" ["doc"] 1 GS):AV P w K mg base BP 2 f E ["doc"] Ko:=by
 refine F.oq ["doc"] fun H _ _ _ u N h=>?_;obtain⟨v,z,rfl,node,G,q⟩:=h;refine⟨_,(AB (AK (cmp ["doc"] [0] (FW (Bo b N (Ax (pv 0)))) fun _ _ _ _=>(GO (ZU K (pv 1) (pv 0)) (fG u (pv 1) (pv 0)))))),?_⟩;refine⟨_,rfl,v,z,rfl,node,G,fun p l s Y A Z t I B O=>?_⟩;have Q:l.length<=900:=by rw[<-B,I.length_eq];exact G
 have J:∀{i:Nat}{x:V},l[i]?=some x->l.getD i .Ae=x:=fun h=>by rw[List.getD_eq_getElem?_getD,h];rfl
 refine⟨p,rfl,⟨_,Ap.of t⟩,?_⟩;refine Hm (n:=l.length) (fun i=>l.getD i .Ae) (fun i=>s.getD i .Ae) (fun _=>true) (Ab (by lia)) (fun i D d m c=>⟨_,_,(AG.new c).seq (Ap.of t),p_ m⟩) (fun i D d v H' m c y=>?_) (fun D d c=>⟨_,(AG.new c).seq (Ap.of t),Nat.le_refl _⟩) (fun i D d R m c r=>by exact r) (fun i D d R m c _ r=>?_) (fun D c=>?_)
 ·obtain⟨e,y⟩:=y;exact⟨(J (y _ ((AG.new c).seq (Ap.of t)))).symm,e⟩
 ·obtain⟨x,L⟩:∃x,s[i]?=some x:=⟨_,p_ (by rw[B];exact m)⟩;have S:s.getD i .Ae=x:=by rw[List.getD_eq_getElem?_getD,L];rfl
  rw[S]at r;have M:=A.trans (AG.new (o:=.lst d) c);obtain⟨st,C,g⟩:=O i x L;rw[J C];rcases g with⟨a,xs,j,rfl,h,rfl,e2⟩|⟨a,U,k,rfl,h,rfl,e2⟩
  ·exact .inl ⟨_,rfl,_,rfl,a,_,_,_,rfl,rfl,.inl (h.up (M _)),Bd e2,r⟩
  ·refine .inr ⟨_,rfl,_,rfl,a,x,rfl,?_,r⟩;rw[<-e2];exact .inl ⟨_,Sum.inr k,h.up (M _),rfl,rfl⟩
 ·refine q D s _ (A.trans (AG.new c)) (A.free c) ?_ I;rw[AD];congr 2;rw[List.filter_eq_self.mpr fun _ _=>rfl];refine List.ext_getElem (by simp[B]) fun i h1 X=>?_;simp only[List.getElem_map,List.getElem_range];rw[List.getD_eq_getElem?_getD,p_ X];rfl
end
end Bb
namespace Bb
open PySem L2
end Bb
namespace Bb
open PySem L2
end Bb
namespace Bb
open PySem L2
variable{f:Addr}{j:FuncData}
section
variable{P:Program} {w:World} {K:qG} {mg:Str->Option Value} {base:Heap}
theorem FD:BO ["doc"] ["doc"] (AJ Mg):={}
theorem JB{e:FuncData}(F:Fq K "outer_copy" 15 f e)(T:Txt mg):AV P w K mg base BP 1 f e ["doc"] Sd:=by
 refine F.ok FD (fun g H Q E h=>?_) (fun i A outer s H g j E r m h=>?_)
 ·cases h<;>(subst_vars;rfl)
 ·have nd:=FD.nd;have t:=Hk m;refine⟨_,(AE (Ai (BM (Hy Af T (pv 0) T.list EZ)) (AB (AK (Bk EA rfl T.list EZ (Ax (pv 0))))) AO) (AE (Ai (BM (Hy Af T (pv 0) T.dict Ia)) (AB (AK (Bk GQ rfl T.dict Ia (Ax (pv 0))))) AO) (AB (AK (pv 0))))),?_⟩;have n:Fe g H j.rt:=h;clear h;cases n with
  |int b q=>
   subst b;exact⟨_,rfl,_,"list","int",rfl,rfl,.int 1,_,rfl,Aa ⟨_,rfl,_,"dict","int",rfl,rfl,.int 1,_,rfl,Aa ⟨_,rfl,q⟩⟩⟩
  |ju v k b o q=>
   subst b;cases o with
   |@str x l=>exact⟨_,rfl,_,"list","str",rfl,rfl,.str x,_,rfl,Aa ⟨_,rfl,_,"dict","str",rfl,rfl,.str x,_,rfl,Aa ⟨_,rfl,q _ H (AG.refl H) (fun _ z=>nomatch z) (.str l)⟩⟩⟩
   |@one a h=>exact⟨_,rfl,_,"list","list",rfl,rfl,.lst (.inl h),_,rfl,Co ⟨_,rfl,a,_,rfl,.inl (.inl (.inl h)),.mk fun p c d s f=>q _ c s (fun _ z=>by cases z;exact d) (.one f)⟩⟩
   |@emp a h=>exact⟨_,rfl,_,"list","dict",rfl,rfl,.dK (.inl h),_,rfl,Aa ⟨_,rfl,_,"dict","dict",rfl,rfl,.dK (.inl h),_,rfl,Co ⟨_,rfl,a,_,rfl,.inl h,.mk fun p c d s f=>q _ c s (fun _ z=>by cases z;exact d) (.emp f)⟩⟩⟩
theorem QR{fd:FuncData}(F:Fq K "copy_of" 16 f fd)(T:Txt mg)(c:Df P w K mg base "steps_of" ["doc"] 1 GS)(b:Df P w K mg base "outer_copy" ["doc"] 1 Sd):AV P w K mg base BP 2 f fd ["doc"] Ct:=by
 refine F.oq ["doc","told","waiting","part","steps","step"] fun H _ _ y B E h=>?_;obtain⟨v,k,rfl,hv,q⟩:=h;refine⟨_,(AE (BL 1 y (Bo b E (Ax (pv 0)))) (AE (BL 2 y (BB (Ax (pv 1)))) (AE (J' PassesOwn.never (KG (pv 2) (fun _=>rfl)) (AE (BL 3 y (RS PySem.F.plainAttrs_list PySem.F.slot_list_pop PySem.F.type_list_pop RW (pv 2))) (AE (BL 4 y (Bo c E (Ax (pv 3)))) (AB (bM (FW (pv 4)) (Di 5 y) (AE (Yl (Lk (Bo b E (Ax (GO (ZU K (pv 3) (pv 5)) (fG B (pv 3) (pv 5))))) (RA (pv 3) (pv 5) set_list)) (VG B (pv 3) (pv 5) (Bo b E (Ax (GO (ZU K (pv 3) (pv 5)) (fG B (pv 3) (pv 5))))) rfl)) (AB (Cj (gb K (pv 2) (GO (ZU K (pv 3) (pv 5)) (fG B (pv 3) (pv 5)))))))))))) (AB (AK (pv 1)))))),?_⟩;refine⟨_,rfl,.ju v k rfl hv fun C H1 s1 n1 t1=>⟨_,rfl,Ak,.mk fun L H2 hL s2 fL=>?_⟩⟩;have nL:H L=none:=s1.free hL;have Y:C≠.ref L:=fun z=>by cases t1<;>cases z<;>(rw[hL]at*;contradiction)
 dsimp only[Fn,PR];refine OC (fun m d r=>∃(G:List V)(o3 o4 D:Option V),d=[some v,some C,some (.ref L),o3,o4,D]/\AG H r/\Dg r C k/\r L=some (.lst G)/\((G=[]/\m=0)∨(G=[.int 1]/\m=1)∨(G=[C]/\m=2)))
  2 ⟨[C],none,none,none,rfl,s1.trans s2,t1.up s2,fL,.inr (.inr ⟨rfl,rfl⟩)⟩ ?_ (fun d H Q Q' h ⟨v,e,k,t,q⟩=>⟨v,e,k,t,h _ _ q⟩)
 rintro m d r _ I ⟨G,o3,o4,D,rfl,sw,Z,eL,O⟩;refine⟨_,rfl,_,.inl ⟨_,Ap.of eL,rfl⟩,?_⟩;rcases O with⟨rfl,rfl⟩|O
 ·exact Aa ⟨_,rfl,q C r sw Z⟩
 have J:AG H (upd r L (.lst [])):=sw.put nL;have M:Dg (upd r L (.lst [])) C k:=by
  cases Z with
  |str l=>exact .str l
  |one h=>exact .one (by rw[AH (fun z=>Y (by rw[z]))];exact h)
  |emp h=>exact .emp (by rw[AH (fun z=>Y (by rw[z]))];exact h)
 obtain⟨pv,A,rfl,me,hc⟩:∃pv A,G=[pv]/\Node (upd r L (.lst [])) pv A/\((A=[]/\0<m)∨(∃a,pv=.ref a/\C=.ref a/\k=.o/\m=2/\A=[.int 1]/\upd r L (.lst []) a=some (.lst [.int 1]))):=by
  rcases O with⟨rfl,rfl⟩|⟨rfl,rfl⟩
  ·exact⟨.int 1,[],rfl,.leaf (.inl ⟨1,rfl,by decide⟩),.inl ⟨rfl,by decide⟩⟩
  ·cases M with
   |str l=>exact⟨_,_,rfl,.leaf (.inr ⟨_,rfl,l⟩),.inl ⟨rfl,by decide⟩⟩
   |one h=>exact⟨_,_,rfl,.row (.inl h),.inr ⟨_,rfl,rfl,rfl,rfl,rfl,h⟩⟩
   |emp h=>exact⟨_,_,rfl,.tab (ks:=[]) (.inl h) rfl .nil (fun _ z=>nomatch z) (by decide),.inl ⟨rfl,by decide⟩⟩
 clear O Z;refine Ad rfl ⟨_,rfl,.inl ⟨rfl,_,Ap.of eL⟩,L,_,pv,rfl,rfl,eL,rfl,?_⟩;refine⟨_,rfl,pv,A,rfl,me,by rcases hc with⟨rfl,_⟩|⟨_,_,_,_,_,rfl,_⟩<;>decide,fun p l es H3 N np R pm ll gt=>?_⟩;have e3:=N _ _ (AD (H:=r) (a:=L) (o:=.lst []));rcases hc with⟨rfl,hm⟩|⟨a,rfl,rfl,rfl,rfl,rfl,ha⟩
 ·cases List.perm_nil.mp pm;cases List.eq_nil_of_length_eq_zero ll.symm;refine⟨_,rfl,p,rfl,⟨_,Ap.of R⟩,KC (xs:=[]) (fun i d s=>∃D,d=[some v,some C,some (.ref L),some pv,some (.ref p),D]/\s=H3) ⟨_,rfl,rfl⟩ (fun i d s _ ⟨_,_,e⟩=>by rw[e];exact Ap.of R) (fun i x d s _ go S=>by simp at S) ?_⟩;rintro d s ⟨D,rfl,rfl⟩;exact I.n ⟨0,hm,[],_,_,_,rfl,J.trans N,M.up N,e3,.inl ⟨rfl,rfl⟩⟩
 ·cases List.perm_singleton.mp pm;obtain⟨z,rfl⟩:∃z,l=[z]:=by
   rcases l with _|⟨z,l⟩
   ·cases ll
   ·exact⟨z,by rw[List.eq_nil_of_length_eq_zero (Nat.succ.inj ll.symm)]⟩
  obtain⟨_,hz,g⟩:=gt 0 _ rfl;cases hz;have hz:z=.int 0:=by
   have E:∀{u:HO},Rd (upd r L (.lst [])) a u->u=.lst [.int 1]:=fun h=>by
    rcases h with h|⟨_,h⟩<;>rw[ha]at h<;>cases h;rfl
   rcases g with⟨a',xs,j,e,h,rfl,hj⟩|⟨a',kvs,k,e,h,_⟩
   ·cases e;cases E h;rcases j with _|j
    ·rfl
    ·cases hj
   ·cases e;cases E h
  subst hz;have a3:=N _ _ ha;have aL:a≠L:=fun z=>Y (by rw[z]);have pa:p≠a:=Ne.symm (AY ha np);have pL:p≠L:=Ne.symm (AY (AD (H:=r) (a:=L) (o:=.lst [])) np);have nA:H a=none:=n1 a rfl;refine⟨_,rfl,p,rfl,⟨_,Ap.of R⟩,KC (xs:=[.int 0]) (fun i d s=>∃D,d=[some v,some (.ref a),some (.ref L),some (.ref a),some (.ref p),D]/\AG H s/\s a=some (.lst [.int 1])/\s L=some (.lst (List.replicate i (.int 1)))/\s p=some (.lst [.int 0]))
   ⟨_,rfl,J.trans N,a3,e3,R⟩ (fun i d s _ ⟨_,_,_,_,_,e⟩=>Ap.of e) ?_ ?_⟩
  ·rintro i x d s _ go S ⟨D,rfl,si,U,X,pi⟩;rcases i with _|i
   ·cases S;refine .inl (.inl ⟨_,rfl,_,rfl,a,_,_,_,rfl,rfl,Ap.of U,rfl,.int rfl ⟨_,rfl,_,rfl,a,_,_,0,rfl,rfl,U,rfl,?_⟩⟩);refine⟨_,rfl,.inl ⟨rfl,_,Ap.of (by rw[AH (Ne.symm aL)];exact X)⟩,.inl ⟨_,rfl,_,rfl,a,_,_,.int 1,rfl,rfl,Ap.of AD,rfl,L,_,_,rfl,rfl,by rw[AH (Ne.symm aL)];exact X,BH (by decide),?_⟩⟩;exact go.n ⟨_,rfl,(si.put nA).put nL,by rw[AH aL];exact AD,AD,by rw[AH pL,AH pa];exact pi⟩
   ·cases i<;>cases S
  ·rintro d s ⟨D,rfl,si,U,X,pi⟩;exact I.n ⟨1,by decide,[.int 1],_,_,_,rfl,si,.one U,X,.inr (.inl ⟨rfl,rfl⟩)⟩
theorem QS(F:Fq K "is_step" 27 f j)(T:Txt mg)(c:Df P w K mg base "is_whole" ["thing"] 1 Ie)(d:Df P w K mg base "is_name" ["thing"] 2 MV):AV P w K mg base BP 3 f j ["thing"] Xf:=by
 refine F.oq ["thing"] fun H _ _ _ _ k h=>?_;obtain⟨v,T,rfl,ty,m,q⟩:=h;refine⟨_,(AB (AK (Nf (Bo d k (Ax (pv 0))) (Bc (Bi (Bo c k (Ax (pv 0))) (Bc (BD RJ (pv 0) AF (AQ _)))))))),?_⟩;refine⟨v,rfl,v,T,rfl,ty,m,fun n l=>⟨_,rfl,?_⟩⟩;have a:=ty.same l;have g:=q n l;cases ty with
 |str x=>
  refine KS (fun h=>by rw[show CW (.str x)=true from h]at g;exact g) fun h=>⟨_,rfl,_,_,rfl,a,_,rfl,Aa ?_⟩;have e:CW (.str x)=false:=Bool.not_eq_true _|>.mp h;rw[e]at g;exact g
 |int i=>exact Aa ⟨_,rfl,_,_,rfl,a,_,rfl,Co ⟨_,rfl,_,_,rfl,rfl,g⟩⟩
 |Ae=>exact Aa ⟨_,rfl,_,_,rfl,a,_,rfl,Aa g⟩
 |bl b=>exact Aa ⟨_,rfl,_,_,rfl,a,_,rfl,Aa g⟩
 |lst e=>exact Aa ⟨_,rfl,_,_,rfl,a,_,rfl,Aa g⟩
 |tup e=>exact Aa ⟨_,rfl,_,_,rfl,a,_,rfl,Aa g⟩
 |dK e=>exact Aa ⟨_,rfl,_,_,rfl,a,_,rfl,Aa g⟩
theorem QT(F:Fq K "is_path" 28 f j)(T:Txt mg)(b:Df P w K mg base "is_step" ["thing"] 3 Xf):AV P w K mg base BP 4 f j ["thing"] Xg:=by
 refine F.oq ["thing"] fun H _ _ _ _ o h=>?_;obtain⟨v,p,rfl,s,q⟩:=h;refine⟨_,(AB (AK (Bi (Hy Af T (pv 0) T.tuple Nz) (Bc (An (ED rfl) rfl T.all N_ (Ax (cmp [] [] (RC (pv 0)) fun _ _ _ _=>(Bo b o (Ax (pv 0)))))))))),?_⟩;cases s with
 |@no _ T t n=>exact⟨_,rfl,_,"tuple",T,rfl,rfl,t,_,rfl,by rw[n];exact Aa (q H (AG.refl H))⟩
 |@tup a xs h l u=>
  refine⟨_,rfl,_,"tuple",_,rfl,rfl,.tup h,_,rfl,Co ⟨_,rfl,a,rfl,⟨_,Az.of h⟩,?_⟩⟩;refine DG (n:=xs.length) (fun i=>xs.getD i .Ae) (fun i v=>∃x,xs[i]?=some x/\v=.bl (CW x)) (Ab (Nat.le_trans l (by decide))) (fun i d g c=>⟨_,_,Az.of (c _ _ h),p_ g⟩) (fun i d v G g c y=>?_) (fun d c=>⟨_,Az.of (c _ _ h),Nat.le_refl _⟩) (fun i d R g c r=>?_) (fun z d I A c k B or=>?_)
  ·obtain⟨e,y⟩:=y;have:=y _ (Az.of (c _ _ h));exact⟨by rw[List.getD_eq_getElem?_getD,this];rfl,e⟩
  ·have m:xs[i]?=some (xs.getD i .Ae):=by rw[List.getD_eq_getElem?_getD,p_ g];rfl
   obtain⟨⟨T,t⟩,C⟩:=u _ (qF m);exact⟨_,rfl,_,T,rfl,t.same c,C,fun D E=>r _ D E ⟨_,m,rfl⟩⟩
  ·rw[Kv (ps:=xs) (f:=CW) B or]at k;have e:(xs.map CW).all id=xs.all CW:=by rw[List.all_map];rfl
   exact⟨z,_,rfl,Ap.of k,by rw[e];exact q d c⟩
end
end Bb
namespace Bb
open PySem L2
end Bb
namespace Bb
open PySem L2
end Bb
namespace Bb
open PySem L2
section
variable{P:Program} {w:World} {K:qG} {mg:Str->Option Value} {base:Heap}
def LI:Sp:=fun e H Q _=>∃(a b:Addr)(xs c:List V),e=[.ref a,.ref b]/\H a=some (.tup xs)/\H b=some (.tup c)/\(∀z∈xs,BJ z=true)/\(∀z∈c,BJ z=true)/\∀d,AG H d->Q (.bl (HH (c.take xs.length) xs)) d
theorem QU{f:Addr}{c:FuncData}(F:Fq K "begins" 31 f c)(T:Txt mg):AV P w K mg base BP 1 f c ["one","other"] LI:=by
 refine F.oq ["one","other"] fun H _ _ _ _ i h=>?_;obtain⟨a,b,xs,j,rfl,d,k,l,m,q⟩:=h;refine⟨_,(AB (AK (BD (MN (Aq.IM i)) (CQ VP (pv 1) Dy (Cn (Ig K T (pv 0)))) (pv 0) (AQ _)))),?_⟩;refine⟨_,rfl,_,rfl,a,_,rfl,.inr (Az.of d),_,rfl,b,j,rfl,k,fun p n e g=>?_⟩;rw[IW]at g;exact⟨_,rfl,p,a,_,_,rfl,rfl,Az.of g,Az.of (e _ _ d),fun z o=>m z (List.mem_of_mem_take o),l,q n e⟩
end
end Bb
namespace Bb
open PySem L2
end Bb
namespace Bb
open PySem L2
end Bb
namespace Bb
open PySem L2
end Bb
namespace Bb
open PySem L2
end Bb
namespace Bb
open PySem L2
end Bb
namespace Bb
open PySem L2
end Bb
namespace Bb
open PySem L2
end Bb
namespace Bb
open PySem L2
variable{f C cB:Addr}{c fd i d B:FuncData}{cl:Nat->Addr}
section
variable{P:Program} {w:World} {K:qG} {mg:Str->Option Value} {base:Heap}
theorem Mn{d:Addr}{A:FuncData}(F:Fq K "has_form" 57 f A)(T:Txt mg)(g:mg "LENGTHS"=some (.ref d))(j:QF P w K d Ma):AV P w K mg base BP 2 f A ["thing"] SY:=by
 refine F.oq ["thing"] fun H _ _ _ _ D h=>?_;obtain⟨v,p,rfl,B,q⟩:=h;refine⟨_,(AE (Ai (PW.pt (pw_or (CK (BM (Hy Af T (pv 0) T.tuple Nz))) (pw_or1 (AR (Vl (Aq.IM D)) (pv 0) (AM AI) (AQ _))))) (AB (AK DY)) AO) (AB (AK (Bi (Hy Af T (FU K 0) T.str GJ) (Bi (YF (Vm j (FU K 0) (Au (v:=.ref d) rfl g rfl))) (Bc (BD BX (Ig K T (pv 0)) (SV j (Au (v:=.ref d) rfl g rfl) (FU K 0) (fun _ _=>rfl)) (AQ _)))))))),?_⟩;refine MR (t:=Uv _ _ _) (fun E=>AG H E/\∃a x r,v=.ref a/\H a=some (.tup (x::r))/\p=some (x::r)) (fun s ⟨u,a,x,r,G,I,e⟩=>?_) (fun key=>?_);rotate_left
 ·cases B with
  |@no _ T t n=>exact⟨_,rfl,_,"tuple",T,rfl,rfl,t,_,rfl,Ad (by rw[n];rfl) (Ad rfl (q H (AG.refl H)))⟩
  |@tup a xs h l C=>
   refine⟨_,rfl,_,"tuple",_,rfl,rfl,.tup h,_,rfl,Aj rfl ⟨_,rfl,Nat.zero_le _,.mk fun y s L z J=>⟨a,y,xs,rfl,rfl,Az.of (z _ _ h),Az.of J,_,rfl,?_⟩⟩⟩;cases xs with
   |nil=>exact Ad rfl (q s z)
   |cons x r=>exact Aj rfl (key _ ⟨z,a,x,r,rfl,h,rfl⟩)
 ·subst G e;cases B with
  |@tup _ _ h l C=>
   obtain⟨T,t⟩:=C x rfl;have m:=u _ _ I;have c:=q s u;refine⟨_,rfl,a,_,0,_,rfl,rfl,Az.of m,Rz,_,"str",T,rfl,rfl,t.same u,_,rfl,?_⟩;cases t with
   |str w=>
    refine Co ⟨_,rfl,a,_,0,_,rfl,rfl,Az.of m,Rz,.inr w,_,rfl,rfl,rfl,_,rfl,?_⟩;have y:CY (some (.str w::r))=(match Bs Ma (.inr w)with|some (.int k)=>decide (((r.length+1:Nat):Int)=k)|_=>false):=rfl;rw[y]at c;cases o:Bs Ma (.inr w)with
    |none=>
     rw[o]at c;exact Aj rfl c
    |some k=>
     rw[o]at c;refine Ad rfl ⟨_,rfl,a,_,rfl,.inr (Az.of m),_,rfl,a,_,0,_,rfl,rfl,Az.of m,Rz,.inr w,k,rfl,rfl,o,?_⟩;obtain⟨i,rfl⟩:=SW o;refine⟨rfl,?_⟩;have e1:decide (V.int ((V.str w::r).length:Int)=V.int i)=decide (((r.length+1:Nat):Int)=i):=by rw[Bool.eq_iff_iff];simp
     rw[e1];exact c
   |int i=>exact Aa c
   |Ae=>exact Aa c
   |bl b=>exact Aa c
   |lst e=>exact Aa c
   |tup e=>exact Aa c
   |dK e=>exact Aa c
theorem JC(F:Fq K "is_row_path" 58 f B)(T:Txt mg)(c:Df P w K mg base "is_path" ["thing"] 4 Xg)(E:∃t,mg "LONGEST_PATH"=some (.int 12 t))(G:∃t,mg "GREATEST_PLACE"=some (.int 20 t)):AV P w K mg base BP 5 f B ["thing"] ZF:=by
 obtain⟨I,s⟩:=E;obtain⟨J,L⟩:=G;refine F.oq ["thing"] fun H _ _ _ _ M h=>?_;obtain⟨v,p,rfl,C,q⟩:=h;refine⟨_,(AE (Ai (PW.pt (pw_or (CK (BM (Bo c M (Ax (pv 0))))) (pw_or1 (AR HY (Ig K T (pv 0)) (Au (v:=.int 12) rfl s ⟨I,rfl⟩) (AQ _))))) (AB (AK DY)) AO) (AB (AK (An (ED rfl) rfl T.all N_ (Ax (cmp [] [] (RC (pv 0)) fun _ _ _ _=>(Nf (Hy Af T (pv 0) T.str GJ) (Bc (BD Nk (pv 0) (Au (v:=.int 20) rfl L ⟨J,rfl⟩) (AQ _)))))))))),?_⟩;refine⟨v,rfl,v,p,rfl,C,fun A j=>?_⟩;cases C with
 |@no _ T t n=>exact⟨_,rfl,Ad rfl (Ad rfl (q A j))⟩
 |@tup a xs h l N=>
  have k:=j _ _ h;have O:Hv (some xs)=(xs.all CW&&decide (xs.length<=12)&&xs.all Ef):=rfl;rw[O]at q;cases m:xs.all CW with
  |false=>
   rw[m]at q;exact⟨_,rfl,Ad (by show(!xs.all CW)=true;rw[m];rfl) (Ad rfl (q A j))⟩
  |true=>
   rw[m]at q;refine⟨_,rfl,Aj (by show(!xs.all CW)=false;rw[m];rfl) ⟨_,rfl,a,xs,rfl,.inr (Az.of k),_,_,rfl,rfl,_,rfl,?_⟩⟩;by_cases s:xs.length<=12
   ·rw[decide_eq_true s]at q;refine Aj (decide_eq_false (by lia)) ⟨_,rfl,a,rfl,⟨_,Az.of k⟩,?_⟩;refine DG (n:=xs.length) (fun i=>xs.getD i .Ae) (fun i v=>∃x,xs[i]?=some x/\v=.bl (Ef x)) (Ab (Nat.le_trans l (by decide))) (fun i g u d=>⟨_,_,Az.of (d _ _ k),p_ u⟩) (fun i g v X u d y=>?_) (fun g d=>⟨_,Az.of (d _ _ k),Nat.le_refl _⟩) (fun i g R u d r=>?_) (fun Q g Y S d D U or=>?_)
    ·obtain⟨e,y⟩:=y;have:=y _ (Az.of (d _ _ k));exact⟨by rw[List.getD_eq_getElem?_getD,this];rfl,e⟩
    ·have z:xs[i]?=some (xs.getD i .Ae):=by rw[List.getD_eq_getElem?_getD,p_ u];rfl
     have o:=List.all_eq_true.mp m _ (qF z);obtain⟨⟨T,t⟩,Z⟩:=N _ (qF z);generalize xs.getD i .Ae=x at*;have V:=(t.same j).same d;refine⟨_,rfl,_,"str",T,rfl,rfl,V,_,rfl,?_⟩;cases t with
     |str x=>exact Co (r _ g (AG.refl _) ⟨_,z,rfl⟩)
     |int i=>exact Aa ⟨_,rfl,_,_,rfl,rfl,r _ g (AG.refl _) ⟨_,z,rfl⟩⟩
     |Ae=>cases o
     |bl b=>cases o
     |lst e=>cases o
     |tup e=>cases o
     |dK e=>cases o
    ·rw[Kv (ps:=xs) (f:=Ef) U or]at D;have e:(xs.map Ef).all id=xs.all Ef:=by rw[List.all_map];rfl
     exact⟨Q,_,rfl,Ap.of D,by rw[e];exact q g (j.trans d)⟩
   ·rw[decide_eq_false s]at q;exact Ad (decide_eq_true (by lia)) (q A j)
theorem HP{d:Addr}{I:FuncData}(F:Fq K "may_be_first" 59 f I)(T:Txt mg)(b:Df P w K mg base "is_row_path" ["thing"] 5 ZF)(A:mg "WORDS_WITHIN"=some (.ref d))(dR:Kl K d Cr=true):AV P w K mg base BP 6 f I ["word","thing"] Xh:=by
 refine F.oq ["word","thing"] fun H _ _ _ _ J h=>?_;obtain⟨g,v,p,rfl,B,q⟩:=h;refine⟨_,(AE (Ai (PW.pt (pw_or (CK (BM (Bo b J (Ax (pv 1))))) (pw_or1 (PW.pt (pw_and (AR (CS:DC _ _ (bH K false)) (pv 0) (Au (v:=.ref d) rfl A rfl) rfl) (pw_and1 (AR (MN (Aq.IM J)) (pv 1) (AM AI) (AQ _)))))))) (AB (AK DY)) AO) (AB (AK (Nf (BD RI (pv 0) AL (AQ _)) (Bc (Hy Af T (Be (r:=Pb K) Fy (pv 1) (RF Ln AF) (fun _ _=>rfl)) T.str GJ)))))),?_⟩;refine MR (t:=Uv _ _ _) (fun M=>AG H M/\∃xs,p=some xs/\Hv p=true/\(Lh (.str g) (Cr.map V.str)&&xs.isEmpty)=false) (fun k ⟨o,xs,e,c,C⟩=>?_) (fun key=>?_);rotate_left
 ·refine⟨v,rfl,v,p,rfl,B,fun L j=>?_⟩;cases B with
  |@no _ T t n=>exact⟨_,rfl,Ad rfl (Ad rfl (q L j))⟩
  |@tup a xs h l N=>
   have O:=j _ _ h;cases c:Hv (some xs)with
   |false=>
    have e:HK g (some xs)=false:=by simp[HK,c]
    rw[e]at q;exact⟨_,rfl,Ad rfl (Ad rfl (q L j))⟩
   |true=>
    refine⟨_,rfl,Aj rfl ⟨_,rfl,d,_,rfl,.inr (Az.cX dR _),rfl,rfl,_,rfl,?_⟩⟩;show if Lh (.str g) (Cr.map V.str)=true then _ else _;have Q:∀z∈xs,BJ z=true:=fun z D=>Fd c z D;cases hw:Lh (.str g) (Cr.map V.str)with
    |false=>exact Aj rfl (Aj rfl (key _ ⟨j,xs,rfl,c,by rw[hw];rfl⟩))
    |true=>
     refine Ad rfl ⟨_,rfl,Nat.zero_le _,.mk fun E k X G R=>⟨a,E,xs,[],rfl,rfl,Az.of (G _ _ O),Az.of R,Q,fun z D=>(nomatch D),_,rfl,?_⟩⟩;cases xs with
     |nil=>
      have e:HK g (some [])=false:=by simp[HK,hw]
      rw[e]at q;exact Ad rfl (q k (j.trans G))
     |cons x r=>exact Aj (by unfold HH;simp) (key _ ⟨j.trans G,x::r,rfl,c,by rw[hw];rfl⟩)
 ·subst e;cases B with
  |@tup a _ h l N=>
   have E:HK g (some xs)=(!decide (g="lacks")||De xs):=by simp[HK,c,C]
   rw[E]at q;refine⟨_,rfl,rfl,_,rfl,?_⟩;by_cases hw:g="lacks"
   ·subst hw;have m:xs≠[]:=fun z=>by rw[z]at C;cases C
    obtain⟨u,x,rfl⟩:∃u x,xs=u++[x]:=⟨xs.dropLast,xs.getLast m,(List.dropLast_concat_getLast m).symm⟩;have S:∀y,De (u++[y])=(match y with| .str _=>true|_=>false):=fun y=>by unfold De;rw[List.getLast?_concat];cases y<;>rfl
    rw[S]at q;have U:=Iu c x (List.mem_append_right _ (List.mem_singleton.mpr rfl));refine Aj rfl ⟨_,rfl,1,rfl,a,_,-1,x,rfl,rfl,Az.of (o _ _ h),KJ u x,?_⟩;rcases U with⟨s,rfl,_⟩|⟨i,rfl,_⟩
    ·exact⟨_,"str",_,rfl,rfl,.str s,q k o⟩
    ·exact⟨_,"str",_,rfl,rfl,.int i,q k o⟩
   ·have e1:decide (g="lacks")=false:=decide_eq_false hw;rw[e1]at q;exact Ad (by rw[decide_eq_false fun z=>hw (V.str.inj z)];rfl) (q k o)
theorem Gg{m u:Addr}{Q:FuncData}(F:Fq K "may_be_second" 60 f Q)(T:Txt mg)(y:Df P w K mg base "is_doc" ["thing"] 4 Kp)(d:Df P w K mg base "is_row_path" ["thing"] 5 ZF)(o:Df P w K mg base "is_lost" ["path","to"] 2 SU)(I:mg "WORDS_WITH_VALUE"=some (.ref m))(ZV:Kl K m Cs=true)(J:mg "KINDS"=some (.ref u))(dS:Kl K u Iv=true):AV P w K mg base BP 12 f Q ["word","path","thing"] Xj:=by
 refine F.oq ["word","path","thing"] fun H _ _ _ _ E h=>?_;obtain⟨B,a,xs,v,b,rfl,U,A,X,Y,q⟩:=h;refine⟨_,(AE (Ai (AR (CS:DC _ _ (bH K false)) (pv 0) (Au (v:=.ref m) rfl I rfl) rfl) (AB (AK (Bo y E (Ax (pv 2))))) AO) (AE (Ai (AR BX (pv 0) AL (AQ _)) (AB (AK (Bi (Hy Af T (pv 2) T.str GJ) (Bc (BD (CS:DC _ _ (bH K false)) (pv 2) (Au (v:=.ref u) rfl J rfl) rfl))))) AO) (AE (Ai (PW.pt (pw_or (CK (BM (Bo d E (Ax (pv 2))))) (pw_or1 (AR (MN (Aq.IM E)) (pv 2) (AM AI) (AQ _))))) (AB (AK DY)) AO) (AB (AK (Nf (BD BX (pv 0) AL (AQ _)) (Bc (Lj (Bo o E (AA (pv 1) (Ax (pv 2)))))))))))),?_⟩;cases Y with
 |@val _ _ _ n k hw t L=>
  have e:Lh (.str B) (Cs.map V.str)=true:=by
   simp only[Cs,List.mem_cons,List.not_mem_nil,or_false]at hw;rcases hw with rfl|rfl|rfl<;>decide+kernel
  exact⟨_,rfl,m,_,rfl,.inr (Az.cX ZV _),rfl,rfl,_,rfl,Ad e ⟨_,rfl,v,b,n,k,rfl,t,L,q⟩⟩
 |@kind _ T t=>
  refine⟨_,rfl,m,_,rfl,.inr (Az.cX ZV _),rfl,rfl,_,rfl,dQ ⟨_,rfl,rfl,_,rfl,Ad rfl ⟨_,rfl,_,"str",T,rfl,rfl,t,_,rfl,?_⟩⟩⟩;cases t with
  |str s=>exact Co ⟨_,rfl,u,_,rfl,.inr (Az.cX dS _),rfl,rfl,q H (AG.refl H)⟩
  |int i=>exact Aa (q H (AG.refl H))
  |Ae=>exact Aa (q H (AG.refl H))
  |bl b=>exact Aa (q H (AG.refl H))
  |lst e=>exact Aa (q H (AG.refl H))
  |tup e=>exact Aa (q H (AG.refl H))
  |dK e=>exact Aa (q H (AG.refl H))
 |@cx _ _ p hw R=>
  have Z:Lh (.str B) (Cs.map V.str)=false:=by rcases hw with rfl|rfl<;>decide+kernel
  have n2:decide (V.str B=V.str "is")=false:=by rcases hw with rfl|rfl<;>decide+kernel
  refine⟨_,rfl,m,_,rfl,.inr (Az.cX ZV _),rfl,rfl,_,rfl,Aj Z ⟨_,rfl,rfl,_,rfl,Aj n2 ?_⟩⟩;dsimp only[XU];refine MR (t:=Uv _ _ _) (fun H'=>AG H H'/\∃c j,v=.ref c/\H c=some (.tup j)/\p=some j/\Hv p=true/\j≠[]/\j.length<=100) (fun M ⟨G,c,j,ev,hc,e,g,L,ly⟩=>?_) (fun key=>?_);rotate_left
  ·refine⟨v,rfl,v,p,rfl,R,fun S C=>?_⟩;cases R with
   |@no _ T t n=>exact⟨_,rfl,Ad rfl (Ad rfl (q S C))⟩
   |@tup c j h l ts=>
    cases g:Hv (some j)with
    |false=>
     rw[g]at q;exact⟨_,rfl,Ad rfl (Ad rfl (q S C))⟩
    |true=>
     refine⟨_,rfl,Aj rfl ⟨_,rfl,Nat.zero_le _,.mk fun N M he O fe=>⟨c,N,j,[],rfl,rfl,Az.of (O _ _ (C _ _ h)),Az.of fe,fun z D=>Fd g z D,fun z D=>(nomatch D),_,rfl,?_⟩⟩⟩;cases j with
     |nil=>
      rw[g]at q;exact Ad rfl (q M (C.trans O))
     |cons x r=>exact Aj (by unfold HH;simp) (key _ ⟨C.trans O,c,x::r,rfl,h,rfl,g,List.cons_ne_nil _ _,l⟩)
  ·subst e ev;have N:(Hv (some j)&& !decide (some j=some [])&&(decide (B="copy")|| !BZ xs ((some j).getD [])))=(decide (B="copy")|| !BZ xs j):=by
    rw[g,decide_eq_false fun z=>L (qB z)];rfl
   rw[N]at q;refine⟨_,rfl,rfl,_,rfl,?_⟩;rcases hw with rfl|rfl
   ·exact Ad rfl (q M G)
   ·have fx:=Iu A;refine Aj rfl ⟨_,rfl,_,rfl,a,c,xs,j,rfl,G _ _ U,G _ _ hc,X rfl,Fd A,Fd g,fun z D=>(fx z D).elim (fun⟨s,e,_⟩=>.inl ⟨s,e⟩) fun⟨i,e,_⟩=>.inr ⟨i,e⟩,?_,ly,fun H3 s3=>⟨_,rfl,q H3 (G.trans s3)⟩⟩;simp only[Hv,Bool.and_eq_true,decide_eq_true_eq]at A;exact Nat.le_trans A.1.2 (by decide)
theorem QV{m:FuncData}(F:Fq K "is_lost" 61 f m)(T:Txt mg)(d:Df P w K mg base "begins" ["one","other"] 1 LI):AV P w K mg base BP 2 f m ["path","to"] SU:=by
 refine F.oq ["path","to"] fun H _ _ _ _ u h=>?_;obtain⟨a,b,xs,g,rfl,l,n,o,v,z,A,D,E,q⟩:=h;refine⟨_,(AB (AK (Bi (Hy Af T (Be (r:=Pb K) Fy (pv 0) (RF Ln AF) (fun _ _=>rfl)) T.str GJ) (Bi (Bo d u (AA (pv 0) (Ax (pv 1)))) (Bc (BD XX (Ig K T (pv 0)) (Ig K T (pv 1)) (AQ _))))))),?_⟩;obtain⟨c,x,rfl⟩:∃c x,xs=c++[x]:=⟨xs.dropLast,xs.getLast o,(List.dropLast_concat_getLast o).symm⟩;have B:∀y,De (c++[y])=(match y with| .str _=>true|_=>false):=fun y=>by unfold De;rw[List.getLast?_concat];cases y<;>rfl
 have p:=B x;have C:=A x (List.mem_append_right _ (List.mem_singleton.mpr rfl));refine⟨_,rfl,1,rfl,a,_,-1,x,rfl,rfl,Az.of l,KJ c x,?_⟩;rcases C with⟨s,rfl⟩|⟨i,rfl⟩
 ·refine⟨_,"str",_,rfl,rfl,.str s,_,rfl,Co ?_⟩;refine⟨_,rfl,_,rfl,a,b,_,g,rfl,l,n,v,z,fun t k=>⟨_,rfl,?_⟩⟩;cases j:HH (g.take (c++[V.str s]).length) (c++[V.str s])with
  |false=>
   have e:BZ (c++[.str s]) g=false:=by unfold BZ;rw[j,Bool.and_false];rfl
   rw[e]at q;exact Aj rfl (q t k)
  |true=>
   have e:BZ (c++[.str s]) g=decide ((c++[V.str s]).length<g.length):=by unfold BZ;rw[j,p];rfl
   rw[e]at q;refine Ad rfl ⟨_,rfl,a,_,rfl,.inr (Az.of (k _ _ l)),_,rfl,b,_,rfl,.inr (Az.of (k _ _ n)),_,_,rfl,rfl,?_⟩;have e2:decide (((c++[V.str s]).length:Int)<(g.length:Int))=decide ((c++[V.str s]).length<g.length):=by rw[Bool.eq_iff_iff];simp only[decide_eq_true_eq];lia
   rw[e2];exact q t k
 ·have e:BZ (c++[.int i]) g=false:=by unfold BZ;rw[p];rfl
  rw[e]at q;exact⟨_,"str",_,rfl,rfl,.int i,_,rfl,Aa (q H (AG.refl H))⟩
theorem Dj:BO ["thing"] ["thing"] (AJ I_):={}
theorem Gh{c Y:Nat->Addr}(F:Fq K "refuse_no_row" 62 f fd)(T:Txt mg)(B:Df P w K mg base "has_form" ["thing"] 2 SY)(u:Df P w K mg base "may_be_first" ["word","thing"] 6 Xh)(o:Df P w K mg base "may_be_second" ["word","path","thing"] 12 Xj)(N:Nm mg c cB)(kn:Kn K c cB Y)(I2:ew P w K mg base (Y 2) ["self","at"] (Bg (c 2))):AV P w K mg base (ER P w) 13 f fd ["thing"] (GX c):=by
 obtain⟨R,d,g,j⟩:=I2;refine F.eu Dj (fun vs H Q E h=>?_) (fun cL A outer s H vs Q E S h=>?_)
 ·obtain⟨v,i,rfl,hx,q,X⟩:=h;rfl
 ·obtain⟨v,i,rfl,hx,q,X⟩:=h;have nd:=Dj.nd;have hu:=Hk S;have L:Aq 2 _:=S.mono (by decide);have k:Ds K (c 2) (Y 2)=true:=kn.own 0 (by decide);refine⟨_,(AE (Ai (CK (BM (Bo B S (Ax (pv 0))))) (AB (DT rfl rfl rfl N.Ku k d L g j Fc (Ax AF))) AO) (AE (Ai (CK (BM (Bo u S (AA (FU K 0) (Ax (FU K 0)))))) (AB (DT rfl rfl rfl N.Ku k d L g j Fc (Ax AF))) AO) (AB (Ai (PW.pt (pw_and (AR HY (Ig K T (pv 0)) AF (AQ _)) (pw_and1 (CK (BM (Bo o S (AA (FU K 0) (AA (FU K 0) (Ax (FU K 0)))))))))) (AB (DT rfl rfl rfl N.Ku k d L g j Fc (Ax AF))) AO)))),?_⟩;cases hx with
  |@Vo _ p h n=>
   exact⟨v,rfl,v,p,rfl,h,fun Z C=>⟨_,rfl,Ad (by rw[n];rfl) (SS Ak fun J U=>X 0 rfl (some J) _ (C.trans (AG.new U)) (.inr ⟨by decide,J,rfl,AD⟩))⟩⟩
  |@first a w y r p h l f V m=>
   have D:SX H (.ref a) (some (.str w::y::r)):=.tup h (by simp only[List.length_cons];lia) fun x e=>by cases e;exact⟨_,.str w⟩
   refine⟨_,rfl,_,_,rfl,D,fun Z C=>⟨_,rfl,Aj (by rw[f];rfl) ?_⟩⟩;have G:=C _ _ h;exact⟨_,rfl,a,_,0,_,rfl,rfl,Az.of G,Rz,_,rfl,a,_,1,_,rfl,rfl,Az.of G,Ii,w,y,p,rfl,V.up C,fun H2 M=>⟨_,rfl,Ad (by rw[m];rfl) (SS Ak fun J U=>X 1 rfl (some J) _ ((C.trans M).trans (AG.new U)) (.inr ⟨by decide,J,rfl,AD⟩))⟩⟩
  |@two a w y p h f V m=>
   have D:SX H (.ref a) (some [.str w,y]):=.tup h (by simp) fun x e=>by cases e;exact⟨_,.str w⟩
   refine⟨_,rfl,_,_,rfl,D,fun Z C=>⟨_,rfl,Aj (by rw[f];rfl) ?_⟩⟩;have G:=C _ _ h;refine⟨_,rfl,a,_,0,_,rfl,rfl,Az.of G,Rz,_,rfl,a,_,1,_,rfl,rfl,Az.of G,Ii,w,y,p,rfl,V.up C,fun H2 M=>⟨_,rfl,Aj (by rw[m];rfl) ?_⟩⟩;have O:=M _ _ G;exact⟨_,rfl,a,_,rfl,.inr (Az.of O),_,_,rfl,rfl,_,rfl,Aj rfl (Aj rfl (q rfl H2 (C.trans M)))⟩
  |@three a b w xs z cc h f hb V m t=>
   have D:SX H (.ref a) (some [.str w,.ref b,z]):=.tup h (by simp) fun x e=>by cases e;exact⟨_,.str w⟩
   refine⟨_,rfl,_,_,rfl,D,fun Z C=>⟨_,rfl,Aj (by rw[f];rfl) ?_⟩⟩;have G:=C _ _ h;refine⟨_,rfl,a,_,0,_,rfl,rfl,Az.of G,Rz,_,rfl,a,_,1,_,rfl,rfl,Az.of G,Ii,w,_,_,rfl,V.up C,fun H2 M=>⟨_,rfl,Aj (by rw[m];rfl) ?_⟩⟩;have O:=M _ _ G;have I:=C.trans M;refine⟨_,rfl,a,_,rfl,.inr (Az.of O),_,_,rfl,rfl,_,rfl,Ad rfl ?_⟩;refine⟨_,rfl,a,_,0,_,rfl,rfl,Az.of O,Rz,_,rfl,a,_,1,_,rfl,rfl,Az.of O,Ii,_,rfl,a,_,2,_,rfl,rfl,Az.of O,at2,w,b,xs,z,cc,rfl,I _ _ hb,?_,?_,t.up I,fun H3 s3=>⟨_,rfl,?_⟩⟩
   ·exact ZJ m
   ·exact fun e=>ZK (e▸m)
   ·cases cc with
    |true=>exact Aj rfl (q rfl H3 (I.trans s3))
    |false=>exact Ad rfl (SS Ak fun J U=>X 2 rfl (some J) _ ((I.trans s3).trans (AG.new U)) (.inr ⟨by decide,J,rfl,AD⟩))
theorem LJ:BO ["row","word"] ["row"] (AJ V'):={}
theorem QW{c:Nat->Addr}(F:Fq K "deed_of" 63 f fd)(T:Txt mg)(k:SR P w K mg base "refuse_no_row" ["thing"] 13 (GX c))(x:∀j,j<9->Sl P w K mg base 3 (dA j) (cl j) (jv j) (Vr cl j)):AV P w K mg base (ER P w) 14 f fd ["row"] (Mb c cl):=by
 obtain⟨t,u,l,m,n,o⟩:=k.ex;obtain⟨oj,om,C,D,G,I⟩:=(x 0 (by decide):Sl P w K mg base 3 "Put" (cl 0) ["self","path","value"] (Ga (cl 0)));obtain⟨ot,ou,J,L,M,N⟩:=(x 1 (by decide):Sl P w K mg base 3 "Take" (cl 1) ["self","path"] (GY (cl 1)));obtain⟨ow,oz,O,R,S,U⟩:=(x 2 (by decide):Sl P w K mg base 3 "Change" (cl 2) ["self","path","value"] (Ga (cl 2)));obtain⟨o_,pB,X,Y,Z,mf⟩:=(x 3 (by decide):Sl P w K mg base 3 "Move" (cl 3) ["self","path","to"] (GZ (cl 3) "to"));obtain⟨pC,pD,mh,mi,mj,ml⟩:=(x 4 (by decide):Sl P w K mg base 3 "Copy" (cl 4) ["self","path","to"] (GZ (cl 4) "to"));obtain⟨pE,pF,mn,mq,mr,mu⟩:=(x 5 (by decide):Sl P w K mg base 3 "Ask" (cl 5) ["self","path","value"] (Ga (cl 5)));obtain⟨pG,pH,mv,mw,mx,my⟩:=(x 6 (by decide):Sl P w K mg base 3 "Has" (cl 6) ["self","path"] (GY (cl 6)));obtain⟨pI,pJ,mz,m_,nB,nE⟩:=(x 7 (by decide):Sl P w K mg base 3 "Lacks" (cl 7) ["self","path"] (GY (cl 7)));obtain⟨pK,pM,nF,nG,nH,nI⟩:=(x 8 (by decide):Sl P w K mg base 3 "Is" (cl 8) ["self","path","kind"] (GZ (cl 8) "kind"));refine F.eu LJ (fun vs H Q E h=>?_) (fun cL A outer s H vs Q E hr h=>?_)
 ·cases h<;>(subst_vars;rfl)
 ·have nd:=LJ.nd;have hu:=Hk hr;have b:Aq 13 _:=hr.mm;have p:Aq 4 _:=hr.mono (by decide);refine⟨_,(AE (Cj (IQ o b rfl n l m .nil Xe (Ax (pv 0)))) (AE (BL 1 nd (FU K 0)) (AE (Ai (AR BX (pv 1) AL (AQ _)) (AB (AK (Bw C D p rfl I G .nil Cv (AA (FU K 0) (Ax (FU K 0)))))) AO) (AE (Ai (AR BX (pv 1) AL (AQ _)) (AB (AK (Bw J L p rfl N M .nil Cv (Ax (FU K 0))))) AO) (AE (Ai (AR BX (pv 1) AL (AQ _)) (AB (AK (Bw O R p rfl U S .nil Cv (AA (FU K 0) (Ax (FU K 0)))))) AO) (AE (Ai (AR BX (pv 1) AL (AQ _)) (AB (AK (Bw X Y p rfl mf Z .nil Cv (AA (FU K 0) (Ax (FU K 0)))))) AO) (AE (Ai (AR BX (pv 1) AL (AQ _)) (AB (AK (Bw mh mi p rfl ml mj .nil Cv (AA (FU K 0) (Ax (FU K 0)))))) AO) (AE (Ai (AR BX (pv 1) AL (AQ _)) (AB (AK (Bw mn mq p rfl mu mr .nil Cv (AA (FU K 0) (Ax (FU K 0)))))) AO) (AE (Ai (AR BX (pv 1) AL (AQ _)) (AB (AK (Bw mv mw p rfl my mx .nil Cv (Ax (FU K 0))))) AO) (AE (Ai (AR BX (pv 1) AL (AQ _)) (AB (AK (Bw mz m_ p rfl nE nB .nil Cv (Ax (FU K 0))))) AO) (AB (AK (Bw nF nG p rfl nI nH .nil Cv (AA (FU K 0) (Ax (FU K 0)))))))))))))))),?_⟩;have h1:Ff c cl vs H Q E:=h;clear h;cases h1 with
  |bad v i x0 x1 x3=>
   subst x0;exact⟨_,rfl,v,some i,rfl,x1,(fun z=>nomatch z),fun i' e d H' s hf=>by cases e;exact x3 d H' s hf⟩
  |good a j y r x0 x1 hj g q=>
   subst x0;refine⟨_,rfl,.ref a,none,rfl,x1,(fun _ H1 s1=>?_),fun i' e=>nomatch e⟩;have B:=Az.of (s1 _ _ g.row) (K:=K);have hl:=g.len;have fin:=mL s1 g q;refine⟨_,rfl,a,_,0,_,rfl,rfl,B,Rz,?_⟩;have A1:Jt (V.str (FT j)::y::r) 1=some y:=Ii;rcases j9 hj with rfl|rfl|rfl|rfl|rfl|rfl|rfl|rfl|rfl
   all_goals first|(obtain rfl:=hl.1 rfl)|(obtain⟨z,rfl⟩:=hl.2 (by decide))
   all_goals repeat (first|refine⟨_,rfl,rfl,_,rfl,Ad rfl ?_⟩|refine⟨_,rfl,rfl,_,rfl,Aj rfl ?_⟩)
   all_goals first|exact⟨_,rfl,a,_,1,_,rfl,rfl,B,Ii,fin⟩|exact⟨_,rfl,a,_,1,_,rfl,rfl,B,Ii,_,rfl,a,_,2,_,rfl,rfl,B,at2,fin⟩
theorem Hz:BO ["rows","deeds","copies","at","row","deed"] ["rows"] (AJ TB):={}
theorem Mo{c fi:Nat->Addr}(F:Fq K "deeds_of" 67 f fd)(T:Txt mg)(C:SR P w K mg base "deed_of" ["row"] 14 (Mb c cl))(N:Nm mg c cB)(kn:Kn K c cB fi)(I4:ew P w K mg base (fi 4) ["self","at"] (Bg (c 4)))(iO:dN P w K mg base (fi 4) ["self","at"] (Bg (c 4)))(Y:mg "enumerate"=none)(hR:∃t,mg "MOST_ROWS"=some (.int 40 t))(nJ:∃t,mg "MOST_COPIES"=some (.int 3 t)):AV P w K mg base (ER P w) 16 f fd ["rows"] (Iz c cl):=by
 obtain⟨fH,fJ,G,I,J,L⟩:=C.ex;obtain⟨Z,p,u,b⟩:=I4;obtain⟨pN,GN,bN⟩:=iO;obtain⟨tr,nK⟩:=hR;obtain⟨tc,nM⟩:=nJ;refine F.eu Hz (fun vs H Q E h=>?_) (fun cL A outer s H vs Q E hr h=>?_)
 ·obtain⟨l,rs,M,rfl,hl,R,hn,q,qe⟩:=h;rfl
 ·obtain⟨l,rs,M,rfl,hl,R,hn,q,qe⟩:=h;have nd:=Hz.nd;have hu:=Hk hr;have B:Aq 14 _:=hr.mm;have S:Aq 2 _:=hr.mono (by decide);have iP:Cw 2 _:=⟨S.dp,S.un,S.gd⟩;have m:Ds K (c 4) (fi 4)=true:=kn.own 2 (by decide);refine⟨_,(AE (BL 1 nd (BB AI)) (AE (BL 2 nd AF) (AE (RE gw rfl (Sr rfl Y K_ (Ax (pv 0))) (Q_ rfl (Dv (Di 3 nd) (Dv (Di 4 nd) Ng))) (AE (Vx rfl rfl rfl (Vv L B rfl J G I (Ax (pv 4))) (Sq rfl N.Ku (kn.ex 2 (by decide)) rfl rfl N.Ir m GN iP bN b Vu iF (fun _ _=>(Ax (pv 3)))) nd (j:=5) rfl rfl) (AE (Ai (AR BX (FU K 4) AL (AQ _)) (AB (BL 2 nd (AN BN (pv 2) AF))) AO) (AE (Ai (PW.pt (pw_or (AR RJ (pv 3) (Au (v:=.int 40) rfl nK ⟨tr,rfl⟩) (AQ _)) (pw_or1 (AR HY (pv 2) (Au (v:=.int 3) rfl nM ⟨tc,rfl⟩) (AQ _))))) (AB (DT rfl rfl rfl N.Ir m p S u b Fc (Ax (pv 3)))) AO) (AB (Cj (gb K (pv 1) (pv 5)))))))) (AB (AK (pv 1)))))),?_⟩;refine⟨Nat.zero_le _,.mk fun D H1 nD sD fD=>?_⟩;refine⟨_,rfl,l,rs,rfl,Ap.of (sD _ _ hl),QM (fun i σ X=>∃(ds:List V)(cp:Nat)(o3 o4 o5:Option V),σ=[some (.ref l),some (.ref D),some (.int (cp:Int)),o3,o4,o5]/\AG H X/\X D=some (.lst ds)/\Ay cl (BE D X) ds (M.take i)/\CG M 0 0=CG (M.drop i) i cp)
   ⟨[],0,none,none,none,rfl,sD,fD,.nil,rfl⟩ (fun i σ X _ ⟨_,_,_,_,_,_,si,_⟩=>Ap.of (si _ _ hl)) ?_ ?_⟩
  rotate_left
  ·rintro σ X ⟨ds,cp,o3,o4,o5,rfl,si,fd,dd,ed⟩;rw[R.len,List.take_length]at dd;rw[R.len,List.drop_length]at ed;exact⟨_,rfl,q ed D ds X si fd dd⟩
  rintro i x σ X e T go hx ⟨ds,cp,o3,o4,o5,rfl,si,fd,dd,ed⟩ hT;refine⟨T,_,rfl,Az.of AD,rfl,_,_,rfl,_,_,rfl,rfl,?_⟩;have sT:=AG.new (o:=.tup [.int (i:Int),x]) hT;generalize upd X T (.tup [.int (i:Int),x])=HT at sT;obtain⟨it,hit,ri⟩:=R.get hx;have iQ:=si.trans sT;have ri:=ri.up iQ;have pO:i<43:=Nat.lt_of_lt_of_le (p' hx).1 hn;cases ri with
  |@bad i0 xx=>
   refine⟨_,rfl,.bad x i0 rfl xx fun d H2 s2 hf=>⟨c 2,rfl,kn.ex 2 (by decide),.hit ((kn.hX 2 (by decide) 2 (by decide)).trans (by decide)) ⟨_,rfl,dO Ak fun O hd=>?_⟩⟩⟩;exact qe i (ed.trans (OV hit)) (some O) _ ((iQ.trans s2).trans (AG.new hd)) (.inr ⟨by decide,O,rfl,AD⟩)
  |@good a j y r e0 xx hj g=>
   subst e0;refine⟨_,rfl,.good a j y r rfl xx hj g fun v H2 s2 dI=>?_⟩;have iR:=s2 _ _ (sT _ _ fd);have ga:=s2 _ _ g.row;have eg:=LA (c:=cp) hit;have ec:=Su (y:=y) (r:=r) hj;have s02:=iQ.trans s2;generalize U:cp+Ss (some (j,y,r))=cq at eg;dsimp only;refine R_ (fun σ' H'=>σ'=[some (.ref l),some (.ref D),some (.int (cq:Int)),some (.int (i:Int)),some (.ref a),some v]/\H'=H2) ?_ (fun k=>?_);rotate_left
   ·refine⟨_,rfl,a,_,0,_,rfl,rfl,Az.of ga,Rz,rfl,_,rfl,?_⟩;rw[LB hj];by_cases h4:j=4
    ·rw[ec,if_pos h4]at U;exact Ad (decide_eq_true h4) ⟨_,rfl,_,_,rfl,rfl,k _ _ ⟨by rw[<-U];rfl,rfl⟩⟩
    ·rw[ec,if_neg h4]at U;exact Aj (decide_eq_false h4) (k _ _ ⟨by rw[<-U];rfl,rfl⟩)
   rintro σ2 H9 ⟨rfl,rfl⟩;have kB:∀(h:40<=i∨3<cq) O,H9 O=none->E (.ref (c 4)) (some O) (upd H9 O (OJ O [("at",.int (i:Int))])):=fun h O hd=>(qe i (ed.trans (eg.trans (if_pos h))) (some O) _ (s02.trans (AG.new hd)) (.inr ⟨by decide,O,rfl,AD⟩)).2;refine⟨_,rfl,_,_,rfl,rfl,_,rfl,Ez (fun er=>?_) (fun er=>⟨_,rfl,_,_,rfl,rfl,_,rfl,Ez (fun dU=>?_) (fun dU=>?_)⟩)⟩
   ·have h40:40<=i:=Int.ofNat_le.mp (of_decide_eq_true er);exact Ad rfl ⟨_,rfl,SS Ak (kB (.inl h40))⟩
   ·have h3:3<cq:=Int.ofNat_lt.mp (of_decide_eq_true dU);exact⟨_,rfl,SS Ak (kB (.inr h3))⟩
   ·have n40:¬(40<=i∨3<cq):=fun z=>z.elim (fun z=>of_decide_eq_false er (Int.ofNat_le.mpr z)) fun z=>of_decide_eq_false dU (Int.ofNat_lt.mpr z);rw[if_neg n40]at eg;have dl:=dd.len;refine⟨_,rfl,.inl ⟨rfl,_,Ap.of iR⟩,_,rfl,D,_,_,rfl,rfl,iR,BH (by rw[dl,List.length_take];have:=Nat.min_le_left i M.length;lia),?_⟩;refine go.n ⟨ds++[v],cq,_,_,_,rfl,s02.put nD,AD,?_,ed.trans eg⟩;rw[EL,take_snoc hit];exact(dd.up (DI (sT.trans s2))).snoc hj (dI.Xm iR dd.refs)
theorem WA(F:Fq K "_law_cell" 70 f c)(T:Txt mg):AV P w K mg base BP 1 f c ["_law_script","_law_k"] (Rp K):=by
 refine F.oq ["_law_script","_law_k"] fun H _ _ _ _ j h=>?_;obtain⟨a,b,k,rfl,d,q⟩:=h;refine⟨_,(AE (Ai (AR XX (pv 1) (Ig K T (pv 0)) (AQ _)) (AB (AK (AN As (ZU K (pv 0) (pv 1)) (AN DD AF (AN RG AF AF))))) AO) (AB (AK (AN BN AF (AN DD AF (pv 1)))))),?_⟩;refine⟨_,rfl,_,rfl,a,_,rfl,.inl d,_,_,rfl,rfl,_,rfl,?_⟩;refine KS (fun e=>?_) (fun e=>?_)
 ·have g:k<b.length:=by
   have:=of_decide_eq_true e;rw[List.length_map]at this;lia
  have i:(b.map V.int)[k]?=some (.int b[k]):=by rw[List.getElem?_map,p_ g];rfl
  exact⟨_,rfl,_,rfl,a,_,_,_,rfl,rfl,d,Bd i,_,_,rfl,rfl,⟨by decide,by decide,by decide⟩,_,_,rfl,rfl,.inl B',_,_,rfl,rfl,BC,q _ (Int.emod_nonneg _ (by decide))⟩
 ·exact⟨_,rfl,_,_,rfl,rfl,.inl B',_,_,rfl,rfl,q _ (by lia)⟩
theorem ZW{p:FuncData}(F:Fq K "_law_mix" 71 f p)(T:Txt mg):AV P w K mg base BP 1 f p ["_law_cell_here","_law_k"] Rt:=by
 refine F.oq ["_law_cell_here","_law_k","_law_number","_law_j"] fun H s _ a _ u h=>?_;obtain⟨c,k,rfl,t,q⟩:=h;refine⟨_,(AE (Ai (PW.pt (pw_and (AR BX (AN As (pv 0) AF) AF (AQ _)) (pw_and1 (AR RJ (pv 0) (AN DD AF (AN RG AF AF)) (AQ _))))) (AE (BL 2 a (AN Dw (pv 0) AF)) (AE (bM (Bj rfl T.range (Ax (pv 1))) (Di 3 a) (AB (BL 2 a (AN Dw (pv 2) AF)))) (AB (AK (AN As (pv 2) AF))))) AO) (AE (BL 2 a (AN As (AN DD (AN BN (pv 0) AF) AF) AF)) (AE (BL 2 a (AN As (AN BN (pv 2) (AN DD (AN BN (pv 1) AF) AF)) AF)) (AE (BL 2 a (AN As (AN DD (pv 2) (pv 2)) AF)) (AE (BL 2 a (AN As (AN DD (AN BN (pv 2) AF) (AN BN (AN Dw (pv 2) AF) AF)) AF)) (AB (AK (AN Dw (pv 2) AF)))))))),?_⟩;have lo:∀x:Int,-(2 ^ 64)<x % 2305843009213693951/\x % 2305843009213693951<2 ^ 64:=fun x=>by
  have d:=Int.emod_nonneg x (show(2305843009213693951:Int)≠0 by decide);have g:=Int.emod_lt_of_pos x (show(0:Int)<2305843009213693951 by decide);constructor<;>lia
 have lo1:∀x:Int,-(2 ^ 64)<x % 999999999999999989+1/\x % 999999999999999989+1<2 ^ 64:=fun x=>by
  have d:=Int.emod_nonneg x (show(999999999999999989:Int)≠0 by decide);have g:=Int.emod_lt_of_pos x (show(0:Int)<999999999999999989 by decide);constructor<;>lia
 have r:¬(c % 4=0/\4*10 ^ 60<=c)->s.rt (.int ((Kg c k+1)*(Kg c k/1000003+7) % 2305843009213693951/7919)) H:=fun h=>by
  have e:Pp c k=_:=if_neg h;rw[e]at q;exact q
 refine⟨_,rfl,_,_,rfl,rfl,BC,rfl,_,rfl,?_⟩;refine KS (fun d=>?_) (fun d=>?_)
 ·refine⟨_,rfl,_,_,rfl,rfl,⟨by decide,by decide,by decide⟩,_,_,rfl,rfl,.inl B',_,_,rfl,rfl,_,rfl,?_⟩;have c4:c % 4=0:=V.int.inj (of_decide_eq_true d);refine KS (fun g=>?_) (fun g=>?_)
  ·have j:4*10 ^ 60<=c:=of_decide_eq_true g;have e:Pp c k=_:=if_pos ⟨c4,j⟩;rw[e]at q;refine⟨_,rfl,_,_,rfl,rfl,B',_,rfl,_,rfl,Int.le_trans (by decide) (Int.natCast_nonneg _),Int.lt_of_le_of_lt (Int.ofNat_le.mpr t) (by decide),CM (lo:=0) (fun i l m=>∃(o:Option V),l=[some (.int c),some (.int (k:Int)),some (.int (Rq i (c/4))),o]/\m=H) ⟨none,rfl,rfl⟩ ?_ ?_⟩
   ·rintro i l m _ go v ⟨o,rfl,rfl⟩;exact⟨_,rfl,_,_,rfl,rfl,B',go.n ⟨_,rfl,rfl⟩⟩
   ·rintro l m ⟨o,rfl,rfl⟩;rw[Int.toNat_natCast];exact⟨_,rfl,_,_,rfl,rfl,BC,q⟩
  ·have b:¬(c % 4=0/\4*10 ^ 60<=c):=fun z=>g (decide_eq_true z.2);exact⟨_,rfl,_,_,rfl,rfl,_,_,rfl,rfl,.inr B',_,_,rfl,rfl,BC,_,rfl,_,rfl,_,_,rfl,rfl,_,_,rfl,rfl,.inr B',_,_,rfl,rfl,_,_,rfl,rfl,BC,_,rfl,_,rfl,_,_,rfl,rfl,.inl (lo _),_,_,rfl,rfl,BC,_,rfl,_,_,rfl,rfl,_,rfl,_,_,rfl,rfl,B',_,_,rfl,rfl,_,_,rfl,rfl,.inl (lo1 _),_,_,rfl,rfl,BC,_,rfl,_,_,rfl,rfl,B',r b⟩
 ·refine Aa ?_;have b:¬(c % 4=0/\4*10 ^ 60<=c):=fun z=>d (decide_eq_true (congrArg V.int z.1));exact⟨_,rfl,_,_,rfl,rfl,_,_,rfl,rfl,.inr B',_,_,rfl,rfl,BC,_,rfl,_,rfl,_,_,rfl,rfl,_,_,rfl,rfl,.inr B',_,_,rfl,rfl,_,_,rfl,rfl,BC,_,rfl,_,rfl,_,_,rfl,rfl,.inl (lo _),_,_,rfl,rfl,BC,_,rfl,_,_,rfl,rfl,_,rfl,_,_,rfl,rfl,B',_,_,rfl,rfl,_,_,rfl,rfl,.inl (lo1 _),_,_,rfl,rfl,BC,_,rfl,_,_,rfl,rfl,B',r b⟩
theorem WB{a:FuncData}(F:Fq K "_law_mix" 71 f a)(T:Txt mg):AV P w K mg base BP 1 f a ["_law_cell_here","_law_k"] Ho:=(ZW F T).imp fun _ _ _ _ h=>Ru h
theorem TF(F:Fq K "_law_names" 72 f fd)(T:Txt mg)(l:Df P w K mg base "_law_mix" ["_law_cell_here","_law_k"] 1 Ho):AV P w K mg base BP 2 f fd ["_law_cell_here"] Kk:=by
 refine F.oq ["_law_cell_here","_law_letters","_law_pairs","_law_word","_law_size","_law_at","_law_more","_law_names_here","_law_k","_law_one"] fun H _ _ d _ Z h=>?_;obtain⟨c,rfl,q⟩:=h;refine⟨_,(AE (BA (i:=1) d rfl (Or.inr rfl) AL) (AE (MF (i:=2) (fv:=["_law_cell_here"]) (fs:=[0]) rfl (.of (by rfl)) d rfl (Or.inl rfl) (Bj rfl T.range (Ax AF)) (fun _ _ _ _=>Nx) (fun C s0 H0 fp=>(AN As (Bo l Z (AA (pv 1) (Ax (pv 0)))) AF))) (AE (BA (i:=3) d rfl (Or.inr rfl) (KL PySem.F.plainAttrs_str PySem.F.slot_str_join PySem.F.type_str_join VN AL (Ax (cmp ["_law_letters"] [1] (FW (pv 2)) fun _ _ _ _=>(AN Dn (Be Ly (pv 1) (AN As (pv 0) AF) (fun _ _=>rfl)) (Be Ly (pv 1) (AN Dw (pv 0) AF) (fun _ _=>rfl))))))) (AE (BL 4 d (AN BN AF (AN As (Bo l Z (AA (pv 0) (Ax AF))) AF))) (AE (BL 5 d (AN As (Bo l Z (AA (pv 0) (Ax AF))) (pv 4))) (AE (BA (i:=6) d rfl (Or.inr rfl) (Bo l Z (AA (pv 0) (Ax AF)))) (AE (Ai (AR BX (AN As (Bo l Z (AA (pv 0) (Ax AF))) AF) AF (AQ _)) (AB (AK (cmp ["_law_word","_law_more"] [3,6] (Bj rfl T.range (Ax AF)) fun _ _ _ _=>(CQ MJ (pv 1) Dy (Cn (AN BN (AN BN (pv 0) AF) (AN As (pv 2) AF))))))) AO) (AE (BL 7 d (BB AI)) (AE (bM (Bj rfl T.range (Ax AF)) (Di 8 d) (AE (BL 9 d (Be Ly (pv 1) (AN As (AN BN (pv 6) (AN DD AF (pv 8))) AF) (fun _ _=>rfl))) (AB (Cj (gb K (pv 7) (AN Dn (AN Dn (CQ MJ (pv 3) Dy (Cn (pv 5))) (pv 9)) (CQ MJ (pv 3) (Cn (AN BN (pv 5) AF)) (Cn (pv 4))))))))) (AB (AK (pv 7)))))))))))),?_⟩;refine⟨4,rfl,by decide,by decide,DG (n:=4) (fun i=>.int (0+(i:Int))) (fun _ v=>∃n:Int,v=.int n/\0<=n/\n<676) (by decide) (fun i o E s=>E) (fun i o v H' E s y=>⟨y.2,y.1⟩) (fun o s=>Nat.le_refl _) (fun i o R E s r=>?_) (fun D1 H1 ps pP s1 d1 lp op=>?_)⟩
 ·refine⟨_,rfl,_,rfl,c,i,by simp,by lia,fun x _ _=>⟨_,_,rfl,rfl,BC,r _ o (AG.refl o) ⟨_,rfl,?_⟩⟩⟩;exact EG x (by decide)
 obtain⟨PP,nN⟩:∃PP,PP=V.ref D1:=⟨_,rfl⟩;refine⟨rfl,_,rfl,D1,rfl,⟨_,Ap.of d1⟩,DG (n:=4) (fun i=>ps.getD i .Ae) (fun _ v=>cW 2 v) (by decide) (fun i o E s=>⟨_,_,Ap.of (s _ _ d1),p_ (by lia)⟩) (fun i o v H' E s y=>?_) (fun o s=>⟨_,Ap.of (s _ _ d1),by lia⟩) (fun i o R E s r=>?_) (fun D o g hD s d2 ly oy=>?_)⟩
 ·obtain⟨e,y⟩:=y;refine⟨?_,e⟩;rw[List.getD_eq_getElem?_getD,y _ (Ap.of (s _ _ d1))];rfl
 ·obtain⟨n,en,n0,n1⟩:=op i (ps.getD i .Ae) (by rw[List.getD_eq_getElem?_getD,p_ (show i<ps.length by lia)];rfl);rw[en];obtain⟨G,I,hl⟩:=MQ (n % 26) (GL n).1 (GL n).2;obtain⟨kC,iS,nP⟩:=MQ (n/26) (by lia) (by lia);refine⟨_,rfl,_,rfl,_,_,rfl,rfl,BC,Ro,_,G,rfl,rfl,by rw[OA];decide,I,_,rfl,_,rfl,_,_,rfl,rfl,B',Ro,_,kC,rfl,rfl,by rw[OA];decide,iS,_,_,rfl,rfl,Ab (show 1+1<=1000 by decide),r _ o (AG.refl o) ⟨_,rfl,rfl,?_⟩⟩;rw[BW];show([G]++[kC]).all Ju=true;simp[hl,nP]
 obtain⟨zs,e1,S,h2,h3⟩:=Hq g fun y J=>by
  obtain⟨j,k,e⟩:=List.mem_iff_getElem.mp J;exact oy j y (by rw[p_ k,e])
 subst e1;rw[ly]at S h2;have lz:zs.length=4:=by rw[<-ly,List.length_map]
 refine⟨_,D,zs,rfl,rfl,Ap.of d2,by rw[S,lz];decide,?_⟩;obtain⟨W,hW⟩:∃W,W=Txt.join "" zs:=⟨_,rfl⟩;have O:(sgn W).length=8:=by rw[hW,Kd,h2]
 have wL:(sgn W).all Ju=true:=by rw[hW,Kd];exact h3
 have wz:W.length=8:=by rw[<-Cq];exact O
 rw[<-hW,<-nN];refine⟨_,rfl,c,4,rfl,by decide,fun x _ _=>⟨_,_,rfl,rfl,BC,_,_,rfl,rfl,?_⟩⟩;have b1:0<=x % 8/\x % 8<8:=⟨Int.emod_nonneg _ (by decide),Int.emod_lt_of_pos _ (by decide)⟩;obtain⟨t,jz⟩:∃z:Nat,1+x % 8=(z:Int):=⟨(1+x % 8).toNat,by lia⟩;have bs:1<=t/\t<=8:=by lia
 refine⟨_,rfl,c,5,rfl,by decide,fun r2 _ _=>⟨_,rfl,_,_,rfl,rfl,(by show(0:Int)<1+x % 8;lia),?_⟩⟩;have b2:0<=r2 % (1+x % 8)/\r2 % (1+x % 8)<1+x % 8:=⟨Int.emod_nonneg _ (by lia),Int.emod_lt_of_pos _ (by lia)⟩;obtain⟨Ii,pQ⟩:∃z:Nat,r2 % (1+x % 8)=(z:Int):=⟨(r2 % (1+x % 8)).toNat,by lia⟩;have pR:Ii<t:=by lia
 refine⟨_,rfl,c,6,rfl,by decide,fun b pS _=>?_⟩;refine⟨_,rfl,c,7,rfl,by decide,fun r4 _ _=>⟨_,_,rfl,rfl,BC,rfl,_,rfl,?_⟩⟩;have m3:=EG b (n:=3) (by decide);have L:=s1.trans s;refine KS (fun _=>?_) (fun _=>?_)
 ·refine⟨6,rfl,by decide,by decide,DG (n:=6) (fun i=>.int (0+(i:Int))) (fun i v=>∃y:Str,v=.str y/\CI y=true/\((sgn y).length:Int)=(i:Int)+1+b % 3) (by decide) (fun i o E s=>E) (fun i o v H' E s y=>⟨y.2,y.1⟩) (fun o s=>Nat.le_refl _) (fun i B R E U r=>?_) (fun D3 B X nQ U Y lv ov=>?_)⟩
  ·refine⟨_,rfl,_,rfl,_,_,rfl,rfl,_,rfl,_,_,rfl,rfl,BC,_,_,rfl,rfl,_,rfl,W,rfl,by rw[wz];decide,r _ B (AG.refl B) ⟨_,rfl,?_,?_⟩⟩
   ·obtain⟨n,hn⟩:∃n:Nat,0+(i:Int)+1+b % 3=(n:Int):=⟨(0+(i:Int)+1+b % 3).toNat,by lia⟩;show EF (sgn (Txt.slice W none (some (0+(i:Int)+1+b % 3))))=true;rw[hn,CV,IY];refine Ke ?_ ?_ (GH wL n)
    ·rw[List.length_take,O];lia
    ·rw[List.length_take,O];lia
   ·obtain⟨n,hn⟩:∃n:Nat,0+(i:Int)+1+b % 3=(n:Int):=⟨(0+(i:Int)+1+b % 3).toNat,by lia⟩;rw[hn,CV,IY,List.length_take,O];lia
  ·have gen:∀(X:List V),(∀(j:Nat) v,X[j]?=some v->∃y:Str,v=.str y)->∃g:List Str,X=g.map V.str:=by
    intro X
    induction X with
    |nil=>exact fun _=>⟨[],rfl⟩
    |cons v r ih=>
     intro h;obtain⟨y,rfl⟩:=h 0 v rfl;obtain⟨g,rfl⟩:=ih fun j v k=>h (j+1) v (by simpa using k);exact⟨y::g,rfl⟩
   obtain⟨ns,rfl⟩:=gen X fun j v k=>let⟨y,e,_⟩:=ov j v k;⟨y,e⟩;have nat:∀(j:Nat) y,ns[j]?=some y->CI y=true/\((sgn y).length:Int)=(j:Int)+1+b % 3:=fun j y k=>by
    obtain⟨y',e,S,h2⟩:=ov j (.str y) (by rw[List.getElem?_map,k];rfl);cases e;exact⟨S,h2⟩
   refine q D3 ns B (L.trans U) (L.free nQ) Y (by rw[<-lv,List.length_map]) (Kh (fun j y=>((sgn y).length:Int)=(j:Int)+1+b % 3) (fun j y k=>(nat j y k).2) fun i j y kD _ p1 p2=>by lia) fun y J=>?_;obtain⟨j,k,rfl⟩:=List.mem_iff_getElem.mp J;exact(nat j _ (p_ k)).1
 obtain⟨u,iT⟩:∃z:Int,z=1+x % 8:=⟨_,rfl⟩;obtain⟨a,iU⟩:∃z:Int,z=r2 % (1+x % 8):=⟨_,rfl⟩;obtain⟨A,kE⟩:∃A:Nat->Str->Prop,A=fun(j:Nat)(y:Str)=>(sgn y)[Ii]?=Ul[((b+5*(j:Int)) % 26).toNat]?:=⟨_,rfl⟩;refine⟨Nat.zero_le _,fun p hp=>?_⟩;have pf:H p=none:=L.free hp;refine⟨6,rfl,by decide,by decide,CM (lo:=0) (n:=6) (fun i σ B=>∃(g:List Str)(ok os:Option V),σ=[some (.int c),some (.str Ro),some PP,some (.str W),some (.int u),some (.int a),some (.int b),some (.ref p),ok,os]/\
  AG H B/\B p=some (.lst (g.map V.str))/\g.length=i/\(∀(j:Nat) y,g[j]?=some y->A j y)/\∀y∈g,CI y=true) ⟨[],none,none,by rw[iT,iU];rfl,L.put pf,AD,rfl,fun j y J=>(by simp at J),fun y J=>nomatch J⟩ ?_ ?_⟩
 ·rintro i σ B _ go E ⟨g,ok,os,rfl,U,Y,M,pm,ny⟩;have more:∀(y:Str)(oo Q:Option V),A i y/\CI y=true->∃(N:List Str)(ok os:Option V),[some (V.int c),some (V.str Ro),some PP,some (V.str W),some (V.int u),some (V.int a),some (V.int b),some (V.ref p),oo,Q]=
    [some (V.int c),some (V.str Ro),some PP,some (V.str W),some (V.int u),some (V.int a),some (V.int b),some (V.ref p),ok,os]/\
    AG H (upd B p (.lst (g.map V.str++[.str y])))/\upd B p (.lst (g.map V.str++[.str y])) p=some (.lst (N.map V.str))/\N.length=i+1/\(∀(j:Nat) y,N[j]?=some y->A j y)/\∀z∈N,CI z=true:=fun y oo Q J=>
   ⟨g++[y],oo,Q,rfl,U.put pf,by rw[AD,List.map_append];rfl,by simp[M],fun j z k=>by
    by_cases nR:j<g.length
    ·rw[List.getElem?_append_left nR]at k;exact pm j z k
    ·have hl:=(p' k).1;rw[List.length_append,List.length_singleton]at hl;have e:j=i:=by lia
     subst e;rw[List.getElem?_append_right (by lia),M,Nat.sub_self]at k;have e:y=z:=by simpa using k
     rw[<-e];exact J.1,fun z hz=>(List.mem_append.mp hz).elim (ny z) fun hz=>by rw[List.mem_singleton.mp hz];exact J.2⟩
  have nS:(g.map V.str).length<sizeLine:=BH (by rw[List.length_map];lia);obtain⟨G,I,hl⟩:=MQ ((b+5*(0+(i:Int))) % 26) (GL _).1 (GL _).2;refine⟨_,rfl,_,rfl,_,rfl,_,_,rfl,rfl,.inl B',_,_,rfl,rfl,_,_,rfl,rfl,BC,Ro,_,G,rfl,rfl,by decide,I,?_⟩;have l1:(Txt.slice W none (some a)).length<=8:=by rw[<-wz];exact Txt.slice_le W _ _
  have l2:(Txt.slice W (some (a+1)) (some u)).length<=8:=by rw[<-wz];exact Txt.slice_le W _ _
  have l3:(Txt.slice W none (some a)++(⟨#[G]⟩:Str)).length<=9:=by rw[Str.length_append];show _+1<=9;lia
  refine⟨_,rfl,.inl ⟨rfl,_,Ap.of Y⟩,_,rfl,_,rfl,_,rfl,W,rfl,by rw[wz];decide,_,rfl,_,_,rfl,rfl,?_,_,rfl,_,rfl,_,_,rfl,rfl,_,rfl,_,rfl,_,rfl,W,rfl,by rw[wz];decide,_,_,rfl,rfl,?_,p,_,_,rfl,rfl,Y,nS,go.n (more _ _ _ ⟨?_,?_⟩)⟩
  ·exact Nat.le_of_lt (BH (by show(Txt.slice W none (some a)).length+1<=1000;lia))
  ·exact Nat.le_of_lt (BH (by lia))
  ·rw[kE];show(sgn (Txt.slice W none (some a)++(⟨#[G]⟩:Str)++Txt.slice W (some (a+1)) (some u)))[Ii]?=Ul[((b+5*(i:Int)) % 26).toNat]?;have e0:a=(Ii:Int):=by lia
   rw[BW,BW,CV,e0,IY];have ec:sgn ⟨#[G]⟩=[G]:=rfl;rw[ec];have lt:((sgn W).take Ii).length=Ii:=by rw[List.length_take,O];lia
   rw[List.getElem?_append_left (by rw[List.length_append,lt,List.length_singleton];lia),List.getElem?_append_right (by rw[lt];exact Nat.le_refl _),lt,Nat.sub_self];have hb:=GL (b+5*(0+(i:Int)));obtain⟨m,hm⟩:∃m:Nat,(b+5*(0+(i:Int))) % 26=(m:Int):=⟨((b+5*(0+(i:Int))) % 26).toNat,by lia⟩;have hz:(b+5*(i:Int)) % 26=(m:Int):=by rw[<-hm,Int.zero_add]
   rw[hz,Int.toNat_natCast];rw[hm]at I;obtain⟨j',g1,g2,g3,_⟩:=Dz I;have:j'=m:=by
    have iV:m<(sgn Ro).length:=by show m<Ul.length;rw[Ib];lia
    have:=Bd (xs:=sgn Ro) (j:=m) (p_ iV);obtain⟨j2,k1,_⟩:=Dz this;have q1:Qv (sgn Ro).length (m:Int)=some m:=by
     unfold Qv;rw[if_pos (by lia),if_pos (by lia),Int.toNat_natCast]
    have:=(IS q1).1;rw[this]at g1;exact(qB g1).symm
   rw[this]at g2;exact g2.symm
  ·show EF (sgn (Txt.slice W none (some a)++⟨#[G]⟩++Txt.slice W (some (a+1)) (some u)))=true;have e0:a=(Ii:Int):=by lia
   have e1:(Ii:Int)+1=((Ii+1:Nat):Int):=by lia
   have e2:u=(t:Int):=by lia
   rw[BW,BW,CV,CV,e0,e1,e2,IY,VR _ _ _ (by lia) (by rw[O];lia)];have ec:sgn ⟨#[G]⟩=[G]:=rfl;rw[ec];have hlen:min Ii 8+1+(min t 8-(Ii+1))=t:=by rw[Nat.min_eq_left (by lia),Nat.min_eq_left (by lia)];lia
   refine Ke ?_ ?_ ?_
   ·simp only[List.length_append,List.length_take,List.length_drop,O,List.length_singleton];rw[hlen];lia
   ·simp only[List.length_append,List.length_take,List.length_drop,O,List.length_singleton];rw[hlen];lia
   ·rw[List.all_append,List.all_append,GH wL,Rj (GH wL t)];simp[hl]
 ·rintro σ B ⟨g,ok,os,rfl,U,Y,M,pm,ny⟩;refine⟨_,rfl,q p g B U pf Y M (Kh A pm fun i j y kD k p1 p2=>?_) ny⟩;rw[kE]at p1 p2;have hb:=(GL (b+5*(i:Int)));have pT:=(GL (b+5*(j:Int)));rw[p1]at p2;have nl:Ul.Nodup:=by decide+kernel
  have S:((b+5*(i:Int)) % 26).toNat<Ul.length:=by rw[Ib];lia
  have:=(List.getElem?_inj S nl).mp p2;exact VM kD (by lia) this
theorem WC(F:Fq K "_law_good" 73 f fd)(T:Txt mg)(l:Df P w K mg base "_law_mix" ["_law_cell_here","_law_k"] 1 Ho):AV P w K mg base BP 2 f fd ["_law_cell_here","_law_names_here"] LF:=by
 refine F.oq ["_law_cell_here","_law_names_here","_law_path","_law_some"] fun H _ _ o _ hr h=>?_;obtain⟨c,n,ys,rfl,r,ly,ny,q⟩:=h;refine⟨_,(@AW _ _ _ _ _ _ rfl (@BA _ _ 2 _ _ _ _ o rfl (Or.inl rfl) (@Be _ _ _ _ _ _ (FJ K) Bf (@BB _ _ _ _ (@AA _ _ _ _ _ (@AM _ _ _ _ _ (@AA _ _ _ _ _ (@Be _ _ _ _ _ _ (FJ K) Bf (pv 1) AF (fun _ _=>rfl)) AI rfl)) (@AA _ _ _ _ _ (@AM _ _ _ _ _ (@AA _ _ _ _ _ AF (@AA _ _ _ _ _ (@Be _ _ _ _ _ _ (FJ K) Bf (pv 1) AF (fun _ _=>rfl)) AI rfl) rfl)) (@AA _ _ _ _ _ (@AM _ _ _ _ _ (@AA _ _ _ _ _ AF AI rfl)) (@AA _ _ _ _ _ (@AM _ _ _ _ _ (@AA _ _ _ _ _ (@Be _ _ _ _ _ _ (FJ K) Bf (pv 1) AF (fun _ _=>rfl)) (@AA _ _ _ _ _ (@Be _ _ _ _ _ _ (FJ K) Bf (pv 1) AF (fun _ _=>rfl)) AI rfl) rfl)) AI rfl) rfl) rfl) rfl)) (@AN _ _ _ _ _ _ _ _ As (Bo l hr (@AA _ _ _ _ _ (pv 0) (@AA _ _ _ _ _ AF AI rfl) rfl)) AF) (fun _ _=>rfl)) rfl (Or.inl rfl)) (@AW _ _ _ _ _ _ rfl (@BA _ _ 3 _ _ _ _ o rfl (Or.inl rfl) (@BB _ _ _ _ (@AA _ _ _ _ _ (@AM _ _ _ _ _ (@AA _ _ _ _ _ AL (@AA _ _ _ _ _ (pv 2) (@AA _ _ _ _ _ (@BB _ _ _ _ (@AA _ _ _ _ _ AF AI rfl)) AI rfl) rfl) rfl)) (@AA _ _ _ _ _ (@AM _ _ _ _ _ (@AA _ _ _ _ _ AL (@AA _ _ _ _ _ (pv 2) AI rfl) rfl)) (@AA _ _ _ _ _ (@AM _ _ _ _ _ (@AA _ _ _ _ _ AL (@AA _ _ _ _ _ (@AM _ _ _ _ _ AI) (@AA _ _ _ _ _ KQ AI rfl) rfl) rfl)) (@AA _ _ _ _ _ (@AM _ _ _ _ _ (@AA _ _ _ _ _ AL (@AA _ _ _ _ _ (pv 2) (@AA _ _ _ _ _ (@AM _ _ _ _ _ (@AA _ _ _ _ _ AF AI rfl)) AI rfl) rfl) rfl)) (@AA _ _ _ _ _ (@AM _ _ _ _ _ (@AA _ _ _ _ _ AL (@AA _ _ _ _ _ (pv 2) (@AA _ _ _ _ _ AL AI rfl) rfl) rfl)) AI rfl) rfl) rfl) rfl) rfl)) rfl (Or.inl rfl)) (@AW _ _ _ _ _ _ rfl (@BA _ _ 3 _ _ _ _ o rfl (Or.inl rfl) (@AN _ _ _ _ _ _ _ _ IV (pv 3) (@BB _ _ _ _ (@AA _ _ _ _ _ (@AM _ _ _ _ _ (@AA _ _ _ _ _ AL (@AA _ _ _ _ _ (pv 2) AI rfl) rfl)) (@AA _ _ _ _ _ (@AM _ _ _ _ _ (@AA _ _ _ _ _ AL (@AA _ _ _ _ _ (@AM _ _ _ _ _ (@AA _ _ _ _ _ AF (@AA _ _ _ _ _ (@Be _ _ _ _ _ _ (FJ K) Bf (pv 1) AF (fun _ _=>rfl)) AI rfl) rfl)) AI rfl) rfl)) (@AA _ _ _ _ _ (@AM _ _ _ _ _ (@AA _ _ _ _ _ AL (@AA _ _ _ _ _ (pv 2) (@AA _ _ _ _ _ AL AI rfl) rfl) rfl)) (@AA _ _ _ _ _ (@AM _ _ _ _ _ (@AA _ _ _ _ _ AL (@AA _ _ _ _ _ (@AM _ _ _ _ _ AI) AI rfl) rfl)) (@AA _ _ _ _ _ (@AM _ _ _ _ _ (@AA _ _ _ _ _ AL (@AA _ _ _ _ _ (pv 2) (@AA _ _ _ _ _ (@AM _ _ _ _ _ (@AA _ _ _ _ _ AF AI rfl)) AI rfl) rfl) rfl)) AI rfl) rfl) rfl) rfl) rfl))) rfl (Or.inl rfl)) (@AB _ _ _ (@AK _ _ _ _ (@Be _ _ _ _ _ _ (FJ K) Bf (pv 3) (@AN _ _ _ _ _ _ _ _ As (Bo l hr (@AA _ _ _ _ _ (pv 0) (@AA _ _ _ _ _ AF AI rfl) rfl)) AF) (fun _ _=>rfl))))))),?_⟩;have get:∀j:Nat,j<6->∃y,Jt (ys.map V.str) (j:Int)=some (.str y)/\Fg (.str y):=fun j hj=>⟨ys[j]'(by rw[ly];exact hj),Bd (by rw[List.getElem?_map,p_ (by rw[ly];exact hj)];rfl),.inl ⟨_,rfl,ny _ (List.getElem_mem _)⟩⟩;obtain⟨y0,a0,b0⟩:=get 0 (by decide);obtain⟨y1,a1,b1⟩:=get 1 (by decide);obtain⟨y2,a2,b2⟩:=get 2 (by decide);obtain⟨y3,a3,b3⟩:=get 3 (by decide);obtain⟨y4,a4,b4⟩:=get 4 (by decide);clear get;have e:∀{x:V},Fg x->∀z∈[x],Fg z:=fun h z s=>by rw[List.mem_singleton.mp s];exact h
 have k:∀{x y:V},Fg x->Fg y->∀z∈[x,y],Fg z:=fun h g z s=>by
  rcases List.mem_cons.mp s with rfl|s
  ·exact h
  ·rw[List.mem_singleton.mp s];exact g
 have p:∀{i:Int},0<=i->i<=20->Fg (.int i):=fun h g=>.inr ⟨_,rfl,h,g⟩;have nl:∀x∈([]:List V),Fg x:=fun _ h=>nomatch h;refine⟨_,rfl,n,_,0,_,rfl,rfl,Ap.of r,a0,Ak,.mk fun e1 A1 m1 D f1=>?_⟩;refine⟨_,rfl,n,_,1,_,rfl,rfl,Ap.of (D _ _ r),a1,AZ,.mk fun e2 A2 m2 N f2=>⟨Ak,.mk fun e3 A3 m3 E f3=>?_⟩⟩;have O:=D.trans N;have t:=O.trans E;refine⟨_,rfl,n,_,2,_,rfl,rfl,Ap.of (t _ _ r),a2,_,rfl,n,_,3,_,rfl,rfl,Ap.of (t _ _ r),a3,AZ,.mk fun e4 A4 m4 u f4=>⟨Ab (show 4<=1000 by decide),.mk fun LP A5 m5 m G=>⟨_,rfl,c,0,rfl,by decide,fun r0 _ _=>?_⟩⟩⟩;have m0:=EG r0 (n:=4) (by decide);obtain⟨v,I,J⟩:=GK (xs:=[V.ref e1,.ref e2,.ref e3,.ref e4]) m0.1 (by exact m0.2);refine⟨_,_,rfl,rfl,BC,LP,_,_,_,rfl,rfl,Ap.of G,I,?_⟩;have u4:=t.trans u;have Q:=u4.trans m;obtain⟨A,xs,rfl,R,U,st,ne,lx⟩:∃A xs,v=.ref A/\A5 A=some (.tup xs)/\H A=none/\(∀x∈xs,Fg x)/\xs≠[]/\xs.length<=12:=by
  have J:v=.ref e1∨v=.ref e2∨v=.ref e3∨v=.ref e4:=by simpa using J
  rcases J with rfl|rfl|rfl|rfl
  ·exact⟨_,_,rfl,m _ _ (u _ _ (E _ _ (N _ _ f1))),m1,e b0,List.cons_ne_nil _ _,(show 1<=12 by decide)⟩
  ·exact⟨_,_,rfl,m _ _ (u _ _ (E _ _ f2)),D.free m2,k (p (by decide) (by decide)) b1,List.cons_ne_nil _ _,(show 2<=12 by decide)⟩
  ·exact⟨_,_,rfl,m _ _ (u _ _ f3),O.free m3,e (p (by decide) (by decide)),List.cons_ne_nil _ _,(show 1<=12 by decide)⟩
  ·exact⟨_,_,rfl,m _ _ f4,t.free m4,k b2 b3,List.cons_ne_nil _ _,(show 2<=12 by decide)⟩
 clear f1 f2 f3 f4 G I J m1 m2 m3 m4 m5 D N E u m O t u4;have Y:=Kx st lx;have a:=Nat.le_trans lx (show 12<=100 by decide);refine⟨_,rfl,Ak,.mk fun q1 G1 n1 g1 k1=>⟨Bh,.mk fun p1 G2 n2 g2 k2=>⟨_,rfl,AZ,.mk fun p2 G3 n3 g3 k3=>⟨Nat.zero_le _,.mk fun q3 G4 n4 g4 k4=>fun d3 B=>?_⟩⟩⟩⟩;obtain⟨G5,e5,g5,k5⟩:∃X,upd G4 d3 (.dK [])=X/\AG G4 X/\X d3=some (.dK []):=⟨_,rfl,AG.new B,AD⟩;rw[e5];clear e5;refine⟨Bh,.mk fun p3 G6 n6 g6 k6=>⟨_,rfl,Ak,.mk fun q4 G7 n7 g7 k7=>⟨Bh,.mk fun p4 G8 n8 g8 k8=>⟨_,rfl,Bh,.mk fun p5 G9 n9 g9 k9=>⟨Ab (show 5<=1000 by decide),.mk fun L1 GA nA gA kA=>?_⟩⟩⟩⟩⟩;have v1:=Q.trans g1;have v2:=v1.trans g2;have v3:=v2.trans g3;have v4:=v3.trans g4;have v5:=v4.trans g5;have v6:=v5.trans g6;have v7:=v6.trans g7;have v8:=v7.trans g8;have v9:=v8.trans g9;have Z:=v9.trans gA;refine⟨_,rfl,_,rfl,AZ,.mk fun p6 B1 t1 M j1=>⟨_,rfl,n,_,4,_,rfl,rfl,Ap.of (M _ _ (Z _ _ r)),a4,AZ,.mk fun q7 B2 t2 h2 j2=>⟨AZ,.mk fun p7 B3 t3 h3 j3=>⟨_,rfl,Bh,.mk fun p8 B4 t4 h4 j4=>?_⟩⟩⟩⟩;refine⟨Nat.zero_le _,.mk fun q9 B5 t5 h5 j5=>⟨AZ,.mk fun p9 B6 t6 h6 j6=>⟨_,rfl,Ak,.mk fun qA B7 t7 h7 j7=>⟨Bh,.mk fun pA B8 t8 h8 j8=>⟨Ab (show 5<=1000 by decide),.mk fun L2 B9 t9 h9 j9=>?_⟩⟩⟩⟩⟩;have w1:=Z.trans M;have w2:=w1.trans h2;have w3:=w2.trans h3;have w4:=w3.trans h4;have w5:=w4.trans h5;have w6:=w5.trans h6;have w7:=w6.trans h7;have w8:=w7.trans h8;have x9:=(((((((M.trans h2).trans h3).trans h4).trans h5).trans h6).trans h7).trans h8).trans h9;refine⟨L1,L2,_,_,rfl,rfl,x9 _ _ kA,j9,Ab (show 5+5<=1000 by decide),.mk fun L C1 nL m G=>?_⟩;have c9:=h9.trans m;have c8:=h8.trans c9;have c7:=h7.trans c8;have c6:=h6.trans c7;have c5:=h5.trans c6;have c4:=h4.trans c5;have c3:=h3.trans c4;have c2:=h2.trans c3;have c1:=M.trans c2;have cA:=gA.trans c1;have d9:=g9.trans cA;have d8:=g8.trans d9;have d7:=g7.trans d8;have d6:=g6.trans d7;have d5:=g5.trans d6;have d4:=g4.trans d5;have C:=g3.trans d4;have d2:=g2.trans C;have d1:=g1.trans d2;have S:=Q.trans d1;refine⟨_,rfl,_,rfl,c,1,rfl,by decide,fun r9 _ _=>⟨_,_,rfl,rfl,BC,?_⟩⟩;have mb:=EG r9 (n:=10) (by decide);obtain⟨d,iW,iX⟩:=GK (xs:=[V.ref p1,.ref p2,.ref p3,.ref p4,.ref p5]++[.ref p6,.ref p7,.ref p8,.ref p9,.ref pA]) mb.1 (by exact mb.2);refine⟨L,_,_,_,rfl,rfl,Ap.of G,iW,q d C1 S ?_⟩;have b:LD H C1 A=some (.tup xs):=BU (AG.refl H) U (d1 _ _ R);have ok:=fun{w:Str}(h:w≠"lacks")=>Iy (w:=w) Y ne (.inl h);have t0:BZ xs [.int 0]=false:=by
  unfold BZ;rw[decide_eq_false (by show¬xs.length<1;have:=List.length_pos_iff.mpr ne;lia),Bool.and_false]
 have I:d=.ref p1∨d=.ref p2∨d=.ref p3∨d=.ref p4∨d=.ref p5∨d=.ref p6∨d=.ref p7∨d=.ref p8∨d=.ref p9∨d=.ref pA:=by simpa using iX
 rcases I with rfl|rfl|rfl|rfl|rfl|rfl|rfl|rfl|rfl|rfl
 ·exact iE 0 (BU v1 n2 (C _ _ k2)) (by decide) rfl rfl b st a (ok (by decide+kernel)) (by decide+kernel) (.one (BU Q n1 (d2 _ _ k1)))
 ·exact dC 1 (BU v2 n3 (d4 _ _ k3)) (by decide) rfl rfl b st a (ok (by decide+kernel))
 ·exact iE 2 (BU v5 n6 (d7 _ _ k6)) (by decide) rfl rfl (BU v3 n4 (d5 _ _ k4)) nl (Nat.zero_le _) (by decide+kernel) (by decide+kernel) (.emp (BU v4 B (d6 _ _ k5)))
 ·exact iD 3 (BU v7 n8 (d9 _ _ k8)) (by decide) rfl rfl b st a (ok (by decide+kernel)) (OT (.inr rfl) (BU v6 n7 (d8 _ _ k7)) (e (p (by decide) (by decide))) (show 1<=12 by decide) (List.cons_ne_nil _ _) (.inr t0)) (.inr ⟨_,rfl⟩)
 ·exact iE 5 (BU v8 n9 (cA _ _ k9)) (by decide) rfl rfl b st a (ok (by decide+kernel)) (by decide+kernel) (.str (by decide+kernel))
 ·exact dC 6 (BU Z t1 (c2 _ _ j1)) (by decide) rfl rfl b st a (ok (by decide+kernel))
 ·exact dC 7 (BU w2 t3 (c4 _ _ j3)) (by decide) rfl rfl (BU w1 t2 (c3 _ _ j2)) (k (p (by decide) (by decide)) b4) (show 2<=100 by decide) (Iy (Kx (k (p (by decide) (by decide)) b4) (show 2<=12 by decide)) (List.cons_ne_nil _ _) (.inr rfl))
 ·exact iD 8 (BU w3 t4 (c5 _ _ j4)) (by decide) rfl rfl b st a (ok (by decide+kernel)) (.kind (.str _)) (.inl rfl)
 ·exact dC 6 (BU w5 t6 (c7 _ _ j6)) (by decide) rfl rfl (BU w4 t5 (c6 _ _ j5)) nl (Nat.zero_le _) (by decide+kernel)
 ·exact iD 4 (BU w7 t8 (c9 _ _ j8)) (by decide) rfl rfl b st a (ok (by decide+kernel)) (OT (.inl rfl) (BU w6 t7 (c8 _ _ j7)) (e (p (by decide) (by decide))) (show 1<=12 by decide) (List.cons_ne_nil _ _) (.inl rfl)) (.inr ⟨_,rfl⟩)
theorem ZX(F:Fq K "_law_odd" 74 f fd)(T:Txt mg)(o:Df P w K mg base "_law_mix" ["_law_cell_here","_law_k"] 1 Ho):AV P w K mg base BP 2 f fd ["_law_cell_here","_law_names_here"] OY:=by
 refine F.oq ["_law_cell_here","_law_names_here","_law_one","_law_some"] fun H _ _ g _ hr h=>?_;obtain⟨c,n,ys,rfl,hn,G,ny,q⟩:=h;refine⟨_,(@AW _ _ _ _ _ _ rfl (@BA _ _ 2 _ _ _ _ g rfl (Or.inl rfl) (@AM _ _ _ _ _ (@AA _ _ _ _ _ (@Be _ _ _ _ _ _ (FJ K) Bf (pv 1) AF (fun _ _=>rfl)) AI rfl)) rfl (Or.inl rfl)) (@AW _ _ _ _ _ _ rfl (@BA _ _ 3 _ _ _ _ g rfl (Or.inl rfl) (@BB _ _ _ _ (@AA _ _ _ _ _ Fm (@AA _ _ _ _ _ AF (@AA _ _ _ _ _ AL (@AA _ _ _ _ _ (@BB _ _ _ _ AI) (@AA _ _ _ _ _ (@AM _ _ _ _ _ AI) (@AA _ _ _ _ _ (@BB _ _ _ _ (@AA _ _ _ _ _ AL (@AA _ _ _ _ _ (pv 2) AI rfl) rfl)) (@AA _ _ _ _ _ (@AM _ _ _ _ _ (@AA _ _ _ _ _ AL AI rfl)) (@AA _ _ _ _ _ (@AM _ _ _ _ _ (@AA _ _ _ _ _ AL (@AA _ _ _ _ _ (@AM _ _ _ _ _ AI) AI rfl) rfl)) (@AA _ _ _ _ _ (@AM _ _ _ _ _ (@AA _ _ _ _ _ AL (@AA _ _ _ _ _ (pv 2) AI rfl) rfl)) (@AA _ _ _ _ _ (@AM _ _ _ _ _ (@AA _ _ _ _ _ AL (@AA _ _ _ _ _ (pv 2) (@AA _ _ _ _ _ AF AI rfl) rfl) rfl)) AI rfl) rfl) rfl) rfl) rfl) rfl) rfl) rfl) rfl) rfl)) rfl (Or.inl rfl)) (@AW _ _ _ _ _ _ rfl (@BA _ _ 3 _ _ _ _ g rfl (Or.inl rfl) (@AN _ _ _ _ _ _ _ _ IV (pv 3) (@BB _ _ _ _ (@AA _ _ _ _ _ (@AM _ _ _ _ _ (@AA _ _ _ _ _ Fm (@AA _ _ _ _ _ (pv 2) AI rfl) rfl)) (@AA _ _ _ _ _ (@AM _ _ _ _ _ (@AA _ _ _ _ _ AL (@AA _ _ _ _ _ (pv 2) (@AA _ _ _ _ _ Fm AI rfl) rfl) rfl)) (@AA _ _ _ _ _ (@AM _ _ _ _ _ (@AA _ _ _ _ _ AL (@AA _ _ _ _ _ (@AM _ _ _ _ _ (@AA _ _ _ _ _ (RF Ln AF) AI rfl)) (@AA _ _ _ _ _ AF AI rfl) rfl) rfl)) (@AA _ _ _ _ _ (@AM _ _ _ _ _ (@AA _ _ _ _ _ AL (@AA _ _ _ _ _ (pv 2) (@AA _ _ _ _ _ (@AN _ _ _ _ _ _ _ _ VO (pv 2) (@AM _ _ _ _ _ (@AA _ _ _ _ _ AF AI rfl))) AI rfl) rfl) rfl)) AI rfl) rfl) rfl) rfl))) rfl (Or.inl rfl)) (@AB _ _ _ (@AK _ _ _ _ (@Be _ _ _ _ _ _ (FJ K) Bf (@AN _ _ _ _ _ _ _ _ IV (pv 3) (@BB _ _ _ _ (@AA _ _ _ _ _ (@AM _ _ _ _ _ (@AA _ _ _ _ _ AL (@AA _ _ _ _ _ (pv 2) (@AA _ _ _ _ _ AL AI rfl) rfl) rfl)) (@AA _ _ _ _ _ KQ (@AA _ _ _ _ _ (@AM _ _ _ _ _ (@AA _ _ _ _ _ AL (@AA _ _ _ _ _ (pv 2) AI rfl) rfl)) AI rfl) rfl) rfl))) (@AN _ _ _ _ _ _ _ _ As (Bo o hr (@AA _ _ _ _ _ (pv 0) (@AA _ _ _ _ _ AF AI rfl) rfl)) AF) (fun _ _=>rfl))))))),?_⟩;obtain⟨y0,a0,b0⟩:∃y,Jt (ys.map V.str) ((0:Nat):Int)=some (.str y)/\Fg (.str y):=⟨ys[0]'(by rw[G];decide),Bd (by rw[List.getElem?_map,p_ (by rw[G];decide)];rfl),.inl ⟨_,rfl,ny _ (List.getElem_mem _)⟩⟩;refine⟨_,rfl,n,_,0,_,rfl,rfl,Ap.of hn,a0,Ak,.mk fun po A0 m0 C f0=>?_⟩;clear hn G ny;have st:∀z∈[V.str y0],Fg z:=fun z hz=>by rw[List.mem_singleton.mp hz];exact b0
 refine⟨Nat.zero_le _,.mk fun p1 G1 n1 I k1=>⟨Nat.zero_le _,.mk fun p2 G2 n2 J k2=>⟨_,rfl,AZ,.mk fun p3 G3 n3 g3 k3=>⟨Ak,.mk fun p4 G4 n4 g4 k4=>⟨Nat.zero_le _,.mk fun q5 G5 n5 g5 k5=>⟨AZ,.mk fun p5 G6 n6 g6 k6=>?_⟩⟩⟩⟩⟩⟩;refine⟨_,rfl,AZ,.mk fun p6 G7 n7 g7 k7=>⟨_,rfl,Bh,.mk fun p7 G8 n8 g8 k8=>⟨Ab (show 10<=1000 by decide),.mk fun L1 G9 n9 g9 k9=>?_⟩⟩⟩;refine⟨_,rfl,_,rfl,AZ,.mk fun p8 B1 t1 L j1=>⟨_,rfl,Bh,.mk fun p9 B2 t2 M j2=>⟨_,rfl,Ak,.mk fun q10 B3 t3 N j3=>⟨Bh,.mk fun r B4 t4 O j4=>?_⟩⟩⟩⟩;have x4:=(((((((((((I.trans J).trans g3).trans g4).trans g5).trans g6).trans g7).trans g8).trans g9).trans L).trans M).trans N).trans O;refine⟨_,rfl,_,rfl,Ak,.mk fun Q B5 t5 D j5=>⟨po,Q,_,_,rfl,rfl,D _ _ (x4 _ _ f0),j5,Ab (show 1+1<=1000 by decide),fun q12 B6 R j6=>⟨Bh,.mk fun s B7 t7 U j7=>⟨Ab (show 4<=1000 by decide),.mk fun L2 B8 t8 Y j8=>?_⟩⟩⟩⟩;refine⟨L1,L2,_,_,rfl,rfl,Y _ _ (U _ _ (R _ _ (D _ _ (O _ _ (N _ _ (M _ _ (L _ _ k9))))))),j8,Ab (show 10+4<=1000 by decide),.mk fun L3 C1 t9 i1 j9=>?_⟩;refine⟨_,rfl,_,rfl,Bh,.mk fun t Z tA i2 jA=>fun E u=>?_⟩;obtain⟨C3,e3,i3,jB⟩:∃X,upd Z E (.dK [])=X/\AG Z X/\X E=some (.dK []):=⟨_,rfl,AG.new u,AD⟩;rw[e3];clear e3;refine⟨_,rfl,AZ,.mk fun A C4 tC i4 jC=>⟨Bh,.mk fun L4 C5 tD i5 jD=>?_⟩⟩;refine⟨L3,L4,_,_,rfl,rfl,i5 _ _ (i4 _ _ (i3 _ _ (i2 _ _ j9))),jD,Ab (show 10+4+3<=1000 by decide),.mk fun L5 l tE i6 jE=>?_⟩;refine⟨_,rfl,c,2,rfl,by decide,fun r9 _ _=>⟨_,_,rfl,rfl,BC,?_⟩⟩;have mb:=EG r9 (n:=17) (by decide);obtain⟨b,iW,iX⟩:=GK (xs:=[V.Ae,.int 5,.str "take",.ref p1,.ref p2,.ref p3,.ref p4,.ref p5,.ref p6,.ref p7]++[.ref p8,.ref p9,.ref r,.ref s]++[.ref t,.ref E,.ref A]) mb.1 (by exact mb.2);have z6:=i6;have z5:=i5.trans z6;have z4:=i4.trans z5;have z3:=i3.trans z4;have z2:=i2.trans z3;have z1:=i1.trans z2;have y8:=Y.trans z1;have y7:=U.trans y8;have y6:=R.trans y7;have y5:=D.trans y6;have y4:=O.trans y5;have y3:=N.trans y4;have y2:=M.trans y3;have y1:=L.trans y2;have x9:=g9.trans y1;have x8:=g8.trans x9;have x7:=g7.trans x8;have x6:=g6.trans x7;have x5:=g5.trans x6;have B:=g4.trans x5;have x3:=g3.trans B;have x2:=J.trans x3;have x1:=I.trans x2;have S:=C.trans x1;refine⟨L5,_,_,_,rfl,rfl,Ap.of jE,iW,q b l S ?_⟩;have T:∀{p:Addr}{xs:List V},l p=some (.tup xs)->LD H l p=some (.tup xs):=fun f=>ZQ S f;have i:=T (x1 _ _ f0);have nf:∀{v:V},Gd v->iB (LD H l) v->Mf (LD H l) v:=fun f h=>by obtain⟨p,h,m⟩:=h;exact⟨f,0,.Vo h m⟩
 have d:∀{a:Addr},Gd (.ref a):=fun{a}=>.inr ⟨a,rfl⟩;have nl:∀x∈([]:List V),Fg x:=fun _ h=>nomatch h;have nU:=Kx st (show 1<=12 by decide);have ok:=fun{w:Str}(h:w≠"lacks")=>Iy (w:=w) nU (List.cons_ne_nil _ _) (.inl h);have hv:b=.Ae∨b=.int 5∨b=.str "take"∨b=.ref p1∨b=.ref p2∨b=.ref p3∨b=.ref p4∨b=.ref p5∨b=.ref p6∨b=.ref p7∨b=.ref p8∨b=.ref p9∨b=.ref r∨b=.ref s∨b=.ref t∨b=.ref E∨b=.ref A:=by simpa using iX
 rcases hv with rfl|rfl|rfl|rfl|rfl|rfl|rfl|rfl|rfl|rfl|rfl|rfl|rfl|rfl|rfl|rfl|rfl
 ·exact nf (.inl rfl) ⟨none,.no .Ae rfl,rfl⟩
 ·exact nf (.inl rfl) ⟨none,.no (.int 5) rfl,rfl⟩
 ·exact nf (.inl rfl) ⟨none,.no (.str _) rfl,rfl⟩
 ·exact nf d ⟨none,.no (.lst (.inl (BU C n1 (x2 _ _ k1)))) rfl,rfl⟩
 ·exact nf d ⟨some [],.tup (T (x3 _ _ k2)) (Nat.zero_le _) (fun x e=>nomatch e),rfl⟩
 ·exact nf d ⟨none,.no (.lst (.inl (BU ((C.trans I).trans J) n3 (B _ _ k3)))) rfl,rfl⟩
 ·exact nf d (.tup (T (x5 _ _ k4)) (.str _) (by simp) rfl)
 ·exact⟨d,1,iC (T (x7 _ _ k6)) (by simp) rfl (T (x6 _ _ k5)) nl (Nat.zero_le _) (by decide+kernel)⟩
 ·exact nf d (.tup (T (x8 _ _ k7)) (.str _) (by simp) rfl)
 ·exact nf d (.tup (T (x9 _ _ k8)) (.str _) (by simp) rfl)
 ·exact nf d (.tup (T (y2 _ _ j1)) .Ae (by simp) rfl)
 ·exact⟨d,2,ZN (T (y3 _ _ j2)) rfl i st (show 1<=100 by decide) (ok (by decide+kernel)) (.val (by decide+kernel) (.odd (k:=1) .Ae .Ae) (by decide))⟩
 ·refine⟨d,1,.first (T (y5 _ _ j4)) (by simp) rfl (.tup (T (y4 _ _ j3)) (show 1<=100 by decide) fun x j=>?_) (by decide+kernel)⟩;rw[List.mem_singleton.mp j];exact⟨⟨_,.int _⟩,fun y e=>by cases e⟩
 ·refine⟨d,2,ZN (T (y8 _ _ j7)) rfl i st (show 1<=100 by decide) (ok (by decide+kernel)) (So (T (y7 _ _ j6)) (fun x j=>?_) (show 2<=100 by decide) (Vs (zs:=[]) nl (List.cons_ne_nil _ _)))⟩;rcases List.mem_append.mp j with j|j
  ·exact st x j
  ·rw[List.mem_singleton.mp j];exact .inr ⟨_,rfl,by decide,by decide⟩
 ·refine⟨d,2,ZN (T (z3 _ _ jA)) rfl i st (show 1<=100 by decide) (ok (by decide+kernel)) ?_⟩;have:=MZ.kind (H:=LD H l) (xs:=[V.str y0]) (.str "number");rw[show Xi (.str "number")=false by decide+kernel]at this;exact this
 ·refine nf d ⟨none,.no (.dK (.inl (BU (Ha:=Z) ?_ u (z4 _ _ jB)))) rfl,rfl⟩;exact(C.trans x4).trans ((((D.trans R).trans U).trans Y).trans (i1.trans i2))
 ·exact nf d (.tup (T (z5 _ _ jC)) (.str _) (by simp) rfl)
theorem ZY{L:FuncData}(F:Fq K "_law_due" 75 f L)(T:Txt mg):AV P w K mg base BP 2 f L ["_law_rows","_law_odd_here"] OZ:=by
 refine F.oq ["_law_rows","_law_odd_here","_law_copies","_law_at"] fun H X _ j _ hr h=>?_;obtain⟨l,o,v,d,os,rfl,M,p,hn,Y,ln,s,q⟩:=h;refine⟨_,(AE (BL 2 j AF) (AE (bM (Bj rfl T.range (Ax (Ig K T (pv 0)))) (Di 3 j) (AE (Ai (PW.pt (pw_or (AR (CS:DC _ _ (bH K false)) (pv 3) (pv 1) rfl) (pw_or1 (AR BX (pv 3) AF (AQ _))))) (AB (AK (pv 3))) AO) (AE (BL 2 j (AN BN (pv 2) (Bk EU rfl T.int Kf (Ax (BD BX (Be (r:=Pb K) Fy (ZU K (pv 0) (pv 3)) AF (fun _ _=>rfl)) AL (AQ _)))))) (AB (Ai (AR BX (pv 2) AF (AQ _)) (AB (AK (pv 3))) AO))))) (AB (AK Fm)))),?_⟩;have N:=p.len;refine⟨_,rfl,l,_,rfl,.inl (Ap.of M),v.length,rfl,?_,?_,CM (lo:=0) (n:=v.length) (fun i A g=>∃(b:Nat)(B:Option V),A=[some (.ref l),some (.ref o),some (.int (b:Int)),B]/\g=H/\b<=3/\i<=40/\CG d 0 0=CG (d.drop i) i b) ⟨0,none,rfl,rfl,by decide,by decide,rfl⟩ ?_ ?_⟩
 ·lia
 ·lia
 rotate_left
 ·rintro A g ⟨b,B,rfl,rfl,_,_,k⟩;rw[N,List.drop_length]at k;have:=q g (AG.refl g);rw[k]at this;exact this
 rintro i A g e go O ⟨b,B,rfl,rfl,C,Q,k⟩;rw[Int.zero_add];have D:i<d.length:=by rw[<-N];exact O
 obtain⟨x,R⟩:=gQ v i O;obtain⟨it,hit,Z⟩:=p.get R;have s:=s i D;rw[hit]at s;have E:CG d 0 0=some i->X.rt (.int (i:Int)) g:=fun h=>by
  have:=q g (AG.refl g);rw[h]at this;exact this
 refine⟨_,rfl,_,rfl,o,_,rfl,.inl (Ap.of Y),rfl,QO os,_,rfl,?_⟩;cases it with
 |none=>
  refine Ad (by show Lh _ _=true;rw[Ge];exact decide_eq_true (s.mp rfl)) (Ad rfl ⟨_,rfl,go.r (E (k.trans (OV hit)))⟩)
 |some y=>
  refine Aj (by show Lh _ _=false;rw[Ge];exact decide_eq_false fun z=>by have:=s.mpr z;cases this) ?_;have t:=LA (c:=b) hit;obtain⟨a,r,rfl,S,ha⟩:=Z.S';have U:Ss (some y)=if y.1=4 then 1 else 0:=Su (y:=y.2.1) (r:=y.2.2) S;refine⟨_,rfl,rfl,_,rfl,Ez (fun G=>?_) (fun G=>?_)⟩
  ·have I:i=40:=Int.ofNat_inj.mp (V.int.inj (of_decide_eq_true G));exact⟨_,rfl,go.r (E (k.trans (t.trans (if_pos (.inl (Nat.le_of_eq I.symm))))))⟩
  ·have n40:¬i=40:=fun z=>of_decide_eq_false G (by rw[z];rfl);have J:i<40:=by lia
   refine⟨_,rfl,_,rfl,_,rfl,l,_,_,_,rfl,rfl,Ap.of M,Bd R,a,_,0,_,rfl,rfl,Az.of ha,Rz,rfl,.inr ⟨_,rfl,_,_,rfl,rfl,?_⟩⟩;rw[LB S];have e1:((b:Int)+if decide (y.1=4)=true then 1 else 0)=((b+Ss (some y):Nat):Int):=by
    rw[U];by_cases h:y.1=4<;>simp[h]
   rw[e1];have c1:Ss (some y)<=1:=by rw[U];split<;>decide
   have c4:b+Ss (some y)<=4:=Nat.add_le_add C c1;generalize b+Ss (some y)=u at t c4;refine⟨_,rfl,rfl,_,rfl,Ez (fun m=>?_) (fun m=>?_)⟩
   ·have h4:u=4:=Int.ofNat_inj.mp (V.int.inj (of_decide_eq_true m));exact⟨_,rfl,go.r (E (k.trans (t.trans (if_pos (.inr (by rw[h4];decide))))))⟩
   ·have n4:¬u=4:=fun z=>of_decide_eq_false m (by rw[z];rfl);have n3:¬(40<=i∨3<u):=by lia
    rw[if_neg n3]at t;exact go.n ⟨u,_,rfl,rfl,by lia,J,k.trans t⟩
theorem WD{c fi:Nat->Addr}{Q R:Addr}{y A:FuncData}(F:Fq K "_law_said" 76 f fd)(T:Txt mg)(N:Nm mg c cB)(r:Kn K c cB fi)(MP:Mk K C Q)(mP:mg "Patch"=some (.ref C))(iY:AV P w K mg base (ER P w) 17 Q y ["self","rows"] (Xn c cl C))(iZ:Binds K y ["self","rows"] [])(cC:DW K C)(mR:Meth K C "rows" R)(ia:AV P w K mg base BP 4 R A ["self"] (OX cl C))(ib:Binds K A ["self"] []):AV P w K mg base BP 20 f fd ["_law_rows"] LG:=by
 refine F.oq ["_law_rows","_law_patch","e","_law_some"] fun H _ _ x _ hr h=>?_;obtain⟨l,rs,S,rfl,hl,U,hn,q,qe⟩:=h;have g:=r.mH 4 (by decide);have nV:Aq 18 _:=hr.mono (by decide);have nW:Aq 4 _:=hr.mono (by decide);refine⟨_,(AE (Vy rfl rfl rfl (Vw MP iY nV rfl mP iZ (Ax (pv 0))) (Vi rfl N.MY (r.EW) x (i:=2) rfl rfl (fun e=>(AE (BL 3 x (BB (AA (An (BY g:BG _ _ (Iq K (c 4))) rfl T.isinstance A_ (AA (pv 2) (Ax (Au (v:=.ref (c 2)) rfl N.Ku rfl)))) (AA (An (BY g:BG _ _ (Iq K (c 4))) rfl T.isinstance A_ (AA (pv 2) (Ax (Au (v:=.ref (c 0)) rfl N.Y_ rfl)))) (AA (An (BY g:BG _ _ (Iq K (c 4))) rfl T.isinstance A_ (AA (pv 2) (Ax (Au (v:=.ref (c 3)) rfl N.cu rfl)))) (Ax (An (BY g:BG _ _ (Iq K (c 4))) rfl T.isinstance A_ (AA (pv 2) (Ax (Au (v:=.ref (c 6)) rfl N.cv rfl)))))))))) (AE (BL 3 x (AN IV (pv 3) (BB (AA (An (BY g:BG _ _ (Iq K (c 4))) rfl T.isinstance A_ (AA (pv 2) (Ax (Au (v:=.ref (c 5)) rfl N.ZA rfl)))) (Ax (An (BY g:BG _ _ (Iq K (c 4))) rfl T.isinstance A_ (AA (pv 2) (Ax (Au (v:=.ref (c 1)) rfl N.Y' rfl))))))))) (AE (Ai (PW.pt (pw_or (CK (BM (An (BY g:BG _ _ (Iq K (c 4))) rfl T.isinstance A_ (AA (pv 2) (Ax (Au (v:=.ref (c 4)) rfl N.Ir rfl)))))) (pw_or (CK (BM (Hy (BY g:BG _ _ (Iq K (c 4))) T (pv 2) T.ValueError Ik))) (pw_or1 (AR (CS:DC _ _ (bH K false)) DY (pv 3) rfl))))) (AB (AK (AM (AA AL (Ax AF))))) AO) (AB (AK (AM (AA (ZU K (BB (AA AL (Ax AL))) (Bk EU rfl T.int Kf (Ax (Bi (Hy Af T (show PE _ _ (OK K _ _)from Ip (pv 2) (by rfl)) T.int Kf) (Bc (Lj (Hy Af T (show PE _ _ (OK K _ _)from Ip (pv 2) (by rfl)) T.bool Rl))))))) (Ax (show PE _ _ (OK K _ _)from Ip (pv 2) (by rfl)))))))))))
  Yz) x (j:=1) rfl rfl)
  (AB (AK (AM (AA AL (Ax (RM (pv 1) cC mR ia nW ib .nil Cv))))))),?_⟩
 refine⟨_,rfl,fun o n ho nX ne=>?_⟩;have sm:AG H (upd (upd H n (.own o)) o (.ins C n [])):=fun b u e=>by
  rw[AH (AY e ho),AH (AY e nX)];exact e
 refine⟨o,n,l,rs,S,rfl,AD,sm _ _ hl,U.up sm,hn,fun e D ds V fs B ha lk nr fD dd=>⟨rfl,?_⟩,fun i e d V X hf=>⟨.inl rfl,.inr ⟨c 4,rfl,r.ex 4 (by decide),.hit (r.sub 4 (by decide)) fun k he=>?_⟩⟩⟩
 ·have X:AG H V:=fun b u eb=>B b u (AY eb ho) (sm _ _ eb);exact⟨_,rfl,o,n,fs,rfl,ha,nr,o,n,D,fs,ds,S,rfl,ha,lk,fD,dd,by rw[dd.len,<-U.len];exact hn,fun L bs H2 s2 nL fL lb ob=>⟨AZ,.mk fun t H3 _ s3 f3=>q e t L bs H3 ((X.trans s2).trans s3) f3 (s3 _ _ fL) lb fun i b hb=>let⟨it,e1,e2⟩:=ob i b hb;⟨it,e1,(e2.up EM).up s3⟩⟩⟩
 ·have X:=sm.trans X;obtain⟨a,rfl,Y⟩:∃n,d=some n/\V n=some (OJ n [("at",.int (i:Int))]):=by
   rcases hf with h|⟨_,n,rfl,h⟩
   ·exact absurd h.1 (by decide)
   ·exact⟨n,rfl,h⟩
  have t1:=AG.new (o:=Kt k (c 4) (some a)) he;have p:upd V k (Kt k (c 4) (some a)) k=some (Kt k (c 4) (some a)):=AD;have hx:=t1 _ _ Y;have S2:=X.trans t1;generalize upd V k (Kt k (c 4) (some a))=H2 at p hx S2⊢;have E:∀H',AG H2 H'->(some a=none∨∃G fs,some a=some G/\H' G=some (OJ G fs)):=fun H' s=>.inr ⟨a,_,rfl,s _ _ hx⟩;have s0:=AG.refl H2;have I:∀{j:Nat},j<7->PySem.W.kitOne K (.ref (c 4)) (.ref (c j))=some (j==4):=fun{j} hj=>r.one 4 (by decide) j hj;refine⟨_,rfl,k,some a,_,_,_,rfl,p,E _ s0,fun _ z=>z,I (j:=2) (by decide),_,rfl,k,some a,_,_,_,rfl,p,E _ s0,fun _ z=>z,I (j:=0) (by decide),_,rfl,k,some a,_,_,_,rfl,p,E _ s0,fun _ z=>z,I (j:=3) (by decide),_,rfl,k,some a,_,_,_,rfl,p,E _ s0,fun _ z=>z,I (j:=6) (by decide),Ab (show 4<=1000 by decide),.mk fun l1 H3 _ Z k1=>?_⟩;refine⟨_,rfl,_,rfl,k,some a,_,_,_,rfl,Z _ _ p,E _ Z,fun _ z=>z,I (j:=5) (by decide),_,rfl,k,some a,_,_,_,rfl,Z _ _ p,E _ Z,fun _ z=>z,I (j:=1) (by decide),AZ,.mk fun l2 H4 _ t3 k2=>?_⟩;refine⟨l1,l2,_,_,rfl,rfl,t3 _ _ k1,k2,Ab (show 4+2<=1000 by decide),.mk fun l3 H5 _ t4 k3=>?_⟩;have m:=(Z.trans t3).trans t4;refine⟨_,rfl,k,some a,_,_,_,rfl,m _ _ p,E _ m,fun _ z=>z,I (j:=4) (by decide),_,rfl,Aj rfl ⟨_,rfl,k,some a,_,_,_,rfl,m _ _ p,E _ m,fun _ z=>z,r.ve 4 (by decide),_,rfl,Aj rfl ?_⟩⟩;have S5:=S2.trans m;have J:=m _ _ p;have M:=m _ _ hx;refine⟨_,rfl,l3,_,rfl,.inl (Ap.of k3),rfl,rfl,_,rfl,Aj (by decide) ?_⟩;refine⟨AZ,.mk fun l4 H6 _ O k4=>?_⟩;refine⟨_,rfl,k,c 4,a,_,i,rfl,O _ _ J,O _ _ M,rfl,r.gk 2 (by decide),_,"int","int",rfl,rfl,.int _,_,rfl,Ad rfl ?_⟩;refine⟨_,rfl,k,c 4,a,_,i,rfl,O _ _ J,O _ _ M,rfl,r.gk 2 (by decide),_,"bool","int",rfl,rfl,.int _,_,rfl,?_⟩;refine .inr ⟨_,rfl,l4,_,1,_,rfl,rfl,Ap.of k4,rfl,?_⟩;exact⟨_,rfl,k,c 4,a,_,i,rfl,O _ _ J,O _ _ M,rfl,r.gk 2 (by decide),AZ,.mk fun t H7 _ t6 k6=>qe i e t H7 ((S5.trans O).trans t6) k6⟩
theorem ZZ(F:Fq K "law" 77 f fd)(T:Txt mg)(p:Df P w K mg base "_law_cell" ["_law_script","_law_k"] 1 (Rp K))(o:Df P w K mg base "_law_mix" ["_law_cell_here","_law_k"] 1 Ho)(M:Df P w K mg base "_law_names" ["_law_cell_here"] 2 Kk)(X:Df P w K mg base "_law_good" ["_law_cell_here","_law_names_here"] 2 LF)(ic:Df P w K mg base "_law_odd" ["_law_cell_here","_law_names_here"] 2 OY)(ie:Df P w K mg base "_law_due" ["_law_rows","_law_odd_here"] 2 OZ)(B:Df P w K mg base "_law_said" ["_law_rows"] 20 LG):AV P w K mg base BP 22 f fd ["_law_script"] (Ki K):=by
 refine F.oq ["_law_script","_law_names_here","_law_cell_here","_law_many","_law_rows","_law_k","_law_row","_law_odd_here","_law_at","_law_due_here","_law_handed","_law_word","_law_found"] fun H _ _ g y s h=>?_;obtain⟨a,ns,rfl,hS,hlen,q⟩:=h;refine⟨_,(@AW _ _ _ _ _ _ rfl (@BA _ _ 1 _ _ _ _ g rfl (Or.inl rfl) (Bo M s (@AA _ _ _ _ _ (Bo p s (@AA _ _ _ _ _ (pv 0) (@AA _ _ _ _ _ AF AI rfl) rfl)) AI rfl)) rfl (Or.inl rfl)) (@AW _ _ _ _ _ _ rfl (@BA _ _ 2 _ _ _ _ g rfl (Or.inl rfl) (Bo p s (@AA _ _ _ _ _ (pv 0) (@AA _ _ _ _ _ AF AI rfl) rfl)) rfl (Or.inl rfl)) (@AW _ _ _ _ _ _ rfl (@BA _ _ 3 _ _ _ _ g rfl (Or.inl rfl) (@Be _ _ _ _ _ _ (FJ K) Bf (@BB _ _ _ _ (@AA _ _ _ _ _ (@AN _ _ _ _ _ _ _ _ As (Bo o s (@AA _ _ _ _ _ (pv 2) (@AA _ _ _ _ _ AF AI rfl) rfl)) AF) (@AA _ _ _ _ _ (@AN _ _ _ _ _ _ _ _ BN AF (@AN _ _ _ _ _ _ _ _ As (Bo o s (@AA _ _ _ _ _ (pv 2) (@AA _ _ _ _ _ AF AI rfl) rfl)) AF)) AI rfl) rfl)) (Bk EU rfl T.int Kf (@AA _ _ _ _ _ (BD BX (@AN _ _ _ _ _ _ _ _ As (Bo o s (@AA _ _ _ _ _ (pv 2) (@AA _ _ _ _ _ AF AI rfl) rfl)) AF) AF (AQ _)) AI rfl)) (fun _ _=>rfl)) rfl (Or.inl rfl)) (@AW _ _ _ _ _ _ rfl (@BA _ _ 4 _ _ _ _ g rfl (Or.inl rfl) (@BB _ _ _ _ AI) rfl (Or.inl rfl)) (@AW _ _ _ _ _ _ rfl (bM (Bj rfl T.range (@AA _ _ _ _ _ (pv 3) AI rfl)) (Di 5 g) (@AW _ _ _ _ _ _ rfl (@BA _ _ 6 _ _ _ _ g rfl (Or.inl rfl) (Bo X s (@AA _ _ _ _ _ (Bo p s (@AA _ _ _ _ _ (pv 0) (@AA _ _ _ _ _ (@AN _ _ _ _ _ _ _ _ BN AF (pv 5)) AI rfl) rfl)) (@AA _ _ _ _ _ (pv 1) AI rfl) rfl)) rfl (Or.inl rfl)) (@AW _ _ _ _ _ _ rfl (@Ai _ _ _ _ _ _ _ _ (PW.pt (pw_and (AR BX (@Be _ _ _ _ _ _ (Pb K) Fy (pv 6) AF (fun _ _=>rfl)) AL (AQ _)) (pw_and (AR HY (@AN _ _ _ _ _ _ _ _ As (Bo o s (@AA _ _ _ _ _ (pv 2) (@AA _ _ _ _ _ AF AI rfl) rfl)) AF) AF (AQ _)) (pw_and1 (AR HY (@AN _ _ _ _ _ _ _ _ As (An D_ rfl T.len PySem.boot_len (@AA _ _ _ _ _ (pv 4) AI rfl)) AF) AF (AQ _)))))) (@AB _ _ _ (@BA _ _ 6 _ _ _ _ g rfl (Or.inl rfl) (@AM _ _ _ _ _ (@AA _ _ _ _ _ AL (@AA _ _ _ _ _ (@AM _ _ _ _ _ (@AA _ _ _ _ _ (@AN _ _ _ _ _ _ _ _ As (pv 5) AF) AI rfl)) AI rfl) rfl)) rfl (Or.inl rfl))) AO) (@AB _ _ _ (Cj (KL PySem.F.plainAttrs_list PySem.F.slot_list_append PySem.F.type_list_append DQ (pv 4) (@AA _ _ _ _ _ (pv 6) AI rfl))))))) (@AW _ _ _ _ _ _ rfl (@BA _ _ 7 _ _ _ _ g rfl (Or.inl rfl) (@BB _ _ _ _ AI) rfl (Or.inl rfl)) (@AW _ _ _ _ _ _ rfl (bM (Bj rfl T.range (@AA _ _ _ _ _ (@AN _ _ _ _ _ _ _ _ As (Bo o s (@AA _ _ _ _ _ (pv 2) (@AA _ _ _ _ _ AF AI rfl) rfl)) AF) AI rfl)) (Di 5 g) (@AB _ _ _ (@Ai _ _ _ _ _ _ _ _ (AR HY (pv 3) AF (AQ _)) (@AW _ _ _ _ _ _ rfl (@BA _ _ 8 _ _ _ _ g rfl (Or.inl rfl) (@AN _ _ _ _ _ _ _ _ As (Bo o s (@AA _ _ _ _ _ (pv 2) (@AA _ _ _ _ _ (@AN _ _ _ _ _ _ _ _ BN AF (pv 5)) AI rfl) rfl)) (pv 3)) rfl (Or.inl rfl)) (@AW _ _ _ _ _ _ rfl (Lk (Bo ic s (@AA _ _ _ _ _ (Bo p s (@AA _ _ _ _ _ (pv 0) (@AA _ _ _ _ _ (@AN _ _ _ _ _ _ _ _ BN AF (pv 5)) AI rfl) rfl)) (@AA _ _ _ _ _ (pv 1) AI rfl) rfl)) (RA (pv 4) (pv 8) set_list)) (@AB _ _ _ (Cj (KL PySem.F.plainAttrs_list PySem.F.slot_list_append PySem.F.type_list_append DQ (pv 7) (@AA _ _ _ _ _ (pv 8) AI rfl)))))) AO))) (@AW _ _ _ _ _ _ rfl (@BA _ _ 9 _ _ _ _ g rfl (Or.inl rfl) (Bo ie s (@AA _ _ _ _ _ (pv 4) (@AA _ _ _ _ _ (pv 7) AI rfl) rfl)) rfl (Or.inl rfl)) (@AW _ _ _ _ _ _ rfl (@BA _ _ 10 _ _ _ _ g rfl (Or.inl rfl) (Bk EA rfl T.list EZ (@AA _ _ _ _ _ (pv 4) AI rfl)) rfl (Or.inl rfl)) (@AW _ _ _ _ _ _ rfl (Lk (Bo B s (@AA _ _ _ _ _ (pv 10) AI rfl)) (Q_ rfl (Dv (Di 11 g) (Dv (Di 12 g) Ng)))) (@AW _ _ _ _ _ _ rfl (@Ai _ _ _ _ _ _ _ _ (AR (Yo (Aq.units s)) (pv 10) (pv 4) (AQ _)) (@AB _ _ _ (@AK _ _ _ _ DY)) AO) (@AW _ _ _ _ _ _ rfl (@Ai _ _ _ _ _ _ _ _ (AR YM (pv 9) Fm (AQ _)) (@AB _ _ _ (@AK _ _ _ _ (Bi (BD BX (pv 11) AL (AQ _)) (Bc (BD (S_ (Aq.units s)) (pv 12) (pv 4) (AQ _)))))) AO) (@AW _ _ _ _ _ _ rfl (@Ai _ _ _ _ _ _ _ _ (PW.pt (pw_or (AR RI (pv 11) AL (AQ _)) (pw_or1 (AR RI (pv 12) (pv 9) (AQ _))))) (@AB _ _ _ (@AK _ _ _ _ DY)) AO) (@AB _ _ _ (@AK _ _ _ _ (BD (S_ (Aq.units s)) (Bo B s (@AA _ _ _ _ _ (CQ (r:=YW K) Nq (pv 4) Dy (Cn (pv 9))) AI rfl)) (@AM _ _ _ _ _ (@AA _ _ _ _ _ AL (@AA _ _ _ _ _ (CQ (r:=YW K) Nq (pv 4) Dy (Cn (pv 9))) AI rfl) rfl)) (AQ _))))))))))))))))),?_⟩;refine⟨_,rfl,a,ns,0,rfl,hS,fun c0 _=>⟨c0,rfl,fun n ys H1 s1 Y hn ly nY ny=>?_⟩⟩;clear nY Y;refine⟨_,rfl,a,ns,1,rfl,s1.seq hS,fun c1 _=>?_⟩;refine⟨_,rfl,c1,0,rfl,by decide,fun r0 _ _=>⟨_,_,rfl,rfl,BC,_,rfl,c1,0,rfl,by decide,fun r1 _ _=>⟨_,_,rfl,rfl,BC,_,_,rfl,rfl,AZ,.mk fun LM H2 _ s2 f2=>?_⟩⟩⟩;refine⟨_,rfl,c1,1,rfl,by decide,fun r2 _ _=>⟨_,_,rfl,rfl,BC,rfl,.inr ⟨_,rfl,?_⟩⟩⟩;obtain⟨m,N,hm⟩:∃m:Nat,Jt [V.int (r0 % 12),.int (38+r1 % 6)] (if decide (V.int (r2 % 3)=V.int 0)=true then 1 else 0)=some (.int (m:Int))/\m<=43:=by
  have h0:=EG r0 (n:=12) (by decide);have h1:=EG r1 (n:=6) (by decide);split
  ·exact⟨(38+r1 % 6).toNat,by rw[Int.toNat_of_nonneg (by lia)];rfl,by lia⟩
  ·exact⟨(r0 % 12).toNat,by rw[Int.toNat_of_nonneg h0.1];rfl,by lia⟩
 refine⟨LM,_,_,_,rfl,rfl,Ap.of f2,N,?_⟩;have kF:=s2 _ _ hn;have kG:=(s1.trans s2).seq hS;clear f2 N hn s1 hS s2;refine⟨Nat.zero_le _,.mk fun L H3 nL s3 fL=>?_⟩;refine⟨_,rfl,m,rfl,by lia,by lia,CM (lo:=0) (n:=m) (fun i Z C=>∃(l:List V)(d:List Cy)(o5 o6:Option V),Z=[some (.ref a),some (.ref n),some (.int c1),some (.int (m:Int)),some (.ref L),o5,o6,none,none,none,none,none,none]/\AG H2 C/\C L=some (.lst l)/\Ao (BE L C) l d/\l.length=i/\(∀it∈d,fF it)/\(∀v∈l,Gd v)/\none∉d)
  ⟨[],[],none,none,rfl,s3,fL,.nil,rfl,(fun _ h=>nomatch h),(fun _ h=>nomatch h),(fun h=>nomatch h)⟩ ?_ ?_⟩
 ·rintro i Z C e go hi ⟨l,d,o5,o6,rfl,S,fi,ri,D,I,J,Y⟩;refine⟨_,rfl,_,rfl,_,_,rfl,rfl,a,ns,2+i,(by show[V.ref a,V.int (2+(0+(i:Int)))]=_;simp),S.seq kG,fun c _=>?_⟩;refine⟨_,rfl,c,n,ys,rfl,S _ _ kF,ly,ny,fun v H4 U gr=>?_⟩;have gr:=gr.up (Sx fi);have ig:=U _ _ fi;dsimp only;refine R_ (fun σ' H'=>∃v',σ'=[some (.ref a),some (.ref n),some (.int c1),some (.int (m:Int)),some (.ref L),some (.int (0+(i:Int))),some v',none,none,none,none,none,none]/\AG C H'/\H' L=some (.lst l)/\GR (BE L H') v') ?_ (fun k=>?_)
  ·rintro σ2 H5 ⟨v',rfl,E,f5,gr⟩;obtain⟨x,rx,fx,fv⟩:=gr.it;refine⟨_,rfl,.inl ⟨rfl,_,Ap.of f5⟩,_,rfl,L,_,_,rfl,rfl,f5,BH (by lia),?_⟩;refine go.n ⟨l++[v'],d++[some x],_,_,rfl,(S.trans E).put nL,AD,?_,by simp[D],fun it h=>?_,fun z h=>?_,fun h=>?_⟩
   ·rw[EL];exact(ri.up (DI E)).snoc rx
   ·rcases List.mem_append.mp h with h|h
    ·exact I it h
    ·rw[List.mem_singleton.mp h];exact fx
   ·rcases List.mem_append.mp h with h|h
    ·exact J z h
    ·rw[List.mem_singleton.mp h];exact fv
   ·rcases List.mem_append.mp h with h|h
    ·exact Y h
    ·cases List.mem_singleton.mp h
  ·have done:=k _ H4 ⟨v,rfl,U,ig,gr⟩;obtain⟨ra,rb,j,r,rfl,_,hj,rg,_⟩:=gr;refine⟨_,rfl,ra,_,0,_,rfl,rfl,Az.of (EM _ _ rg.row),Rz,rfl,_,rfl,Ez (fun er=>?_) (fun er=>Aj rfl done)⟩;refine⟨_,rfl,c1,2,rfl,by decide,fun r5 _ _=>⟨_,_,rfl,rfl,BC,_,_,rfl,rfl,_,rfl,Ez (fun dU=>?_) (fun dU=>Aj rfl done)⟩⟩;refine⟨_,rfl,L,_,rfl,.inl (Ap.of ig),_,_,rfl,rfl,BC,_,_,rfl,rfl,_,rfl,Ez (fun nZ=>?_) (fun nZ=>done)⟩;refine⟨_,rfl,_,_,rfl,rfl,BC,Ak,.mk fun pp H5 np E f5=>⟨AZ,.mk fun pt H6 nt Q f6=>?_⟩⟩;have f7:=Q _ _ f5;have G:=Q _ _ (E _ _ ig);have mb:=EG (0+(i:Int)) (n:=20) (by decide);refine k _ H6 ⟨_,rfl,(U.trans E).trans Q,G,dC (b:=pp) 1 ?_ (by decide) rfl rfl (xs:=[.int ((0+(i:Int)) % 20)]) ?_ (fun z hz=>?_) (show 1<=100 by decide) ?_⟩
   ·rw[Bt (fun z=>by rw[z,G]at f6;cases f6)];exact f6
   ·rw[Bt (fun z=>by rw[z,G]at f7;cases f7)];exact f7
   ·rw[List.mem_singleton.mp hz];exact .inr ⟨_,rfl,mb.1,Int.le_of_lt mb.2⟩
   ·refine Iy (Kx (fun z hz=>?_) (show 1<=12 by decide)) (List.cons_ne_nil _ _) (.inl (by decide+kernel));rw[List.mem_singleton.mp hz];exact .inr ⟨_,rfl,mb.1,Int.le_of_lt mb.2⟩
 rintro Z H4 ⟨l,d,o5,o6,rfl,U,f4,r4,D,I,J,Y⟩;have lL:d.length=m:=by rw[<-r4.len];exact D
 refine⟨Nat.zero_le _,.mk fun O H5 nO E fO=>?_⟩;have nc:H2 O=none:=U.free nO;have ij:L≠O:=AY f4 nO;have r5:=r4.up (ZT (L:=L) E nO);refine⟨_,rfl,c1,3,rfl,by decide,fun r6 _ _=>⟨_,_,rfl,rfl,BC,?_⟩⟩;have m6:=EG r6 (n:=3) (by decide);refine⟨r6 % 3,rfl,by lia,by lia,CM (lo:=0) (n:=(r6 % 3).toNat) (fun i Z C=>∃(l:List V)(d:List Cy)(os:List Int)(o5 o8:Option V),Z=[some (.ref a),some (.ref n),some (.int c1),some (.int (m:Int)),some (.ref L),o5,o6,some (.ref O),o8,none,none,none,none]/\AG H2 C/\C L=some (.lst l)/\C O=some (.lst (os.map V.int))/\Ao (BE O (BE L C)) l d/\l.length=m/\(∀it∈d,fF it)/\(∀v∈l,Gd v)/\os.length<=i/\∀j:Nat,j<d.length->(d[j]?=some none↔(j:Int)∈os))
  ⟨l,d,[],_,none,rfl,U.trans E,E _ _ f4,fO,r5,D,I,J,Nat.le_refl _,fun j hj=>⟨fun h=>absurd (qF h) Y,fun h=>nomatch h⟩⟩ ?_ ?_⟩
 ·clear r5 fO E Y J I D r4 f4 U lL l d;rintro i Z C e go hi ⟨l,d,os,o5,o8,rfl,S,fi,gi,ri,D,I,J,lo,io⟩;have pU:i<3:=by lia
  refine⟨_,rfl,_,_,rfl,rfl,_,rfl,Ez (fun er=>?_) (fun er=>?_)⟩
  ·have ng:0<m:=Int.ofNat_lt.mp (of_decide_eq_true er);refine⟨_,rfl,_,rfl,_,_,rfl,rfl,c1,4+i,(by show[V.int c1,V.int (4+(0+(i:Int)))]=_;simp),by lia,fun r7 _ _=>⟨_,rfl,_,_,rfl,rfl,Int.ofNat_lt.mpr ng,?_⟩⟩;obtain⟨A,nh,iK⟩:∃k:Nat,r7 % (m:Int)=(k:Int)/\k<m:=by
    have h1:=Int.emod_nonneg r7 (b:=(m:Int)) (by lia);have h2:=Int.emod_lt_of_pos r7 (b:=(m:Int)) (by lia);exact⟨(r7 % (m:Int)).toNat,(Int.toNat_of_nonneg h1).symm,by lia⟩
   rw[nh];refine⟨_,rfl,_,rfl,_,_,rfl,rfl,a,ns,50+i,(by show[V.ref a,V.int (50+(0+(i:Int)))]=_;simp),S.seq kG,fun c _=>⟨_,rfl,c,n,ys,rfl,S _ _ kF,ly,ny,fun v H6 Q bx=>?_⟩⟩;have ni:=bx.up (V_ fi gi);have G:=Q _ _ fi;have nj:=Q _ _ gi;refine⟨_,rfl,_,rfl,L,_,_,A,rfl,rfl,G,by unfold Qv;rw[if_pos (Int.natCast_nonneg _),if_pos (by rw[D];exact Int.ofNat_lt.mpr iK),Int.toNat_natCast],?_⟩;have gO:upd H6 L (.lst (l.set A v)) O=some (.lst (os.map V.int)):=by rw[AH (Ne.symm ij)];exact nj
   refine⟨_,rfl,.inl ⟨rfl,_,Ap.of gO⟩,_,rfl,O,_,_,rfl,rfl,gO,BH (by rw[List.length_map];lia),?_⟩;have li:=ri.len;refine go.n ⟨l.set A v,d.set A none,os++[(A:Int)],_,_,rfl,((S.trans Q).put nL).put nc,by rw[AH ij];exact AD,by rw[AD];simp,?_,by rw[List.length_set];exact D,fun it h=>?_,fun z h=>?_,by rw[List.length_append];exact Nat.succ_le_succ lo,fun j hj=>?_⟩
   ·rw[OW (Ne.symm ij),EL,EL];exact(ri.up (QP Q)).set ni.it A
   ·rcases List.mem_or_eq_of_mem_set h with h|rfl
    ·exact I it h
    ·trivial
   ·rcases List.mem_or_eq_of_mem_set h with h|rfl
    ·exact J z h
    ·exact bx.1
   ·rw[List.length_set]at hj;by_cases e:j=A
    ·subst e;rw[List.getElem?_set_self hj];simp
    ·rw[List.getElem?_set_ne (Ne.symm e),io j hj,List.mem_append,List.mem_singleton];exact⟨.inl,fun h=>h.elim id fun z=>absurd (Int.ofNat_inj.mp z) e⟩
  ·exact go.n ⟨l,d,os,_,_,rfl,S,fi,gi,ri,D,I,J,Nat.le_succ_of_le lo,io⟩
 rintro Z H6 ⟨l,d,os,o5,o8,rfl,Q,f6,g6,kH,D,I,J,lo,io⟩;have r7:Ao H6 l d:=kH.up (EM.trans EM);have n43:l.length<=43:=by rw[D];exact hm
 clear kH r5 fO E Y r4 f4 U lL;refine⟨_,rfl,_,rfl,L,O,l,d,os,rfl,f6,r7,n43,g6,by lia,io,fun H7 s7=>?_⟩;refine⟨_,rfl,L,_,rfl,.inl (.inl (.inl (s7 _ _ f6))),.mk fun Ld H8 pV s8 f8=>?_⟩;have s68:=s7.trans s8;have f68:=s68 _ _ f6;have r8:=r7.up s68;refine⟨_,rfl,Ld,l,d,rfl,f8,r8,n43,fun ed t L2 bs H9 s9 ft nk lb ob=>?_,fun i ed t H9 s9 ft=>?_⟩
 ·refine⟨t,_,rfl,Az.of ft,rfl,_,_,rfl,_,_,rfl,rfl,?_⟩;have f9:=s9 _ _ f68;refine⟨_,rfl,_,rfl,Ld,L,_,_,rfl,rfl,Ap.of (s9 _ _ f8),Ap.of f9,Gd.xs J,_,rfl,Aj rfl ?_⟩;rw[ed];refine⟨_,rfl,rfl,_,rfl,Ad rfl ?_⟩;refine⟨_,rfl,rfl,_,rfl,Ad rfl ⟨_,rfl,_,rfl,.lst L2 L bs l rfl rfl (Ap.of nk) (Ap.of f9) (lb.trans r8.len.symm) (fun i u v y N=>?_) (q H9)⟩⟩;obtain⟨it,e1,t1⟩:=ob i u y;obtain⟨nq,e2,r2⟩:=r8.get N;rw[e1]at e2;cases e2;exact Oa t1 (r2.up s9) (I it (qF e1))
 ·refine⟨t,_,rfl,Az.of ft,rfl,_,_,rfl,_,_,rfl,rfl,?_⟩;have f9:=s9 _ _ f68;refine⟨_,rfl,_,rfl,Ld,L,_,_,rfl,rfl,Ap.of (s9 _ _ f8),Ap.of f9,Gd.xs J,_,rfl,Aj rfl ?_⟩;rw[ed];refine⟨_,rfl,rfl,_,rfl,Aj rfl ?_⟩;refine⟨_,rfl,rfl,_,rfl,dQ ⟨_,rfl,_,rfl,rfl,_,rfl,Aj (by simp[dP]) ?_⟩⟩;have dt:CG (d.take i) 0 0=none:=LH (by rw[Nat.zero_add];exact ed);have lt:(l.take i).length<=43:=by rw[List.length_take];exact Nat.le_trans (Nat.min_le_right _ _) n43
  have r9:=r8.up s9;refine⟨_,rfl,_,rfl,(i:Int),rfl,L,l,rfl,Ap.of f9,.mk fun S1 HA _ sA fA=>?_⟩;rw[IW]at fA;refine⟨S1,l.take i,d.take i,rfl,fA,(r9.up sA).take i,lt,fun _ t2 L3 bs HB sB nu nv lb ob=>?_,fun k h=>by rw[dt]at h;cases h⟩;have kI:=sA.trans sB;refine⟨_,rfl,_,rfl,(i:Int),rfl,L,l,rfl,Ap.of (kI _ _ f9),.mk fun S2 HC _ sC fC=>⟨AZ,.mk fun t3 HD _ sD fD=>?_⟩⟩;rw[IW]at fC;have R:=sC.trans sD;have rT:=((r9.up kI).up R).take i;refine .tup t2 t3 _ _ rfl rfl (Az.of (R _ _ nu)) (Az.of fD) rfl (fun k u v y N=>?_) (q HD);rcases k with _|_|k
  ·cases y;cases N;exact .e (.x (.self rfl))
  ·cases y;cases N;refine .lst (n:=19) (Ap.of (R _ _ nv)) (Ap.of (sD _ _ fC)) (lb.trans rT.len.symm) fun k2 u v y N=>?_;obtain⟨it,e1,t1⟩:=ob k2 u y;obtain⟨nq,e2,r2⟩:=rT.get N;rw[e1]at e2;cases e2;exact Oa (t1.up R) r2 (I it (List.mem_of_mem_take (qF e1)))
  ·cases k<;>cases y
theorem Mp(F:CT K "__init__" "Put.__init__" DJ f i)(T:Txt mg)(c:Df P w K mg base "copy_of" ["doc"] 2 Ct)(j:DW K C)(n:AS K C "path")(p:AS K C "value"):AV P w K mg base BP 3 f i ["self","path","value"] (Ga C):=by
 refine F.oq ["self","path","value"] fun H _ r _ _ s h=>?_;obtain⟨a,d,y,z,k,rfl,h,t,q⟩:=h;refine⟨_,(AE (BR (pv 0) (pv 1) rfl) (AB (BR (pv 0) (Bo c s (Ax (pv 2))) rfl))),?_⟩;refine⟨_,rfl,_,rfl,a,C,d,[],rfl,h,j,n,by decide,_,rfl,z,k,rfl,t.ins h,fun u x l v=>?_⟩;have m:=l _ _ (AD (H:=H) (a:=a) (o:=.ins C d (Cm "path" y [])));exact⟨_,rfl,a,C,d,_,rfl,m,j,p,(show 1<1000 by decide),r (q _ _ u (fun b o e g=>by rw[AH e];exact l _ _ (by rw[AH e];exact g)) AD rfl rfl (v.ins m) rfl)⟩
theorem Mq(F:CT K "told" "Put.told" DK f d)(T:Txt mg)(c:Df P w K mg base "copy_of" ["doc"] 2 Ct)(e:DW K C)(j:AS K C "path")(l:AS K C "value"):AV P w K mg base BP 3 f d ["self"] (OS C "put"):=by
 refine F.oq ["self"] fun H _ g _ _ m h=>?_;obtain⟨a,i,fs,y,z,k,rfl,h,p,t,g,q⟩:=h;refine⟨_,(AB (AK (AM (AA AL (AA (BQ (pv 0) (by rfl)) (Ax (Bo c m (Ax (BQ (pv 0) (by rfl)))))))))),?_⟩;exact⟨_,rfl,a,C,i,fs,y,rfl,h,e,j,p,_,rfl,a,C,i,fs,z,rfl,h,e,l,t,z,k,rfl,g,fun n v o r=>⟨Bh,.mk fun b u x s f=>q b n u (o.trans s) (r.up s) f⟩⟩
theorem LK(F:CT K "__init__" "Take.__init__" CZ f c)(T:Txt mg)(d:DW K C)(i:AS K C "path"):AV P w K mg base BP 1 f c ["self","path"] (GY C):=by
 refine F.oq ["self","path"] fun H _ j _ _ l h=>?_;obtain⟨a,k,y,rfl,h,q⟩:=h;refine⟨_,(AB (BR (pv 0) (pv 1) rfl)),?_⟩;exact⟨_,rfl,_,rfl,a,C,k,[],rfl,h,d,i,by decide,j (q _ _ (fun b o e g=>by rw[AH e];exact g) AD rfl rfl)⟩
theorem LL(F:CT K "told" "Take.told" Ca f c)(T:Txt mg)(d:DW K C)(e:AS K C "path"):AV P w K mg base BP 1 f c ["self"] (OQ C "take"):=by
 refine F.oq ["self"] fun H _ _ _ _ j h=>?_;obtain⟨a,g,fs,y,rfl,h,p,q⟩:=h;refine⟨_,(AB (AK (AM (AA AL (Ax (BQ (pv 0) (by rfl))))))),?_⟩;exact⟨_,rfl,a,C,g,fs,y,rfl,h,d,e,p,AZ,.mk fun b i k s f=>q b i s f⟩
theorem HQ(F:CT K "__init__" "Change.__init__" Bq f i)(T:Txt mg)(c:Df P w K mg base "copy_of" ["doc"] 2 Ct)(j:DW K C)(n:AS K C "path")(p:AS K C "value"):AV P w K mg base BP 3 f i ["self","path","value"] (Ga C):=by
 refine F.oq ["self","path","value"] fun H _ r _ _ s h=>?_;obtain⟨a,d,y,z,k,rfl,h,t,q⟩:=h;refine⟨_,(AE (BR (pv 0) (pv 1) rfl) (AB (BR (pv 0) (Bo c s (Ax (pv 2))) rfl))),?_⟩;refine⟨_,rfl,_,rfl,a,C,d,[],rfl,h,j,n,by decide,_,rfl,z,k,rfl,t.ins h,fun u x l v=>?_⟩;have m:=l _ _ (AD (H:=H) (a:=a) (o:=.ins C d (Cm "path" y [])));exact⟨_,rfl,a,C,d,_,rfl,m,j,p,(show 1<1000 by decide),r (q _ _ u (fun b o e g=>by rw[AH e];exact l _ _ (by rw[AH e];exact g)) AD rfl rfl (v.ins m) rfl)⟩
theorem HR(F:CT K "told" "Change.told" Br f d)(T:Txt mg)(c:Df P w K mg base "copy_of" ["doc"] 2 Ct)(e:DW K C)(j:AS K C "path")(l:AS K C "value"):AV P w K mg base BP 3 f d ["self"] (OS C "change"):=by
 refine F.oq ["self"] fun H _ g _ _ m h=>?_;obtain⟨a,i,fs,y,z,k,rfl,h,p,t,g,q⟩:=h;refine⟨_,(AB (AK (AM (AA AL (AA (BQ (pv 0) (by rfl)) (Ax (Bo c m (Ax (BQ (pv 0) (by rfl)))))))))),?_⟩;exact⟨_,rfl,a,C,i,fs,y,rfl,h,e,j,p,_,rfl,a,C,i,fs,z,rfl,h,e,l,t,z,k,rfl,g,fun n v o r=>⟨Bh,.mk fun b u x s f=>q b n u (o.trans s) (r.up s) f⟩⟩
theorem LN(F:CT K "__init__" "Move.__init__" Cb f c)(T:Txt mg)(d:DW K C)(j:AS K C "path")(k:AS K C "to"):AV P w K mg base BP 1 f c ["self","path","to"] (GZ C "to"):=by
 refine F.oq ["self","path","to"] fun H _ l _ _ m h=>?_;obtain⟨a,i,y,z,rfl,h,q⟩:=h;refine⟨_,(AE (BR (pv 0) (pv 1) rfl) (AB (BR (pv 0) (pv 2) rfl))),?_⟩;exact⟨_,rfl,_,rfl,a,C,i,[],rfl,h,d,j,by decide,_,rfl,_,rfl,a,C,i,_,rfl,AD,d,k,(show 1<1000 by decide),l (q _ _ (fun b o e g=>by rw[AH e,AH e];exact g) AD rfl rfl rfl)⟩
theorem LO(F:CT K "told" "Move.told" Cc f c)(T:Txt mg)(d:DW K C)(g:AS K C "path")(i:AS K C "to"):AV P w K mg base BP 1 f c ["self"] (OR C "move" "to"):=by
 refine F.oq ["self"] fun H _ _ _ _ k h=>?_;obtain⟨a,e,fs,y,z,rfl,h,p,t,q⟩:=h;refine⟨_,(AB (AK (AM (AA AL (AA (BQ (pv 0) (by rfl)) (Ax (BQ (pv 0) (by rfl)))))))),?_⟩;exact⟨_,rfl,a,C,e,fs,y,rfl,h,d,g,p,_,rfl,a,C,e,fs,z,rfl,h,d,i,t,Bh,.mk fun b j l s f=>q b j s f⟩
theorem LQ(F:CT K "__init__" "Copy.__init__" Cd f c)(T:Txt mg)(d:DW K C)(j:AS K C "path")(k:AS K C "to"):AV P w K mg base BP 1 f c ["self","path","to"] (GZ C "to"):=by
 refine F.oq ["self","path","to"] fun H _ l _ _ m h=>?_;obtain⟨a,i,y,z,rfl,h,q⟩:=h;refine⟨_,(AE (BR (pv 0) (pv 1) rfl) (AB (BR (pv 0) (pv 2) rfl))),?_⟩;exact⟨_,rfl,_,rfl,a,C,i,[],rfl,h,d,j,by decide,_,rfl,_,rfl,a,C,i,_,rfl,AD,d,k,(show 1<1000 by decide),l (q _ _ (fun b o e g=>by rw[AH e,AH e];exact g) AD rfl rfl rfl)⟩
theorem LR(F:CT K "told" "Copy.told" Ce f c)(T:Txt mg)(d:DW K C)(g:AS K C "path")(i:AS K C "to"):AV P w K mg base BP 1 f c ["self"] (OR C "copy" "to"):=by
 refine F.oq ["self"] fun H _ _ _ _ k h=>?_;obtain⟨a,e,fs,y,z,rfl,h,p,t,q⟩:=h;refine⟨_,(AB (AK (AM (AA AL (AA (BQ (pv 0) (by rfl)) (Ax (BQ (pv 0) (by rfl)))))))),?_⟩;exact⟨_,rfl,a,C,e,fs,y,rfl,h,d,g,p,_,rfl,a,C,e,fs,z,rfl,h,d,i,t,Bh,.mk fun b j l s f=>q b j s f⟩
theorem Mr(F:CT K "__init__" "Ask.__init__" DL f i)(T:Txt mg)(c:Df P w K mg base "copy_of" ["doc"] 2 Ct)(j:DW K C)(n:AS K C "path")(p:AS K C "value"):AV P w K mg base BP 3 f i ["self","path","value"] (Ga C):=by
 refine F.oq ["self","path","value"] fun H _ r _ _ s h=>?_;obtain⟨a,d,y,z,k,rfl,h,t,q⟩:=h;refine⟨_,(AE (BR (pv 0) (pv 1) rfl) (AB (BR (pv 0) (Bo c s (Ax (pv 2))) rfl))),?_⟩;refine⟨_,rfl,_,rfl,a,C,d,[],rfl,h,j,n,by decide,_,rfl,z,k,rfl,t.ins h,fun u x l v=>?_⟩;have m:=l _ _ (AD (H:=H) (a:=a) (o:=.ins C d (Cm "path" y [])));exact⟨_,rfl,a,C,d,_,rfl,m,j,p,(show 1<1000 by decide),r (q _ _ u (fun b o e g=>by rw[AH e];exact l _ _ (by rw[AH e];exact g)) AD rfl rfl (v.ins m) rfl)⟩
theorem Ms(F:CT K "told" "Ask.told" DM f d)(T:Txt mg)(c:Df P w K mg base "copy_of" ["doc"] 2 Ct)(e:DW K C)(j:AS K C "path")(l:AS K C "value"):AV P w K mg base BP 3 f d ["self"] (OS C "ask"):=by
 refine F.oq ["self"] fun H _ g _ _ m h=>?_;obtain⟨a,i,fs,y,z,k,rfl,h,p,t,g,q⟩:=h;refine⟨_,(AB (AK (AM (AA AL (AA (BQ (pv 0) (by rfl)) (Ax (Bo c m (Ax (BQ (pv 0) (by rfl)))))))))),?_⟩;exact⟨_,rfl,a,C,i,fs,y,rfl,h,e,j,p,_,rfl,a,C,i,fs,z,rfl,h,e,l,t,z,k,rfl,g,fun n v o r=>⟨Bh,.mk fun b u x s f=>q b n u (o.trans s) (r.up s) f⟩⟩
theorem Mt(F:CT K "__init__" "Has.__init__" DN f c)(T:Txt mg)(d:DW K C)(i:AS K C "path"):AV P w K mg base BP 1 f c ["self","path"] (GY C):=by
 refine F.oq ["self","path"] fun H _ j _ _ l h=>?_;obtain⟨a,k,y,rfl,h,q⟩:=h;refine⟨_,(AB (BR (pv 0) (pv 1) rfl)),?_⟩;exact⟨_,rfl,_,rfl,a,C,k,[],rfl,h,d,i,by decide,j (q _ _ (fun b o e g=>by rw[AH e];exact g) AD rfl rfl)⟩
theorem Mu(F:CT K "told" "Has.told" DO f c)(T:Txt mg)(d:DW K C)(e:AS K C "path"):AV P w K mg base BP 1 f c ["self"] (OQ C "has"):=by
 refine F.oq ["self"] fun H _ _ _ _ j h=>?_;obtain⟨a,g,fs,y,rfl,h,p,q⟩:=h;refine⟨_,(AB (AK (AM (AA AL (Ax (BQ (pv 0) (by rfl))))))),?_⟩;exact⟨_,rfl,a,C,g,fs,y,rfl,h,d,e,p,AZ,.mk fun b i k s f=>q b i s f⟩
theorem JD(F:CT K "__init__" "Lacks.__init__" CB f c)(T:Txt mg)(d:DW K C)(i:AS K C "path"):AV P w K mg base BP 1 f c ["self","path"] (GY C):=by
 refine F.oq ["self","path"] fun H _ j _ _ l h=>?_;obtain⟨a,k,y,rfl,h,q⟩:=h;refine⟨_,(AB (BR (pv 0) (pv 1) rfl)),?_⟩;exact⟨_,rfl,_,rfl,a,C,k,[],rfl,h,d,i,by decide,j (q _ _ (fun b o e g=>by rw[AH e];exact g) AD rfl rfl)⟩
theorem JE(F:CT K "told" "Lacks.told" CC f c)(T:Txt mg)(d:DW K C)(e:AS K C "path"):AV P w K mg base BP 1 f c ["self"] (OQ C "lacks"):=by
 refine F.oq ["self"] fun H _ _ _ _ j h=>?_;obtain⟨a,g,fs,y,rfl,h,p,q⟩:=h;refine⟨_,(AB (AK (AM (AA AL (Ax (BQ (pv 0) (by rfl))))))),?_⟩;exact⟨_,rfl,a,C,g,fs,y,rfl,h,d,e,p,AZ,.mk fun b i k s f=>q b i s f⟩
theorem QX(F:CT K "__init__" "Is.__init__" EN f c)(T:Txt mg)(d:DW K C)(j:AS K C "path")(k:AS K C "kind"):AV P w K mg base BP 1 f c ["self","path","kind"] (GZ C "kind"):=by
 refine F.oq ["self","path","kind"] fun H _ l _ _ m h=>?_;obtain⟨a,i,y,z,rfl,h,q⟩:=h;refine⟨_,(AE (BR (pv 0) (pv 1) rfl) (AB (BR (pv 0) (pv 2) rfl))),?_⟩;exact⟨_,rfl,_,rfl,a,C,i,[],rfl,h,d,j,by decide,_,rfl,_,rfl,a,C,i,_,rfl,AD,d,k,(show 1<1000 by decide),l (q _ _ (fun b o e g=>by rw[AH e,AH e];exact g) AD rfl rfl rfl)⟩
theorem QY(F:CT K "told" "Is.told" EO f c)(T:Txt mg)(d:DW K C)(g:AS K C "path")(i:AS K C "kind"):AV P w K mg base BP 1 f c ["self"] (OR C "is" "kind"):=by
 refine F.oq ["self"] fun H _ _ _ _ k h=>?_;obtain⟨a,e,fs,y,z,rfl,h,p,t,q⟩:=h;refine⟨_,(AB (AK (AM (AA AL (AA (BQ (pv 0) (by rfl)) (Ax (BQ (pv 0) (by rfl)))))))),?_⟩;exact⟨_,rfl,a,C,e,fs,y,rfl,h,d,g,p,_,rfl,a,C,e,fs,z,rfl,h,d,i,t,Bh,.mk fun b j l s f=>q b j s f⟩
theorem FE:BO ["self","rows"] ["self","rows"] (AJ Bn):={}
theorem JF{c:Nat->Addr}{y:FuncData}(F:CT K "__init__" "Patch.__init__" Bn f y)(T:Txt mg)(i:SR P w K mg base "deeds_of" ["rows"] 16 (Iz c cl))(S:DW K C)(U:AS K C "deeds"):AV P w K mg base (ER P w) 17 f y ["self","rows"] (Xn c cl C):=by
 obtain⟨p,r,j,k,m,n⟩:=i.ex;refine F.eu FE (fun V H Q E h=>?_) (fun X A outer s H V Q E B h=>?_)
 ·obtain⟨a,G,l,I,t,rfl,J,L,u,M,q,N⟩:=h;rfl
 ·obtain⟨a,G,l,I,t,rfl,J,L,u,M,q,N⟩:=h;have nd:=FE.nd;have hu:=Hk B;have d:Aq 16 _:=B.mm;refine⟨_,(AB (BR (pv 0) (IQ n d rfl m j k .nil Xe (Ax (pv 1))) rfl)),?_⟩;refine⟨_,rfl,l,I,t,rfl,L,u,M,fun e D Y H1 O R Z=>?_,N⟩;have v:=O _ _ J;have x:a≠D:=fun z=>by rw[z,R]at v;cases v
  refine⟨_,rfl,a,C,G,[],rfl,v,S,U,by decide,?_⟩;refine q e D Y _ _ (fun b o eb g=>by rw[AH eb];exact O _ _ g) AD rfl rfl (by rw[AH (Ne.symm x)];exact R) ?_;rw[OW x];exact Z.Ky (by rw[Bt x];exact v)
theorem JG(F:CT K "rows" "Patch.rows" CD f B)(T:Txt mg)(I:DW K C)(J:AS K C "deeds")(L:∀j,j<9->iA P w K mg base 3 (cl j) "told" (QI cl j)):AV P w K mg base BP 4 f B ["self"] (OX cl C):=by
 refine F.oq ["self"] fun H _ _ _ _ M h=>?_;obtain⟨a,N,D,fs,d,o,rfl,O,Q,k,E,S,q⟩:=h;have p:Aq 3 _:=M.mono (by decide);refine⟨_,(AB (AK (cmp [] [] (FW (BQ (pv 0) (by rfl))) fun _ _ _ _=>(Sm (pv 0) L p)))),?_⟩;refine⟨_,rfl,a,C,N,fs,_,rfl,O,I,J,Q,D,rfl,⟨_,Ap.of k⟩,?_⟩;have U:∀{i:Nat}{x:V},d[i]?=some x->d.getD i .Ae=x:=fun h=>by rw[List.getD_eq_getElem?_getD,h];rfl
 refine Sv (n:=d.length) (fun i=>d.getD i .Ae) (fun H i v=>∃it,o[i]?=some it/\Dh H v it) (fun⟨it,e,t⟩ s=>⟨it,e,t.up s⟩) (fun⟨it,e,t⟩=>t.ref) (Ab (Nat.le_trans S (by decide))) (fun i g l c=>⟨_,_,Ap.of (c _ _ k),p_ l⟩) (fun i g v H' l c y=>?_) (fun g c=>⟨_,Ap.of (c _ _ k),Nat.le_refl _⟩) (fun i g D2 ys R l c m X r=>?_) (fun Y g Z u c m lr or=>?_)
 ·obtain⟨e,y⟩:=y;exact⟨(U (y _ (Ap.of (c _ _ k)))).symm,e⟩
 ·have hx:d[i]?=some (d.getD i .Ae):=by rw[List.getD_eq_getElem?_getD,p_ l];rfl
  obtain⟨j,y,r',hit,hj,dI⟩:=E.get hx;refine⟨_,rfl,Vt hj (dI.up (EM.trans c)) fun b r2 H3 A G tl=>r _ H3 A ⟨_,hit,rfl,?_,tl.Xm (A _ _ m) X⟩⟩;rw[Bt (fun z=>by have:=A _ _ m;rw[<-z,G]at this;cases this)];exact G
 ·exact q Y Z g c u m (lr.trans E.len) or
end
end Bb
namespace Bb
open PySem L2
abbrev NZ(K:qG)(x:Str):Prop:=PySem.W.nsIn K mainGlobals x=some none
theorem nz{K:qG}{x:Str}(h:PySem.W.nsIn K mainGlobals x=some none):NZ K x:=h
variable{P:List Value->Prop}
theorem ls{n:Nat}(h:∀a r,r.length=n->P (a::r)):∀us,us.length=n+1->P us:=fun us e=>by
 cases us with
 |nil=>cases e
 |cons a r=>exact h a r (Nat.succ.inj e)
theorem lz(h:P []):∀us,us.length=0->P us:=fun us e=>by
 cases us with
 |nil=>exact h
 |cons a r=>cases e
variable{mg:Str->Option Value}
theorem gn{K:qG}{h:Heap}{x:Str}{st:Stmt}(X:K.In h)(G:h.Ns mainGlobals mg)(A:FA K x st)(ps:List Str)(b:∀(kV d g:Value) (i:Option Addr) (e ct:Value) (us:List Value),us.length=ps.length->bindArgs (PySem.W.fnOf x x (AX st) (AU st) (AJ st) .none kV d g i e ct) ⟨us,[]⟩=pure (ps.zip us):=by intro _ _ _ _ _ _;(repeat refine ls fun _=>?_);exact lz rfl):∃f c,CT K x x st f c/\Binds K c ps []/\mg x=some (.ref f):=by
 obtain⟨f,c,F,a⟩:=A;exact⟨f,c,F,F.binds b,PySem.W.mg_of X G a⟩
theorem dk{P:Program}{w:World}{K:qG}{mg:Str->Option Value}{base:Heap}{x:Str}{st:Stmt}{n:Nat}{sp:Sp}{ps:List Str}(g:∃f a,CT K x x st f a/\Binds K a ps []/\mg x=some (.ref f))(ok:∀f a,CT K x x st f a->Binds K a ps []->mg x=some (.ref f)->AV P w K mg base BP n f a ps sp):Df P w K mg base x ps n sp:=by
 obtain⟨f,a,F,b,m⟩:=g;exact .mk' F b m (ok f a F b m)
variable{l:PySem.W.OpenLaw}
theorem all_mk{w:World}{K:qG}{h:Heap}{fa f41:Addr}(X:K.In h)(G:h.Ns mainGlobals mg)(n_:mg "law"=some (.ref fa)){ik dV:Option Addr}{il:Array (Option Value)}{ip dW dX dY Za dZ:Value}{oA oB oC oD oE oF oG:Tok}{I n o q r d g t:Addr}{Q p:Addr}{TJ TL Mv Mw:Option Addr}{TM Mx:Array (Option Value)}{TN TQ TR LS TU My Mz M_ Gi M':Value}(h1:Fb K "_wall" 0)(h2:Fb K "is_whole" 5)(h3:Fb K "has_letters_alone" 6)(h4:Fb K "is_name" 7)(h5:Fb K "is_sound" 8)(h6:Fb K "is_doc" 9)(h7:Fb K "kind_of" 10)(h8:Fb K "steps_of" 11)(h9:Fb K "inner_of" 12)(h10:Fb K "are_level" 13)(h11:Fb K "are_equal" 14)(h12:Fb K "outer_copy" 15)(h13:Fb K "copy_of" 16)(h14:Fb K "is_step" 27)(h15:Fb K "is_path" 28)(h16:Fb K "holds" 29)(h17:Fb K "found_at" 30)(h18:Fb K "begins" 31)(h19:Fb K "holder_of" 33)(h20:Fb K "full_holder_of" 34)(h21:Fb K "has_room" 35)(h22:Fb K "put_at" 36)(h23:Fb K "taken_at" 37)(h24:Fb K "changed_at" 38)(h25:Fb K "copy_where" 56)(h26:Fb K "has_form" 57)(h27:Fb K "is_row_path" 58)(h28:Fb K "may_be_first" 59)(h29:Fb K "may_be_second" 60)(h30:Fb K "is_lost" 61)(h31:Fb K "refuse_no_row" 62)(h32:Fb K "deed_of" 63)(h33:Fb K "deeds_of" 67)(h34:Fb K "_law_cell" 70)(h35:Fb K "_law_mix" 71)(h36:Fb K "_law_names" 72)(h37:Fb K "_law_good" 73)(h38:Fb K "_law_odd" 74)(h39:Fb K "_law_due" 75)(h40:Fb K "_law_said" 76)(a41:PySem.W.nsIn K mainGlobals "law"=some (some (.ref f41)))(l41:K.lookup f41=some ⟨ip,ik,.func (PySem.W.fnOf "law" "law" (AX Mh) (AU Mh) (AJ Mh) .none dW dX dY dV Za dZ),il⟩)(c41:PySem.W.codeIn K Za "law"=true)(k41:PySem.W.keepIn K (.ref f41)=true)(z1:NZ K "isinstance")(z2:NZ K "int")(z3:NZ K "bool")(z4:NZ K "str")(z5:NZ K "list")(z6:NZ K "dict")(z7:NZ K "tuple")(z8:NZ K "len")(z9:NZ K "range")(z10:NZ K "max")(z11:NZ K "min")(z12:NZ K "sorted")(z13:NZ K "all")(z14:NZ K "any")(z15:NZ K "reversed")(z16:NZ K "ValueError")(z17:NZ K "sum")(e1:PySem.W.nsIn K mainGlobals "LETTERS"=some (some (.str "abcdefghijklmnopqrstuvwxyz" oA)))(e2:PySem.W.nsIn K mainGlobals "LONGEST_NAME"=some (some (.int 8 oB)))(e3:PySem.W.nsIn K mainGlobals "LONGEST_TEXT"=some (some (.int 12 oC)))(e4:PySem.W.nsIn K mainGlobals "LONGEST_PATH"=some (some (.int 12 oD)))(e5:PySem.W.nsIn K mainGlobals "GREATEST_PLACE"=some (some (.int 20 oE)))(e6:PySem.W.nsIn K mainGlobals "MOST_ROWS"=some (some (.int 40 oF)))(e7:PySem.W.nsIn K mainGlobals "MOST_COPIES"=some (some (.int 3 oG)))(Cu:PySem.W.nsIn K mainGlobals "BoughError"=some (some (.ref I)))(Gj:PySem.W.nsIn K mainGlobals "NoPart"=some (some (.ref n)))(Gk:PySem.W.nsIn K mainGlobals "NoDeed"=some (some (.ref o)))(JH:PySem.W.nsIn K mainGlobals "NoRow"=some (some (.ref q)))(JI:PySem.W.nsIn K mainGlobals "NoFit"=some (some (.ref r)))(Eg:PySem.W.nsIn K mainGlobals "NoPatch"=some (some (.ref d)))(Gm:PySem.W.nsIn K mainGlobals "NoText"=some (some (.ref g)))(JJ:PySem.W.nsIn K mainGlobals "Clash"=some (some (.ref t)))(Ob:PySem.W.findIn K (.ref q) "__init__"=some (some (.ref Q)))(Fh:K.lookup Q=some ⟨.type "function",TJ,.func (PySem.W.fnOf "__init__" "NoRow.__init__" (AX CA) (AU CA) (AJ CA) .none TN TQ TR TL LS TU),TM⟩)(JK:PySem.W.codeIn K LS "NoRow.__init__"=true)(JL:PySem.W.keepIn K (.ref Q)=true)(H_:PySem.W.findIn K (.ref d) "__init__"=some (some (.ref p)))(DU:K.lookup p=some ⟨.type "function",Mv,.func (PySem.W.fnOf "__init__" "NoPatch.__init__" (AX BF) (AU BF) (AJ BF) .none My Mz M_ Mw Gi M'),Mx⟩)(Eh:PySem.W.codeIn K Gi "NoPatch.__init__"=true)(Ei:PySem.W.keepIn K (.ref p)=true){Oc LU Od:Addr}(Oe:PySem.W.findIn K (.ref r) "__init__"=some (some (.ref Oc)))(LV:PySem.W.findIn K (.ref g) "__init__"=some (some (.ref LU)))(Of:PySem.W.findIn K (.ref t) "__init__"=some (some (.ref Od)))(kk:hV K (fun i=>[n,o,q,r,d,g,t].getD i 0) I (fun i=>[0,0,Q,Oc,p,LU,Od].getD i 0)=true){fK kJ kK kL:Addr}{Zb:Obj}{iq:Nat}{kM kN kO kP kQ kR kS kT kU kW kX kY kZ ka kb kc kd ke:Tok}{U Og Oh D JM JN k R S E JO JP H JQ JR V Oi Oj Y Ol Om u Fi Fj Uo WE WG:Addr}{Zc Zd Ze Zf WH WI WJ WK QZ Qa Qb Qc WL WM WN WO WQ WR WS WT Zg Zh Zi Zj Zk Zl Zm Zn TV TY TZ Ta da dc de df:Option Addr}{Zo Zp WU WV Qd Qe WW WX WY WZ Zq Zr Zs Zt Tb Tc dg dh:Array (Option Value)}{Zu Zv Zw Zx Td Zy Zz Z_ Z' aA Te aB Wa Wb Wc Wd Oo We Wf Wg Wh Wi Oq Wj Qf Qg Qh Qi IA Qj Qk Ql Qm Qn IB Qo Wk Wl Wm Wn Ot Wo Wq Wr Ws Wt Ou Wu Wv Ww Wx Wy Ov Wz W_ W' XA XB Ow XC aC aD aE aF Tf aG aH aI aJ aK Tg aM aN aO aP aQ Th aR aS aT aU aV Ti aW Tj Tn To Tp LW Tq Ts Tt Tu Tv LX Tw di dj dm dn Xo dq du dv dw dy Xp dz:Value}{JS fM fN:Addr}{ir iu iv iw:Option Addr}{ix iy:Array (Option Value)}{iz i_ jF jG d_ jH jI jJ jK jL eA jM:Value}(jN:PySem.W.nsIn K mainGlobals "LENGTHS"=some (some (.ref fK)))(jO:K.lookup fK=some Zb)(jP:(fK==sysModules)=false)(jQ:Zb.ExactDict)(jR:Zb.data=.dict (Iw l.prog w [("put",3,kM,kN),("take",2,kO,kP),("change",3,kQ,kR),("move",3,kS,kT),("copy",3,kU,kW),("ask",3,kX,kY),("has",2,kZ,ka),("lacks",2,kb,kc),("is",3,kd,ke)]).toArray iq)(jS:PySem.W.nsIn K mainGlobals "WORDS_WITHIN"=some (some (.ref kJ)))(dR:Kl K kJ Cr=true)(jT:PySem.W.nsIn K mainGlobals "WORDS_WITH_VALUE"=some (some (.ref kK)))(ZV:Kl K kK Cs=true)(jU:PySem.W.nsIn K mainGlobals "KINDS"=some (some (.ref kL)))(dS:Kl K kL Iv=true)(Tx:PySem.W.nsIn K mainGlobals "Put"=some (some (.ref U)))(Tz:PySem.W.findIn K (.ref U) "__init__"=some (some (.ref Og)))(NA:K.lookup Og=some ⟨Zu,Zc,.func (PySem.W.fnOf "__init__" "Put.__init__" (AX DJ) (AU DJ) (AJ DJ) .none Zv Zw Zx Zd Td Zy),Zo⟩)(NB:PySem.W.codeIn K Td "Put.__init__"=true)(NC:PySem.W.keepIn K (.ref Og)=true)(T_:PySem.W.findIn K (.ref U) "told"=some (some (.ref Oh)))(ND:K.lookup Oh=some ⟨Zz,Ze,.func (PySem.W.fnOf "told" "Put.told" (AX DK) (AU DK) (AJ DK) .none Z_ Z' aA Zf Te aB),Zp⟩)(NF:PySem.W.codeIn K Te "Put.told"=true)(NG:PySem.W.keepIn K (.ref Oh)=true)(T':Sn K U Og Oh=true)(NH:PySem.W.nsIn K mainGlobals "Take"=some (some (.ref D)))(Ox:PySem.W.findIn K (.ref D) "__init__"=some (some (.ref JM)))(JT:K.lookup JM=some ⟨Wa,WH,.func (PySem.W.fnOf "__init__" "Take.__init__" (AX CZ) (AU CZ) (AJ CZ) .none Wb Wc Wd WI Oo We),WU⟩)(JU:PySem.W.codeIn K Oo "Take.__init__"=true)(JV:PySem.W.keepIn K (.ref JM)=true)(Oy:PySem.W.findIn K (.ref D) "told"=some (some (.ref JN)))(JW:K.lookup JN=some ⟨Wf,WJ,.func (PySem.W.fnOf "told" "Take.told" (AX Ca) (AU Ca) (AJ Ca) .none Wg Wh Wi WK Oq Wj),WV⟩)(JX:PySem.W.codeIn K Oq "Take.told"=true)(JY:PySem.W.keepIn K (.ref JN)=true)(NI:Sn K D JM JN=true)(Gn:PySem.W.nsIn K mainGlobals "Change"=some (some (.ref k)))(IC:PySem.W.findIn K (.ref k) "__init__"=some (some (.ref R)))(Ej:K.lookup R=some ⟨Qf,QZ,.func (PySem.W.fnOf "__init__" "Change.__init__" (AX Bq) (AU Bq) (AJ Bq) .none Qg Qh Qi Qa IA Qj),Qd⟩)(Ek:PySem.W.codeIn K IA "Change.__init__"=true)(El:PySem.W.keepIn K (.ref R)=true)(ID:PySem.W.findIn K (.ref k) "told"=some (some (.ref S)))(Em:K.lookup S=some ⟨Qk,Qb,.func (PySem.W.fnOf "told" "Change.told" (AX Br) (AU Br) (AJ Br) .none Ql Qm Qn Qc IB Qo),Qe⟩)(En:PySem.W.codeIn K IB "Change.told"=true)(Eo:PySem.W.keepIn K (.ref S)=true)(Gp:Sn K k R S=true)(NJ:PySem.W.nsIn K mainGlobals "Move"=some (some (.ref E)))(Oz:PySem.W.findIn K (.ref E) "__init__"=some (some (.ref JO)))(JZ:K.lookup JO=some ⟨Wk,WL,.func (PySem.W.fnOf "__init__" "Move.__init__" (AX Cb) (AU Cb) (AJ Cb) .none Wl Wm Wn WM Ot Wo),WW⟩)(Ja:PySem.W.codeIn K Ot "Move.__init__"=true)(Jb:PySem.W.keepIn K (.ref JO)=true)(O_:PySem.W.findIn K (.ref E) "told"=some (some (.ref JP)))(Jc:K.lookup JP=some ⟨Wq,WN,.func (PySem.W.fnOf "told" "Move.told" (AX Cc) (AU Cc) (AJ Cc) .none Wr Ws Wt WO Ou Wu),WX⟩)(Jd:PySem.W.codeIn K Ou "Move.told"=true)(Je:PySem.W.keepIn K (.ref JP)=true)(NK:Sn K E JO JP=true)(NL:PySem.W.nsIn K mainGlobals "Copy"=some (some (.ref H)))(O':PySem.W.findIn K (.ref H) "__init__"=some (some (.ref JQ)))(Jf:K.lookup JQ=some ⟨Wv,WQ,.func (PySem.W.fnOf "__init__" "Copy.__init__" (AX Cd) (AU Cd) (AJ Cd) .none Ww Wx Wy WR Ov Wz),WY⟩)(Jg:PySem.W.codeIn K Ov "Copy.__init__"=true)(Jh:PySem.W.keepIn K (.ref JQ)=true)(PB:PySem.W.findIn K (.ref H) "told"=some (some (.ref JR)))(Ji:K.lookup JR=some ⟨W_,WS,.func (PySem.W.fnOf "told" "Copy.told" (AX Ce) (AU Ce) (AJ Ce) .none W' XA XB WT Ow XC),WZ⟩)(Jj:PySem.W.codeIn K Ow "Copy.told"=true)(Jk:PySem.W.keepIn K (.ref JR)=true)(NM:Sn K H JQ JR=true)(UA:PySem.W.nsIn K mainGlobals "Ask"=some (some (.ref V)))(UB:PySem.W.findIn K (.ref V) "__init__"=some (some (.ref Oi)))(NN:K.lookup Oi=some ⟨aC,Zg,.func (PySem.W.fnOf "__init__" "Ask.__init__" (AX DL) (AU DL) (AJ DL) .none aD aE aF Zh Tf aG),Zq⟩)(NO:PySem.W.codeIn K Tf "Ask.__init__"=true)(NP:PySem.W.keepIn K (.ref Oi)=true)(UC:PySem.W.findIn K (.ref V) "told"=some (some (.ref Oj)))(NQ:K.lookup Oj=some ⟨aH,Zi,.func (PySem.W.fnOf "told" "Ask.told" (AX DM) (AU DM) (AJ DM) .none aI aJ aK Zj Tg aM),Zr⟩)(NR:PySem.W.codeIn K Tg "Ask.told"=true)(NS:PySem.W.keepIn K (.ref Oj)=true)(UD:Sn K V Oi Oj=true)(UE:PySem.W.nsIn K mainGlobals "Has"=some (some (.ref Y)))(UG:PySem.W.findIn K (.ref Y) "__init__"=some (some (.ref Ol)))(NT:K.lookup Ol=some ⟨aN,Zk,.func (PySem.W.fnOf "__init__" "Has.__init__" (AX DN) (AU DN) (AJ DN) .none aO aP aQ Zl Th aR),Zs⟩)(NU:PySem.W.codeIn K Th "Has.__init__"=true)(NV:PySem.W.keepIn K (.ref Ol)=true)(UH:PySem.W.findIn K (.ref Y) "told"=some (some (.ref Om)))(NW:K.lookup Om=some ⟨aS,Zm,.func (PySem.W.fnOf "told" "Has.told" (AX DO) (AU DO) (AJ DO) .none aT aU aV Zn Ti aW),Zt⟩)(NX:PySem.W.codeIn K Ti "Has.told"=true)(NY:PySem.W.keepIn K (.ref Om)=true)(UI:Sn K Y Ol Om=true)(Jl:PySem.W.nsIn K mainGlobals "Lacks"=some (some (.ref u)))(LY:PySem.W.findIn K (.ref u) "__init__"=some (some (.ref Fi)))(Gq:K.lookup Fi=some ⟨Tj,TV,.func (PySem.W.fnOf "__init__" "Lacks.__init__" (AX CB) (AU CB) (AJ CB) .none Tn To Tp TY LW Tq),Tb⟩)(Gr:PySem.W.codeIn K LW "Lacks.__init__"=true)(Gs:PySem.W.keepIn K (.ref Fi)=true)(LZ:PySem.W.findIn K (.ref u) "told"=some (some (.ref Fj)))(Gu:K.lookup Fj=some ⟨Ts,TZ,.func (PySem.W.fnOf "told" "Lacks.told" (AX CC) (AU CC) (AJ CC) .none Tt Tu Tv Ta LX Tw),Tc⟩)(Gv:PySem.W.codeIn K LX "Lacks.told"=true)(Gw:PySem.W.keepIn K (.ref Fj)=true)(Jm:Sn K u Fi Fj=true)(aX:PySem.W.nsIn K mainGlobals "Is"=some (some (.ref Uo)))(Xq:PySem.W.findIn K (.ref Uo) "__init__"=some (some (.ref WE)))(UJ:K.lookup WE=some ⟨di,da,.func (PySem.W.fnOf "__init__" "Is.__init__" (AX EN) (AU EN) (AJ EN) .none dj dm dn dc Xo dq),dg⟩)(UK:PySem.W.codeIn K Xo "Is.__init__"=true)(UL:PySem.W.keepIn K (.ref WE)=true)(Xr:PySem.W.findIn K (.ref Uo) "told"=some (some (.ref WG)))(UM:K.lookup WG=some ⟨du,de,.func (PySem.W.fnOf "told" "Is.told" (AX EO) (AU EO) (AJ EO) .none dv dw dy df Xp dz),dh⟩)(UN:PySem.W.codeIn K Xp "Is.told"=true)(UO:PySem.W.keepIn K (.ref WG)=true)(aY:Sn K Uo WE WG=true)(zE:NZ K "enumerate")(Jn:PySem.W.nsIn K mainGlobals "Patch"=some (some (.ref JS)))(eB:PySem.W.findIn K (.ref JS) "__init__"=some (some (.ref fM)))(aZ:K.lookup fM=some ⟨iz,ir,.func (PySem.W.fnOf "__init__" "Patch.__init__" (AX Bn) (AU Bn) (AJ Bn) .none i_ jF jG iu d_ jH),ix⟩)(aa:PySem.W.codeIn K d_ "Patch.__init__"=true)(ae:PySem.W.keepIn K (.ref fM)=true)(eC:PySem.W.findIn K (.ref JS) "rows"=some (some (.ref fN)))(af:K.lookup fN=some ⟨jI,iv,.func (PySem.W.fnOf "rows" "Patch.rows" (AX CD) (AU CD) (AJ CD) .none jJ jK jL iw eA jM),iy⟩)(ag:PySem.W.codeIn K eA "Patch.rows"=true)(ah:PySem.W.keepIn K (.ref fN)=true)(Jo:iM K JS fM fN=true)
  :∃fd:FuncData,(∀(s:Shared)(v:Value),BindsTo s fd ⟨[v],[]⟩ [("_law_script",v)])/\∀base:Heap,K.In base->base.Ns mainGlobals mg->AV l.prog w K mg base BP 22 fa fd ["_law_script"] (Ki K):=by
 have e:=n_.symm.trans (PySem.W.mg_of X G a41);cases e;have gm:=fun{x:Str}{v:Value}(a:PySem.W.nsIn K mainGlobals x=some (some v))=>PySem.W.mg_of X G a;have T:Txt mg:=by constructor<;>(apply PySem.W.mg_none_of X G;assumption)
 obtain⟨f1,d1,F1,b1,m1⟩:=gn X G h1 ["k"];obtain⟨f7,d7,F7,b7,m7⟩:=gn X G h7 ["doc"];obtain⟨f10,d10,pW,b10,m10⟩:=gn X G h10 ["one","other"];obtain⟨f11,d11,pX,b11,m11⟩:=gn X G h11 ["one","other"];obtain⟨f16,d16,pY,b16,m16⟩:=gn X G h16 ["doc","step"];obtain⟨f17,d17,pZ,b17,m17⟩:=gn X G h17 ["doc","path"];obtain⟨f19,d19,pb,b19,m19⟩:=gn X G h19 ["doc","path"];obtain⟨f20,d20,pd,b20,m20⟩:=gn X G h20 ["doc","path"];obtain⟨f21,d21,pe,b21,m21⟩:=gn X G h21 ["holder","step"];obtain⟨f22,d22,ph,b22,m22⟩:=gn X G h22 ["doc","path","value"];obtain⟨f23,d23,pj,b23,m23⟩:=gn X G h23 ["doc","path"];obtain⟨f24,d24,pq,b24,m24⟩:=gn X G h24 ["doc","path","value"];obtain⟨f25,d25,pw,b25,m25⟩:=gn X G h25 ["doc","holds_good"];obtain⟨f31,d31,kf,b31,m31⟩:=gn X G h31 ["thing"];obtain⟨f32,d32,kg,b32,m32⟩:=gn X G h32 ["row"];obtain⟨f33,d33,kh,b33,m33⟩:=gn X G h33 ["rows"];have oH:=Av (st:=Mh) l41 c41 k41;have Qp:=PySem.W.mg_of X G e1;have Gx:=PySem.W.mg_of X G e2;have Gy:=PySem.W.mg_of X G e3;have Gz:=PySem.W.mg_of X G e4;have Ep:=PySem.W.mg_of X G e5;have La:=PySem.W.mg_of X G e6;have HS:=PySem.W.mg_of X G e7;have oJ:=PySem.W.mg_of X G jS;have oK:=PySem.W.mg_of X G jT;have oM:=PySem.W.mg_of X G jU;have oN:=PySem.W.mg_of X G jN;have oO:QF l.prog w K fK Ma:=QH [("put",3,kM,kN),("take",2,kO,kP),("change",3,kQ,kR),("move",3,kS,kT),("copy",3,kU,kW),("ask",3,kX,kY),("has",2,kZ,ka),("lacks",2,kb,kc),("is",3,kd,ke)] jO jP jQ jR (show List.Nodup [("put":Str),("take":Str),("change":Str),("move":Str),("copy":Str),("ask":Str),("has":Str),("lacks":Str),("is":Str)]by decide+kernel);have Xs:=Av (st:=DJ) NA NB NC;have eD:=Xs.binds (ps:=["self","path","value"]) fun _ _ _ _ _ _=>by(repeat refine ls fun _=>?_);exact lz rfl
 have Xt:=Av (st:=DK) ND NF NG;have eE:=Xt.binds (ps:=["self"]) fun _ _ _ _ _ _=>by(repeat refine ls fun _=>?_);exact lz rfl
 have J:=Dk.of T';have eF:=PySem.W.mg_of X G Tx;have UP:=Av (st:=CZ) JT JU JV;have ai:=UP.binds (ps:=["self","path"]) fun _ _ _ _ _ _=>by(repeat refine ls fun _=>?_);exact lz rfl
 have UQ:=Av (st:=Ca) JW JX JY;have aj:=UQ.binds (ps:=["self"]) fun _ _ _ _ _ _=>by(repeat refine ls fun _=>?_);exact lz rfl
 have L:=Dk.of NI;have ak:=PySem.W.mg_of X G NH;have Lb:=Av (st:=Bq) Ej Ek El;have UR:=Lb.binds (ps:=["self","path","value"]) fun _ _ _ _ _ _=>by(repeat refine ls fun _=>?_);exact lz rfl
 have Lc:=Av (st:=Br) Em En Eo;have US:=Lc.binds (ps:=["self"]) fun _ _ _ _ _ _=>by(repeat refine ls fun _=>?_);exact lz rfl
 have f:=Dk.of Gp;have UT:=PySem.W.mg_of X G Gn;have UU:=Av (st:=Cb) JZ Ja Jb;have ao:=UU.binds (ps:=["self","path","to"]) fun _ _ _ _ _ _=>by(repeat refine ls fun _=>?_);exact lz rfl
 have UW:=Av (st:=Cc) Jc Jd Je;have aq:=UW.binds (ps:=["self"]) fun _ _ _ _ _ _=>by(repeat refine ls fun _=>?_);exact lz rfl
 have y:=Dk.of NK;have ar:=PySem.W.mg_of X G NJ;have UX:=Av (st:=Cd) Jf Jg Jh;have au:=UX.binds (ps:=["self","path","to"]) fun _ _ _ _ _ _=>by(repeat refine ls fun _=>?_);exact lz rfl
 have UY:=Av (st:=Ce) Ji Jj Jk;have av:=UY.binds (ps:=["self"]) fun _ _ _ _ _ _=>by(repeat refine ls fun _=>?_);exact lz rfl
 have z:=Dk.of NM;have aw:=PySem.W.mg_of X G NL;have Xu:=Av (st:=DL) NN NO NP;have eG:=Xu.binds (ps:=["self","path","value"]) fun _ _ _ _ _ _=>by(repeat refine ls fun _=>?_);exact lz rfl
 have Xv:=Av (st:=DM) NQ NR NS;have eH:=Xv.binds (ps:=["self"]) fun _ _ _ _ _ _=>by(repeat refine ls fun _=>?_);exact lz rfl
 have O:=Dk.of UD;have eI:=PySem.W.mg_of X G UA;have Xw:=Av (st:=DN) NT NU NV;have eJ:=Xw.binds (ps:=["self","path"]) fun _ _ _ _ _ _=>by(repeat refine ls fun _=>?_);exact lz rfl
 have Xx:=Av (st:=DO) NW NX NY;have eK:=Xx.binds (ps:=["self"]) fun _ _ _ _ _ _=>by(repeat refine ls fun _=>?_);exact lz rfl
 have Z:=Dk.of UI;have eM:=PySem.W.mg_of X G UE;have PD:=Av (st:=CB) Gq Gr Gs;have XD:=PD.binds (ps:=["self","path"]) fun _ _ _ _ _ _=>by(repeat refine ls fun _=>?_);exact lz rfl
 have PF:=Av (st:=CC) Gu Gv Gw;have XE:=PF.binds (ps:=["self"]) fun _ _ _ _ _ _=>by(repeat refine ls fun _=>?_);exact lz rfl
 have B:=Dk.of Jm;have XF:=PySem.W.mg_of X G Jl;have eN:=Av (st:=EN) UJ UK UL;have jV:=eN.binds (ps:=["self","path","kind"]) fun _ _ _ _ _ _=>by(repeat refine ls fun _=>?_);exact lz rfl
 have eO:=Av (st:=EO) UM UN UO;have jW:=eO.binds (ps:=["self"]) fun _ _ _ _ _ _=>by(repeat refine ls fun _=>?_);exact lz rfl
 have Jp:=Dk.of aY;have jX:=PySem.W.mg_of X G aX;have eP:=PySem.W.mg_none_of X G zE;have mP:=PySem.W.mg_of X G Jn;have ki:=Av (st:=Bn) aZ aa ae;have iZ:=ki.binds (ps:=["self","rows"]) fun _ _ _ _ _ _=>by(repeat refine ls fun _=>?_);exact lz rfl
 have kj:=Av (st:=CD) af ag ah;have ib:=kj.binds (ps:=["self"]) fun _ _ _ _ _ _=>by(repeat refine ls fun _=>?_);exact lz rfl
 have pk:=iN.of Jo;have MP:=pk.M;have mR:=pk.hm;have cC:=pk.c;have Jq:=PySem.W.mg_of X G Cu;have UZ:=PySem.W.mg_of X G Gj;have Ua:=PySem.W.mg_of X G Gk;have XG:=PySem.W.mg_of X G JH;have XH:=PySem.W.mg_of X G JI;have Qq:=PySem.W.mg_of X G Eg;have Ub:=PySem.W.mg_of X G Gm;have XI:=PySem.W.mg_of X G JJ;have PJ:=Av (st:=CA) Fh JK JL;have XJ:=PJ.binds (ps:=["self","at"]) fun _ _ _ _ _ _=>by(repeat refine ls fun _=>?_);exact lz rfl
 have Er:=Av (st:=BF) DU Eh Ei;have IE:=Er.binds (ps:=["self","at"]) fun _ _ _ _ _ _=>by(repeat refine ls fun _=>?_);exact lz rfl
 have kn:=Kn.of kk;have N:=(⟨UZ,Ua,XG,XH,Qq,Ub,XI,Jq⟩:Nm mg (fun i=>[n,o,q,r,d,g,t].getD i 0) I);refine⟨PySem.W.fnOf "law" "law" (AX Mh) (AU Mh) (AJ Mh) .none dW dX dY dV Za dZ,fun s v=>.of_eq rfl,fun base _ _=>?_⟩;have dk:=@dk l.prog w K mg base;have I2:ew l.prog w K mg base Q ["self","at"] (Bg ((fun i=>[n,o,q,r,d,g,t].getD i 0) 2)):=⟨_,JA PJ (kn.sk 0 (by decide)),XJ,⟨_,Fh,rfl⟩⟩;have I4:ew l.prog w K mg base p ["self","at"] (Bg ((fun i=>[n,o,q,r,d,g,t].getD i 0) 4)):=⟨_,Gf Er (kn.sk 2 (by decide)),IE,⟨_,DU,rfl⟩⟩;have iO:dN l.prog w K mg base p ["self","at"] (Bg ((fun i=>[n,o,q,r,d,g,t].getD i 0) 4)):=⟨_,FV Er (kn.sk 2 (by decide)),IE⟩;have IF:=dk (gn X G h8 ["doc"]) fun _ _ F b m=>Ml F T;have Le:=dk (gn X G h12 ["doc"]) fun _ _ F b m=>JB F T;have A:=dk (gn X G h13 ["doc"]) fun _ _ F b m=>QR F T IF Le;have eQ:=Mp (P:=l.prog) (w:=w) (base:=base) Xs T A J.c J.n1 J.n2;have eR:=Mq (P:=l.prog) (w:=w) (base:=base) Xt T A J.c J.n1 J.n2;have ax:=LK (P:=l.prog) (w:=w) (base:=base) UP T L.c L.n1;have ay:=LL (P:=l.prog) (w:=w) (base:=base) UQ T L.c L.n1;have Uc:=HQ (P:=l.prog) (w:=w) (base:=base) Lb T A f.c f.n1 f.n2;have Ud:=HR (P:=l.prog) (w:=w) (base:=base) Lc T A f.c f.n1 f.n2;have az:=LN (P:=l.prog) (w:=w) (base:=base) UU T y.c y.n1 y.n3;have a_:=LO (P:=l.prog) (w:=w) (base:=base) UW T y.c y.n1 y.n3;have bA:=LQ (P:=l.prog) (w:=w) (base:=base) UX T z.c z.n1 z.n3;have bB:=LR (P:=l.prog) (w:=w) (base:=base) UY T z.c z.n1 z.n3;have eS:=Mr (P:=l.prog) (w:=w) (base:=base) Xu T A O.c O.n1 O.n2;have eT:=Ms (P:=l.prog) (w:=w) (base:=base) Xv T A O.c O.n1 O.n2;have eU:=Mt (P:=l.prog) (w:=w) (base:=base) Xw T Z.c Z.n1;have eV:=Mu (P:=l.prog) (w:=w) (base:=base) Xx T Z.c Z.n1;have XM:=JD (P:=l.prog) (w:=w) (base:=base) PD T B.c B.n1;have XN:=JE (P:=l.prog) (w:=w) (base:=base) PF T B.c B.n1;have jY:=QX (P:=l.prog) (w:=w) (base:=base) eN T Jp.c Jp.n1 Jp.n4;have jZ:=QY (P:=l.prog) (w:=w) (base:=base) eO T Jp.c Jp.n1 Jp.n4;have MI:∀j,j<9->Sl l.prog w K mg base 3 (dA j) ((bO U D k E H V Y u Uo) j) (jv j) (Vr (bO U D k E H V Y u Uo) j):=fun j hj=>by
  rcases j9 hj with rfl|rfl|rfl|rfl|rfl|rfl|rfl|rfl|rfl
  ·exact⟨_,_,J.M,eQ.mono (by decide),eD,eF⟩
  ·exact⟨_,_,L.M,ax.mono (by decide),ai,ak⟩
  ·exact⟨_,_,f.M,Uc.mono (by decide),UR,UT⟩
  ·exact⟨_,_,y.M,az.mono (by decide),ao,ar⟩
  ·exact⟨_,_,z.M,bA.mono (by decide),au,aw⟩
  ·exact⟨_,_,O.M,eS.mono (by decide),eG,eI⟩
  ·exact⟨_,_,Z.M,eU.mono (by decide),eJ,eM⟩
  ·exact⟨_,_,B.M,XM.mono (by decide),XD,XF⟩
  ·exact⟨_,_,Jp.M,jY.mono (by decide),jV,jX⟩
 have MT:∀j,j<9->iA l.prog w K mg base 3 ((bO U D k E H V Y u Uo) j) "told" (QI (bO U D k E H V Y u Uo) j):=fun j hj=>by
  rcases j9 hj with rfl|rfl|rfl|rfl|rfl|rfl|rfl|rfl|rfl
  ·exact⟨_,_,J.c,J.hm,eR.mono (by decide),eE⟩
  ·exact⟨_,_,L.c,L.hm,ay.mono (by decide),aj⟩
  ·exact⟨_,_,f.c,f.hm,Ud.mono (by decide),US⟩
  ·exact⟨_,_,y.c,y.hm,a_.mono (by decide),aq⟩
  ·exact⟨_,_,z.c,z.hm,bB.mono (by decide),av⟩
  ·exact⟨_,_,O.c,O.hm,eT.mono (by decide),eH⟩
  ·exact⟨_,_,Z.c,Z.hm,eV.mono (by decide),eK⟩
  ·exact⟨_,_,B.c,B.hm,XN.mono (by decide),XE⟩
  ·exact⟨_,_,Jp.c,Jp.hm,jZ.mono (by decide),jW⟩
 have Qr:=dk (gn X G h26 ["thing"]) fun _ _ F b m=>Mn F T oN oO;have IG:=dk (gn X G h2 ["thing"]) fun _ _ F b m=>Mi F T;have C:=dk (gn X G h3 ["text"]) fun _ _ F b m=>Dt F T ⟨_,Qp⟩;have Lf:=dk (gn X G h4 ["thing"]) fun _ _ F b m=>QQ F T C ⟨_,Gx⟩;have Ue:=dk (gn X G h14 ["thing"]) fun _ _ F b m=>QS F T IG Lf;have Ug:=dk (gn X G h15 ["thing"]) fun _ _ F b m=>QT F T Ue;have FF:=dk (gn X G h27 ["thing"]) fun _ _ F b m=>JC F T Ug ⟨_,Gz⟩ ⟨_,Ep⟩;have Jr:=dk (gn X G h28 ["word","thing"]) fun _ _ F b m=>HP F T FF oJ dR;have Na:=dk (gn X G h5 ["thing"]) fun _ _ F b m=>Mj F T IG C Lf ⟨_,Gy⟩;have Nb:=dk (gn X G h9 ["doc"]) fun _ _ F b m=>Mm F T IF;have Uh:=dk (gn X G h6 ["thing"]) fun _ _ F b m=>TC F T Na Nb;have Qs:=dk (gn X G h18 ["one","other"]) fun _ _ F b m=>QU F T;have Qt:=dk (gn X G h30 ["path","to"]) fun _ _ F b m=>QV F T Qs;have G_:=dk (gn X G h29 ["word","path","thing"]) fun _ _ F b m=>Gg F T Uh FF Qt oK ZV oM dS;have HU:SR l.prog w K mg base "refuse_no_row" ["thing"] 13 (GX (fun i=>[n,o,q,r,d,g,t].getD i 0)):=SR.mk' kf b31 m31 (Gh kf T Qr Jr G_ N kn I2);have Ui:SR l.prog w K mg base "deed_of" ["row"] 14 (Mb (fun i=>[n,o,q,r,d,g,t].getD i 0) (bO U D k E H V Y u Uo)):=SR.mk' kg b32 m32 (QW kg T HU MI);have Qu:SR l.prog w K mg base "deeds_of" ["rows"] 16 (Iz (fun i=>[n,o,q,r,d,g,t].getD i 0) (bO U D k E H V Y u Uo)):=SR.mk' kh b33 m33 (Mo kh T Ui N kn I4 iO eP ⟨_,La⟩ ⟨_,HS⟩);have iY:=JF (P:=l.prog) (w:=w) (base:=base) ki T Qu cC pk.nD;have ia:=JG (P:=l.prog) (w:=w) (base:=base) kj T cC pk.nD MT;have XO:=dk (gn X G h34 ["_law_script","_law_k"]) fun _ _ F b m=>WA F T;have Js:=dk (gn X G h35 ["_law_cell_here","_law_k"]) fun _ _ F b m=>WB F T;have Uj:=dk (gn X G h36 ["_law_cell_here"]) fun _ _ F b m=>TF F T Js;have XP:=dk (gn X G h37 ["_law_cell_here","_law_names_here"]) fun _ _ F b m=>WC F T Js;have bC:=dk (gn X G h38 ["_law_cell_here","_law_names_here"]) fun _ _ F b m=>ZX F T Js;have bD:=dk (gn X G h39 ["_law_rows","_law_odd_here"]) fun _ _ F b m=>ZY F T;have XQ:=dk (gn X G h40 ["_law_rows"]) fun _ _ F b m=>WD F T N kn MP mP iY iZ cC mR ia ib;exact ZZ oH T XO Js Uj XP bC bD XQ
variable{loose:List Str}{K:Params->qG}{q:Program}{d:DefRec}
theorem walk{e:(Str->Option Value)->Heap->Prop}{YP:World->Heap->Prop}(g:l.most=some 63)(b:d.params.defaults=[])(i:∀(w:World) (h:Heap),YP w h->(K w.params).In h)(F:∀(w:World) (mg:Str->Option Value) (fa:Addr) (h:Heap),(K w.params).In h->h.Ns mainGlobals mg->mg d.name=some (.ref fa)->
   ∃c:FuncData,(∀(s:Shared) (u:Value),BindsTo s c ⟨[u],[]⟩ [("_law_script",u)])/\∀base:Heap,(K w.params).In base->base.Ns mainGlobals mg->AV l.prog w (K w.params) mg base BP 22 fa c ["_law_script"] (Ki (K w.params))):
  PySem.W.WalkO q loose e YP l.row.toRowW d [] (fun f vs=>PySem.call f vs):=
 L2.VH (n:=63) (k:=22) (x:="_law_script") (CX:=fun _=>BP) (sp:=fun w=>Ki (K w.params)) g (by decide) b ⟨rfl,by decide,by decide,rfl⟩ i F (fun _ _ a j m _ o=>⟨a,j,rfl,o,m,fun _=>rfl⟩) fun _ _ _ _ _ z=>z
theorem walkZ{m:(Str->Option Value)->Heap->Prop}{as:List Addr}{n t:Nat}(e:∀P:Params,as=List.map (fun x=>x.fst) (K P))(p:l.most=some 63)(g:d.params.defaults=[])(F:∀(w:World) (mg:Str->Option Value) (fa:Addr) (h:Heap),(K w.params).In h->h.Ns mainGlobals mg->mg d.name=some (.ref fa)->
   ∃k:FuncData,(∀(s:Shared) (u:Value),BindsTo s k ⟨[u],[]⟩ [("_law_script",u)])/\∀base:Heap,(K w.params).In base->base.Ns mainGlobals mg->AV l.prog w (K w.params) mg base BP 22 fa k ["_law_script"] (Ki (K w.params))):
  PySem.W.WalkX q loose m (PySem.W.X.obsZ as) (PySem.W.X.valZ K n t) l.row.toRowW d [] (fun f vs=>PySem.call f vs):=
 fun w b c mg r G y a o v A i B kV C D E H I J args vals j L M N O Q R=>
  walk (YP:=fun w h=>(K w.params).In h) p g (fun _ _ z=>z) F w b c mg r G ((show(K w.params).In b.heap from(PySem.W.X.z_facts e y).2.1).keeps L.keeps) a o v A i B kV C D E H I J args vals j M N O Q R
end Bb
def PySem.W.Fast.tw5556545103543224006:=0
def PySem.W.Fast.tw12955189342894473831:=0
def PySem.W.Fast.tw10125280444751563853:=0
def PySem.W.Fast.tw2536263216028604880:=0
def PySem.W.Fast.tw17205958136246185917:=0
def PySem.W.Fast.tw14598682676371373868:=0
def PySem.W.Fast.tw13386914219472242217:=0
def PySem.W.Fast.tw17031939723102340133:=0
def PySem.W.Fast.tw17760763371058585956:=0
def PySem.W.Fast.tw8906784143462498730:=0
def PySem.W.Fast.tw17419958417280129441:=0
def PySem.W.Fast.tw11070523895960533680:=0
def PySem.W.Fast.tw10621256939072713702:=0
def PySem.W.Fast.tw15702205234133747013:=0
def PySem.W.Fast.tw4265350057180074892:=0
def PySem.W.Fast.tw2404260537225962147:=0
def PySem.W.Fast.tw14688074052970027726:=0
def PySem.W.Fast.tw14545997539904847005:=0
def PySem.W.Fast.tw10595887621563288516:=0
def PySem.W.Fast.tw2288232262554888656:=0
def PySem.W.Fast.tw14306598923589199443:=0
def PySem.W.Fast.tw5588900651444533360:=0
def PySem.W.Fast.tw7575978065440887776:=0
def PySem.W.Fast.tw14978709738214537042:=0
def PySem.W.Fast.tw9292210188227688519:=0
def PySem.W.Fast.tw17086474085796735748:=0
def PySem.W.Fast.tw12899881011597962580:=0
def PySem.W.Fast.tw15943002421123220330:=0
def PySem.W.Fast.tw8608067224283746296:=0
def PySem.W.Fast.tw18350947984994961998:=0
def PySem.W.Fast.tw670844386778060692:=0
def PySem.W.Fast.tw7976459464878388493:=0
def PySem.W.Fast.tw4063745053669253655:=0
def PySem.W.Fast.tw14660712177633731578:=0
def PySem.W.Fast.tw16419876577978854506:=0
def PySem.W.Fast.tw11791160685272969826:=0
def PySem.W.Fast.tw3508598036792712712:=0
def PySem.W.Fast.tw9117456826083148076:=0
def PySem.W.Fast.tw2268106359308969817:=0
def PySem.W.Fast.tw17220385070149047219:=0
def PySem.W.Fast.tw17745806167885460220:=0
def PySem.W.Fast.tw6064112342940687455:=0
def PySem.W.Fast.tw14104553277943658968:=0
def PySem.W.Fast.tw17233788519129664895:=0
def PySem.W.Fast.tw10280182607255147155:=0
def PySem.W.Fast.tw686651771769673645:=0
def PySem.W.Fast.tw9850950608175527976:=0
def PySem.W.Fast.tw13602779617392812494:=0
def PySem.W.Fast.tw11034746437602186855:=0
def PySem.W.Fast.tw1390805491388852507:=0
def PySem.W.Fast.tw3239158618030824032:=0
def PySem.W.Fast.tw3393211771688406659:=0
def PySem.W.Fast.tw3259066127274553303:=0
def PySem.W.Fast.tw3504574129876319890:=0
def PySem.W.Fast.tw15462364192229344868:=0
def PySem.W.Fast.tw17506240767934835933:=0
def PySem.W.Fast.tw9176164579242416043:=0
def PySem.W.Fast.tw17546142647646942522:=0
def PySem.W.Fast.tw5191481655003942549:=0
def PySem.W.Fast.tw9831759216888609433:=0
def PySem.W.Fast.tw11904711226035333809:=0
def PySem.W.Fast.tw13354620612270836737:=0
def PySem.W.Fast.tw7315491692080384601:=0
def PySem.W.Fast.tw15894427584617918741:=0
def PySem.W.Fast.tw1881554101007171677:=0
def PySem.W.Fast.tw1579591808161933284:=0
def PySem.W.Fast.tw14742059705856547393:=0
def PySem.W.Fast.tw18374081979236431488:=0
def PySem.W.Fast.tw15837844539609208617:=0
def PySem.W.Fast.tw980129975051653333:=0
def PySem.W.Fast.tw2911935311075780917:=0
def PySem.W.Fast.tw1840799124245066631:=0
def PySem.W.Fast.tw12237027742333996961:=0
def PySem.W.Fast.tw8951125040788158942:=0
def PySem.W.Fast.tw16986794741643048043:=0
def PySem.W.Fast.tw18163514664421694309:=0
def PySem.W.Fast.tw8793612286892890228:=0
def PySem.W.Fast.tw14044476141433113209:=0
def PySem.W.Fast.tw9783233032550619370:=0
def PySem.W.Fast.tw9199788167535281639:=0
def PySem.W.Fast.tw12018466749894490141:=0
def PySem.W.Fast.tw17973389206735534411:=0
def PySem.W.Fast.tw13868025954645014774:=0
def PySem.W.Fast.tw9920185628808978806:=0
def PySem.W.Fast.tw15641955560017352343:=0
def PySem.W.Fast.tw16275914461661181704:=0
def PySem.W.Fast.tw18342452376867081960:=0
def PySem.W.Fast.tw1500580149566315207:=0
def PySem.W.Fast.tw11872328624521413854:=0
def PySem.W.Fast.tw10261036775017385638:=0
def PySem.W.Fast.tw7198760579385354529:=0
def PySem.W.Fast.tw14397235135233160529:=0
def PySem.W.Fast.tw483237830391735162:=0
def PySem.W.Fast.tw7964620921548463327:=0
def PySem.W.Fast.tw14507989998607908654:=0
def PySem.W.Fast.tw3869927854463524816:=0
def PySem.W.Fast.tw1033935896314603075:=0
def PySem.W.Fast.tw12717853311147218138:=0
def PySem.W.Fast.tw3577497620873443603:=0
def PySem.W.Fast.tw390595864332395185:=0
def PySem.W.Fast.tw4767430141679495889:=0
def PySem.W.Fast.tw9655777056491506576:=0
def PySem.W.Fast.tw17391606839595738157:=0
def PySem.W.Fast.tw4159058128337113137:=0
def PySem.W.Fast.tw17127320524985289231:=0
def PySem.W.Fast.tw4354008882388290737:=0
def PySem.W.Fast.tw6318066490957837588:=0
def PySem.W.Fast.tw17725891350924167189:=0
def PySem.W.Fast.tw7305859288438063432:=0
def PySem.W.Fast.tw17078526059439541923:=0
def PySem.W.Fast.tw6618077037764485744:=0
def PySem.W.Fast.tw7402607793245406396:=0
def PySem.W.Fast.tw8237274884742475913:=0
def PySem.W.Fast.tw2999820767381507540:=0
def PySem.W.Fast.tw6378968071090758244:=0
def PySem.W.Fast.tw18061562186634712267:=0
def PySem.W.Fast.tw8864917709877752448:=0
def PySem.W.Fast.tw832119898275312565:=0
def PySem.W.Fast.tw4042407445284588785:=0
def PySem.W.Fast.tw5610924388110073779:=0
def PySem.W.Fast.tw11946691687193572112:=0
def PySem.W.Fast.tw3430072173440760641:=0
def PySem.W.Fast.tw8978751846193150510:=0
def PySem.W.Fast.tw10381308061802927977:=0
def PySem.W.Fast.tw9789150064088105472:=0
def PySem.W.Fast.tw12589994272503980597:=0
def PySem.W.Fast.tw3816701447027213370:=0
def PySem.W.Fast.tw17564975638263569745:=0
def PySem.W.Fast.tw9942277096535562053:=0
def PySem.W.Fast.tw2647899967899954100:=0
def PySem.W.Fast.tw12680466134236281489:=0
def PySem.W.Fast.tw14888791886563144609:=0
def PySem.W.Fast.tw18228412425173399304:=0
def PySem.W.Fast.tw13659799636883332648:=0
def PySem.W.Fast.tw5725367058246509917:=0
def PySem.W.Fast.tw17499177289869562603:=0
def PySem.W.Fast.tw13417822848142803392:=0
def PySem.W.Fast.tw17548184441189057095:=0
def PySem.W.Fast.tw790202155548899811:=0
def PySem.W.Fast.tw7340229799704063038:=0
def PySem.W.Fast.tw9244352449422937952:=0
def PySem.W.Fast.tw16713612636840376493:=0
def PySem.W.Fast.tw10375904823058327703:=0
def PySem.W.Fast.tw5098910826166568714:=0
def PySem.W.Fast.tw14540349624223523824:=0
def PySem.W.Fast.tw7030540454363981985:=0
def PySem.W.Fast.tw13224399556234576855:=0
def PySem.W.Fast.tw13898281113096363148:=0
def PySem.W.Fast.tw8854816425049020058:=0
def PySem.W.Fast.tw8407955335903196375:=0
def PySem.W.Fast.tw10297847228632887773:=0
def PySem.W.Fast.tw13017927168123994037:=0
def PySem.W.Fast.tw4421712490208344055:=0
def PySem.W.Fast.tw5136333964047688080:=0
def PySem.W.Fast.tw11573631380428003288:=0
def PySem.W.Fast.tw8801067165824307733:=0
def PySem.W.Fast.tw16432871569593852145:=0
def PySem.W.Fast.tw10612978980182330036:=0
def PySem.W.Fast.tw18377190376214708266:=0
def PySem.W.Fast.tw16467408970048936211:=0
def PySem.W.Fast.tw10749834457979434247:=0
def PySem.W.Fast.tw10542686793257995482:=0
def PySem.W.Fast.tw15694561162194398866:=0
def PySem.W.Fast.tw12643801315340557567:=0
def PySem.W.Fast.tw266280005983916205:=0
def PySem.W.Fast.tw3040935178279879220:=0
def PySem.W.Fast.tw4768873942291686040:=0
def PySem.W.Fast.tw15708301391966065001:=0
def PySem.W.Fast.tw7965769594986868823:=0
def PySem.W.Fast.tw13297769289815209913:=0
def PySem.W.Fast.tw11532178654308277080:=0
def PySem.W.Fast.tw17153712583335357838:=0
def PySem.W.Fast.tw2740550572425673038:=0
def PySem.W.Fast.tw17177513053446272103:=0
def PySem.W.Fast.tw8970353952178071127:=0
def PySem.W.Fast.tw17052971114514305190:=0
def PySem.W.Fast.tw3235274985981958865:=0
def PySem.W.Fast.tw12461477931808374459:=0
def PySem.W.Fast.tw3262412093235699962:=0
def PySem.W.Fast.tw17863775971186417563:=0
def PySem.W.Fast.tw986424004005411765:=0
def PySem.W.Fast.tw1209986701170052042:=0
def PySem.W.Fast.tw15384252049677151522:=0
def PySem.W.Fast.tw1680460325153783863:=0
def PySem.W.Fast.tw3858636201693142055:=0
def PySem.W.Fast.tw15584516197072062591:=0
def PySem.W.Fast.tw6891998749472465618:=0
def PySem.W.Fast.tw9076118359954198946:=0
def PySem.W.Fast.tw14811542773421458381:=0
def PySem.W.Fast.tw4906985033889005402:=0
def PySem.W.Fast.tw4869761443693192942:=0
def PySem.W.Fast.tw3197691021976575330:=0
def PySem.W.Fast.tw9676996093660341748:=0
def PySem.W.Fast.tw16983437715216569079:=0
def PySem.W.Fast.tw12025242664562302897:=0
def PySem.W.Fast.tw11089171872113379599:=0
def PySem.W.Fast.tw11884668455808698472:=0
def PySem.W.Fast.tw2183807205981986502:=0
def PySem.W.Fast.tw11096886363021768464:=0
def PySem.W.Fast.tw10888675341765773694:=0
def PySem.W.Fast.tw5823154262626380673:=0
def PySem.W.Fast.tw14756284442003795661:=0
def PySem.W.Fast.tw9156291173119782285:=0
def PySem.W.Fast.tw1626288083076510959:=0
def PySem.W.Fast.tw17760233344179093728:=0
def PySem.W.Fast.tw4522221311296386591:=0
def PySem.W.Fast.tw10011463191995652780:=0
def PySem.W.Fast.tw7906439697481157826:=0
def PySem.W.Fast.tw3682586440537487538:=0
def PySem.W.Fast.tw3092866822950925307:=0
def PySem.W.Fast.tw8570588163652282524:=0
def PySem.W.Fast.tw16779515199661737517:=0
def PySem.W.Fast.tw10237577263988110631:=0
def PySem.W.Fast.tw12361788141545082779:=0
def PySem.W.Fast.tw5241485089072075506:=0
def PySem.W.Fast.tw9430614472857395817:=0
def PySem.W.Fast.tw11563306173465266766:=0
def PySem.W.Fast.tw12317842007777656515:=0
def PySem.W.Fast.tw5738542146153103743:=0
def PySem.W.Fast.tw3899746400009233787:=0
def PySem.W.Fast.tw5726524753463812065:=0
def PySem.W.Fast.tw2942579407106032603:=0
def PySem.W.Fast.tw12962025579301717381:=0
def PySem.W.Fast.tw10684791687641204342:=0
def PySem.W.Fast.tw10628532413242024638:=0
def PySem.W.Fast.tw15247907081265233477:=0
def PySem.W.Fast.tw877344128828171069:=0
def PySem.W.Fast.tw17371366964886373628:=0
def PySem.W.Fast.tw3809648750419877129:=0
def PySem.W.Fast.tw16202980501604494972:=0
def PySem.W.Fast.tw12932617875567322003:=0
def PySem.W.Fast.tw5451963081099596805:=0
def PySem.W.Fast.tw16679958837200363500:=0
def PySem.W.Fast.tw9977002946298977476:=0
def PySem.W.Fast.tw12393655357902323970:=0
def PySem.W.Fast.tw6156122655242867672:=0
def PySem.W.Fast.tw6177672003340539276:=0
def PySem.W.Fast.tw15722568698935202391:=0
def PySem.W.Fast.tw4365844341667992606:=0
def PySem.W.Fast.tw7386380043161588198:=0
def PySem.W.Fast.tw1099077535360466320:=0
def PySem.W.Fast.tw13494022904931258884:=0
def PySem.W.Fast.tw1333560274390725416:=0
def PySem.W.Fast.tw2962831472081621702:=0
def PySem.W.Fast.tw12086587584886667267:=0
def PySem.W.Fast.tw7170649555557083113:=0
def PySem.W.Fast.tw14697712617800278569:=0
def PySem.W.Fast.tw17252571371271954851:=0
def PySem.W.Fast.tw12329686006994039366:=0
def PySem.W.Fast.tw9465480327103999311:=0
def PySem.W.Fast.tw18143292998136950270:=0
def PySem.W.Fast.tw14464272484928228860:=0
def PySem.W.Fast.tw8776142392437986791:=0
def PySem.W.Fast.tw2457008829303033711:=0
def PySem.W.Fast.tw18368908207032627958:=0
def PySem.W.Fast.tw16587091450440671634:=0
def PySem.W.Fast.tw8385587734173083413:=0
def PySem.W.Fast.tw18059374681361055574:=0
def PySem.W.Fast.tw18149432761612997664:=0
def PySem.W.Fast.tw962688368387270916:=0
def PySem.W.Fast.tw14657065365947097890:=0
def PySem.W.Fast.tw13388048760116745136:=0
def PySem.W.Fast.tw9820458320665742289:=0
def PySem.W.Fast.tw6681061346555051960:=0
def PySem.W.Fast.tw14027477769815607107:=0
def PySem.W.Fast.tw4635060866691685888:=0
def PySem.W.Fast.tw8259770859148950616:=0
def PySem.W.Fast.tw5903240323410260123:=0
def PySem.W.Fast.tw17660880288051405750:=0
def PySem.W.Fast.tw6303976183551290661:=0
def PySem.W.Fast.tw4895122513681641671:=0
def PySem.W.Fast.tw16454524515329834245:=0
def PySem.W.Fast.tw11844570338098399140:=0
def PySem.W.Fast.tw476967751206751009:=0
def PySem.W.Fast.tw16866746642230848025:=0
def PySem.W.Fast.tw1269634204720668869:=0
def PySem.W.Fast.tw11399578437972691171:=0
def PySem.W.Fast.tw959526233822941124:=0
def PySem.W.Fast.tw7801078273785890018:=0
def PySem.W.Fast.tw5801027601238419364:=0
def PySem.W.Fast.tw3799649714185154352:=0
def PySem.W.Fast.tw16843674719187253019:=0
def PySem.W.Fast.tw10511874466017958986:=0
def PySem.W.Fast.tw4592291255848763672:=0
def PySem.W.Fast.tw4099676227444166043:=0
def PySem.W.Fast.tw9475978675102239955:=0
def PySem.W.Fast.tw14844749640208999338:=0
def PySem.W.Fast.tw16792272700135200760:=0
def PySem.W.Fast.tw1356649042549113660:=0
def PySem.W.Fast.tw10822838973365619404:=0
def PySem.W.Fast.tw7414640346138094199:=0
def PySem.W.Fast.tw3560698521752482386:=0
def PySem.W.Fast.tw3864495731329865837:=0
def PySem.W.Fast.tw9384267386515580274:=0
def PySem.W.Fast.tw11791019211906389948:=0
def PySem.W.Fast.tw14400777857456348136:=0
def PySem.W.Fast.tw15492891560869663474:=0
def PySem.W.Fast.tw17982924383784846892:=0
def PySem.W.Fast.tw7308668689956604164:=0
def PySem.W.Fast.tw13887445577239292435:=0
def PySem.W.Fast.tw8858934083364467280:=0
def PySem.W.Fast.tw11230817869309183069:=0
def PySem.W.Fast.tw13619488389200211474:=0
def PySem.W.Fast.tw8030742257428811898:=0
def PySem.W.Fast.tw14356174948653000543:=0
def PySem.W.Fast.tw12750019685232529200:=0
def PySem.W.Fast.tw7235781813655388254:=0
def PySem.W.Fast.tw2052216395611644628:=0
def PySem.W.Fast.tw13547010123596660055:=0
def PySem.W.Fast.tw12475969976639280248:=0
def PySem.W.Fast.tw3859498564925569011:=0
def PySem.W.Fast.tw4866578880718293813:=0
def PySem.W.Fast.tw15851177326928517983:=0
def PySem.W.Fast.tw4079723465234368098:=0
def PySem.W.Fast.tw7555393390637017699:=0
def PySem.W.Fast.tw1672827422911250637:=0
def PySem.W.Fast.tw2519882548915318676:=0
def PySem.W.Fast.tw11950785794157991204:=0
def PySem.W.Fast.tw5758294544988571813:=0
def PySem.W.Fast.tw5447646652722018349:=0
def PySem.W.Fast.tw14187725562654238363:=0
def PySem.W.Fast.tw14975471705738555790:=0
def PySem.W.Fast.tw14437826950878581969:=0
def PySem.W.Fast.tw7214410645185051833:=0
def PySem.W.Fast.tw10197346387122597296:=0
def PySem.W.Fast.tw12834613814276995213:=0
def PySem.W.Fast.tw9700876635828428921:=0
def PySem.W.Fast.tw12141598920666242516:=0
def PySem.W.Fast.tw8617807822890442553:=0
def PySem.W.Fast.tw17434872068926262477:=0
def PySem.W.Fast.tw12751435242195409783:=0
def PySem.W.Fast.tw5521968090192673888:=0
def PySem.W.Fast.tw3176928199957617744:=0
def PySem.W.Fast.tw6807448179160796111:=0
def PySem.W.Fast.tw1514394059384766173:=0
def PySem.W.Fast.tw11605185254827716044:=0
def PySem.W.Fast.tw4155909870299253823:=0
def PySem.W.Fast.tw6343537816667121523:=0
def PySem.W.Fast.tw4929318641806156231:=0
def PySem.W.Fast.tw1147857807438147619:=0
def PySem.W.Fast.tw18223800521824896286:=0
def PySem.W.Fast.tw15636737755472662195:=0
def PySem.W.Fast.tw14541653693718338671:=0
def PySem.W.Fast.tw3420999288731634506:=0
def PySem.W.Fast.tw8341620042509693309:=0
def PySem.W.Fast.tw7316528056531004830:=0
def PySem.W.Fast.tw7133654088461654907:=0
def PySem.W.Fast.tw6821961671658705278:=0
def PySem.W.Fast.tw15816134315426629914:=0
def PySem.W.Fast.tw13597589989452162618:=0
def PySem.W.Fast.tw11688927125441175884:=0
def PySem.W.Fast.tw11075385025194052091:=0
def PySem.W.Fast.tw8107176281350887092:=0
def PySem.W.Fast.tw7727726759959881377:=0
def PySem.W.Fast.tw3058400489485789755:=0
def PySem.W.Fast.tw4415231111122717527:=0
def PySem.W.Fast.tw9594874772302840694:=0
def PySem.W.Fast.tw9503700856647050931:=0
def PySem.W.Fast.tw7073786049606002742:=0
def PySem.W.Fast.tw6317864842381254920:=0
def PySem.W.Fast.tw6018575494219042284:=0
def PySem.W.Fast.tw5541443462533313123:=0
def PySem.W.Fast.tw536951511689338372:=0
def PySem.W.Fast.tw2817011240540540590:=0
def PySem.W.Fast.tw2385825610866535692:=0
def PySem.W.Fast.tw16899658037127028305:=0
def PySem.W.Fast.tw16264069155488698249:=0
def PySem.W.Fast.tw15073236820347865349:=0
def PySem.W.Fast.tw14966951241789360109:=0
def PySem.W.Fast.tw14347968074375094445:=0
def PySem.W.Fast.tw1333125253270626734:=0
def PySem.W.Fast.tw12997344073399039668:=0
def PySem.W.Fast.tw11017972253141138253:=0
def PySem.W.Fast.tw10490474537404583939:=0
def PySem.W.Fast.tw10168568308613148439:=0
def PySem.W.Fast.tw10307684854932040152:=0
def PySem.W.Fast.tw9385376490116733543:=0
def PySem.W.Fast.tw11500892679581397397:=0
def PySem.W.Fast.tw12278278419342554129:=0
def PySem.W.Fast.tw4114133082435824992:=0
def PySem.W.Fast.tw13742072117863272373:=0
def PySem.W.Fast.tw10801821258833505926:=0
def PySem.W.Fast.tw16472602635110466600:=0
def PySem.W.Fast.tw12952867538671423858:=0
def PySem.W.Fast.tw12179008491861264986:=0
def PySem.W.Fast.tw11804514671115909577:=0
def PySem.W.Fast.tw5595382392729588846:=0
def PySem.W.Fast.tw10872355305374409113:=0
def PySem.W.Fast.tw10544212054051954445:=0
def PySem.W.Fast.tw12819925784486187189:=0
def PySem.W.Fast.tw3112678193569317658:=0
def PySem.W.Fast.tw897149010971508394:=0
def PySem.W.Fast.tw17909088403211399673:=0
def PySem.W.Fast.tw9284842246122597995:=0
def PySem.W.Fast.tw912434158081358060:=0
def PySem.W.Fast.tw6699436727887002062:=0
def PySem.W.Fast.tw4659815660638240705:=0
def PySem.W.Fast.tw365423725634435273:=0
def PySem.W.Fast.tw6303870968887785019:=0
def PySem.W.Fast.tw16098362846532444755:=0
def PySem.W.Fast.tw17779465292014097553:=0
def PySem.W.Fast.tw5954601956258737561:=0
def PySem.W.Fast.tw17407405430464267390:=0
def PySem.W.Fast.tw5216999546218124873:=0
def PySem.W.Fast.tw243880323147090867:=0
def PySem.W.Fast.tw17727608112532736185:=0
def PySem.W.Fast.tw8060328105069495450:=0
def PySem.W.Fast.tw13381114679473660041:=0
def PySem.W.Fast.tw10550110530943714076:=0
def PySem.W.Fast.tw7264373729378058633:=0
def PySem.W.Fast.tw15538340870208366052:=0
def PySem.W.Fast.tw8213173032339652730:=0
def PySem.W.Fast.tw7400874982437745573:=0
def PySem.W.Fast.tw6540711444575548319:=0
def PySem.W.Fast.tw6283332353010046611:=0
def PySem.W.Fast.tw5755661419228869981:=0
def PySem.W.Fast.tw4475997281764614713:=0
def PySem.W.Fast.tw2276281280600372581:=0
def PySem.W.Fast.tw17788359450767593116:=0
def PySem.W.Fast.tw17365510620210809919:=0
open PySem PySem.W PyProof.Rows
set_option maxRecDepth 100000 in
set_option maxHeartbeats 0 in
theorem PySem.Challenge.cw_patchbough_k36_patches_refused_holds : PySem.Challenge.rw_patchbough_k36_patches_refused.Holds := by
 w_on;o_law;z_head;(case hw=>w_witness2)
 k_fill
 refine Bb.walkZ (l:=PySem.Challenge.rw_patchbough_k36_patches_refused) (fun _=>rfl) rfl rfl ?F
 case F=>
  intro w c fa h b G a
  refine' Bb.all_mk b G a (L2.fa ?a1 ?l1 ?c1 ?k1) (L2.fa ?a2 ?l2 ?c2 ?k2) (L2.fa ?a3 ?l3 ?c3 ?k3) (L2.fa ?a4 ?l4 ?c4 ?k4) (L2.fa ?a5 ?l5 ?c5 ?k5) (L2.fa ?a6 ?l6 ?c6 ?k6) (L2.fa ?a7 ?l7 ?c7 ?k7) (L2.fa ?a8 ?l8 ?c8 ?k8) (L2.fa ?a9 ?l9 ?c9 ?k9) (L2.fa ?a10 ?l10 ?c10 ?k10) (L2.fa ?a11 ?l11 ?c11 ?k11) (L2.fa ?a12 ?l12 ?c12 ?k12) (L2.fa ?a13 ?l13 ?c13 ?k13) (L2.fa ?a14 ?l14 ?c14 ?k14) (L2.fa ?a15 ?l15 ?c15 ?k15) (L2.fa ?a16 ?l16 ?c16 ?k16) (L2.fa ?a17 ?l17 ?c17 ?k17) (L2.fa ?a18 ?l18 ?c18 ?k18) (L2.fa ?a19 ?l19 ?c19 ?k19) (L2.fa ?a20 ?l20 ?c20 ?k20) (L2.fa ?a21 ?l21 ?c21 ?k21) (L2.fa ?a22 ?l22 ?c22 ?k22) (L2.fa ?a23 ?l23 ?c23 ?k23) (L2.fa ?a24 ?l24 ?c24 ?k24) (L2.fa ?a25 ?l25 ?c25 ?k25) (L2.fa ?a26 ?l26 ?c26 ?k26) (L2.fa ?a27 ?l27 ?c27 ?k27) (L2.fa ?a28 ?l28 ?c28 ?k28) (L2.fa ?a29 ?l29 ?c29 ?k29) (L2.fa ?a30 ?l30 ?c30 ?k30) (L2.fa ?a31 ?l31 ?c31 ?k31) (L2.fa ?a32 ?l32 ?c32 ?k32) (L2.fa ?a33 ?l33 ?c33 ?k33) (L2.fa ?a34 ?l34 ?c34 ?k34) (L2.fa ?a35 ?l35 ?c35 ?k35) (L2.fa ?a36 ?l36 ?c36 ?k36) (L2.fa ?a37 ?l37 ?c37 ?k37) (L2.fa ?a38 ?l38 ?c38 ?k38) (L2.fa ?a39 ?l39 ?c39 ?k39) (L2.fa ?a40 ?l40 ?c40 ?k40) ?a41 ?l41 ?c41 ?k41 (Bb.nz ?z1) (Bb.nz ?z2) (Bb.nz ?z3) (Bb.nz ?z4) (Bb.nz ?z5) (Bb.nz ?z6) (Bb.nz ?z7) (Bb.nz ?z8) (Bb.nz ?z9) (Bb.nz ?z10) (Bb.nz ?z11) (Bb.nz ?z12) (Bb.nz ?z13) (Bb.nz ?z14) (Bb.nz ?z15) (Bb.nz ?z16) (Bb.nz ?z17) ?e1 ?e2 ?e3 ?e4 ?e5 ?e6 ?e7 ?Cu ?Gj ?Gk ?JH ?JI ?Eg ?Gm ?JJ ?Ob ?Fh ?JK ?JL ?H_ ?DU ?Eh ?Ei ?Oe ?LV ?Of ?kk ?jN ?jO ?jP ?jQ ?jR ?jS ?dR ?jT ?ZV ?jU ?dS ?Tx ?Tz ?NA ?NB ?NC ?T_ ?ND ?NF ?NG ?T' ?NH ?Ox ?JT ?JU ?JV ?Oy ?JW ?JX ?JY ?NI ?Gn ?IC ?Ej ?Ek ?El ?ID ?Em ?En ?Eo ?Gp ?NJ ?Oz ?JZ ?Ja ?Jb ?O_ ?Jc ?Jd ?Je ?NK ?NL ?O' ?Jf ?Jg ?Jh ?PB ?Ji ?Jj ?Jk ?NM ?UA ?UB ?NN ?NO ?NP ?UC ?NQ ?NR ?NS ?UD ?UE ?UG ?NT ?NU ?NV ?UH ?NW ?NX ?NY ?UI ?Jl ?LY ?Gq ?Gr ?Gs ?LZ ?Gu ?Gv ?Gw ?Jm ?aX ?Xq ?UJ ?UK ?UL ?Xr ?UM ?UN ?UO ?aY (Bb.nz ?zE) ?Jn ?eB ?aZ ?aa ?ae ?eC ?af ?ag ?ah ?Jo
  (case a1|l1|c1|k1|a2|l2|c2|k2|a3|l3|c3|k3|a4|l4|c4|k4|a5|l5|c5|k5|a6|l6|c6|k6|a7|l7|c7|k7|a8|l8|c8|k8|a9|l9|c9|k9|a10|l10|c10|k10|a11|l11|c11|k11|a12|l12|c12|k12|a13|l13|c13|k13|a14|l14|c14|k14|a15|l15|c15|k15|a16|l16|c16|k16|a17|l17|c17|k17|a18|l18|c18|k18|a19|l19|c19|k19|a20|l20|c20|k20|a21|l21|c21|k21|a22|l22|c22|k22|a23|l23|c23|k23|a24|l24|c24|k24|a25|l25|c25|k25|a26|l26|c26|k26|a27|l27|c27|k27|a28|l28|c28|k28|a29|l29|c29|k29|a30|l30|c30|k30|a31|l31|c31|k31|a32|l32|c32|k32|a33|l33|c33|k33|a34|l34|c34|k34|a35|l35|c35|k35|a36|l36|c36|k36|a37|l37|c37|k37|a38|l38|c38|k38|a39|l39|c39|k39|a40|l40|c40|k40|a41|l41|c41|k41|z1|z2|z3|z4|z5|z6|z7|z8|z9|z10|z11|z12|z13|z14|z15|z16|z17|e1|e2|e3|e4|e5|e6|e7|Cu|Gj|Gk|JH|JI|Eg|Gm|JJ|Ob|Fh|JK|JL|H_|DU|Eh|Ei|Oe|LV|Of=>k_is)
  (case kk=>kernel_rfl)
  (case jN=>k_is)
  (case jO=>k_is)
  (case jP=>exact rfl)
  (case jQ=>exact⟨rfl,rfl,rfl⟩)
  (case jR=>exact rfl)
  (case jS=>k_is)
  (case dR=>kernel_rfl)
  (case jT=>k_is)
  (case ZV=>kernel_rfl)
  (case jU=>k_is)
  (case dS=>kernel_rfl)
  (case Tx=>k_is)
  (case Tz=>k_is)
  (case NA=>k_is)
  (case NB=>k_is)
  (case NC=>k_is)
  (case T_=>k_is)
  (case ND=>k_is)
  (case NF=>k_is)
  (case NG=>k_is)
  (case T'=>kernel_rfl)
  (case NH=>k_is)
  (case Ox=>k_is)
  (case JT=>k_is)
  (case JU=>k_is)
  (case JV=>k_is)
  (case Oy=>k_is)
  (case JW=>k_is)
  (case JX=>k_is)
  (case JY=>k_is)
  (case NI=>kernel_rfl)
  (case Gn=>k_is)
  (case IC=>k_is)
  (case Ej=>k_is)
  (case Ek=>k_is)
  (case El=>k_is)
  (case ID=>k_is)
  (case Em=>k_is)
  (case En=>k_is)
  (case Eo=>k_is)
  (case Gp=>kernel_rfl)
  (case NJ=>k_is)
  (case Oz=>k_is)
  (case JZ=>k_is)
  (case Ja=>k_is)
  (case Jb=>k_is)
  (case O_=>k_is)
  (case Jc=>k_is)
  (case Jd=>k_is)
  (case Je=>k_is)
  (case NK=>kernel_rfl)
  (case NL=>k_is)
  (case O'=>k_is)
  (case Jf=>k_is)
  (case Jg=>k_is)
  (case Jh=>k_is)
  (case PB=>k_is)
  (case Ji=>k_is)
  (case Jj=>k_is)
  (case Jk=>k_is)
  (case NM=>kernel_rfl)
  (case UA=>k_is)
  (case UB=>k_is)
  (case NN=>k_is)
  (case NO=>k_is)
  (case NP=>k_is)
  (case UC=>k_is)
  (case NQ=>k_is)
  (case NR=>k_is)
  (case NS=>k_is)
  (case UD=>kernel_rfl)
  (case UE=>k_is)
  (case UG=>k_is)
  (case NT=>k_is)
  (case NU=>k_is)
  (case NV=>k_is)
  (case UH=>k_is)
  (case NW=>k_is)
  (case NX=>k_is)
  (case NY=>k_is)
  (case UI=>kernel_rfl)
  (case Jl=>k_is)
  (case LY=>k_is)
  (case Gq=>k_is)
  (case Gr=>k_is)
  (case Gs=>k_is)
  (case LZ=>k_is)
  (case Gu=>k_is)
  (case Gv=>k_is)
  (case Gw=>k_is)
  (case Jm=>kernel_rfl)
  (case aX=>k_is)
  (case Xq=>k_is)
  (case UJ=>k_is)
  (case UK=>k_is)
  (case UL=>k_is)
  (case Xr=>k_is)
  (case UM=>k_is)
  (case UN=>k_is)
  (case UO=>k_is)
  (case aY=>kernel_rfl)
  (case zE=>k_is)
  (case Jn=>k_is)
  (case eB=>k_is)
  (case aZ=>k_is)
  (case aa=>k_is)
  (case ae=>k_is)
  (case eC=>k_is)
  (case af=>k_is)
  (case ag=>k_is)
  (case ah=>k_is)
  (case Jo=>kernel_rfl)
#print axioms PySem.Challenge.cw_patchbough_k36_patches_refused_holds
