import PyProof.Rows.All
import Wide.All
import OpenK.AllK
import Wide.FinOn
import Lean
import PyProof.EqAt
import PyProof.EqKinds
import PyProof.TupleCall
import PyProof.ReprRoads
import PyProof.ReprBulk
import PyProof.ZipIter
import KE.KItemsList
import PyProof.P3Eq
import KE.KEqDict
import PyProof.Rows.Range3
import PyProof.Rows.SetFrom
import PyProof.EnumMake
import PyProof.Draws
import PyProof.ExcInit
import PyProof.NsDelKeeps
import PySem.Challenge.RW_patchbough_k83_which_rows_clash
set_option compiler.extract_closed false
set_option bootstrap.genMatcherCode false
noncomputable section
set_option Elab.async false
set_option linter.all false
set_option maxRecDepth 100000
set_option maxHeartbeats 40000000
theorem ux{α:Type _}{l:List α}{i:Nat}(h:i<l.length):l[i]?=some l[i]:=List.getElem?_eq_getElem h
theorem uy{α:Type _}{l:List α}{i:Nat}{a:α}(h:l[i]?=some a):∃h:i<l.length,l[i]=a:=List.getElem?_eq_some_iff.mp h
theorem uz{α:Type _}{a b:α}(h:some a=some b):a=b:=Option.some.inj h
theorem u_{α:Type _}{l:List α}{i:Nat}{a:α}(h:l[i]?=some a):a∈l:=List.mem_of_getElem? h
abbrev vA:=PySem.W.Frag
namespace L2
open PySem PySem.Spec PyProof.Rows
abbrev Key:=Sum Int Str
noncomputable def JJ:Key->Value->Bool
 | .inl k,v=>Value.isInt k v
 | .inr x,v=>Value.isStrOf x v
noncomputable def kH(w:World):Key->Int
 | .inl k=>hashInt k
 | .inr x=>hashStr w x
theorem Ba:∀{k:Key}{v:Value},JJ k v=true->(∃i t,k=Sum.inl i/\v=Value.int i t)∨(∃x t,k=Sum.inr x/\v=Value.str x t)
 | .inl i,v,h=>by
  obtain⟨t,e⟩:=Value.isInt_shape (k:=i) (v:=v) h;exact .inl ⟨i,t,rfl,e⟩
 | .inr x,v,h=>by
  obtain⟨t,e⟩:=Value.isStrOf_shape (x:=x) (v:=v) h;exact .inr ⟨x,t,rfl,e⟩
theorem Ti(i:Int)(t:Tok):JJ (.inl i) (.int i t)=true:=by simp[JJ,Value.isInt]
theorem Tj(x:Str)(t:Tok):JJ (.inr x) (.str x t)=true:=by simp[JJ,Value.isStrOf]
theorem bV(a b:Int):decide ((Sum.inl a:Key)=Sum.inl b)=(a==b):=by
 by_cases e:a=b
 ·subst e;simp
 ·have h:¬(Sum.inl a:Key)=Sum.inl b:=fun q=>e (Sum.inl.inj q);rw[decide_eq_false h];exact(beq_eq_false_iff_ne.mpr e).symm
theorem bW(a b:Str):decide ((Sum.inr a:Key)=Sum.inr b)=decide (a=b):=by
 by_cases e:a=b
 ·subst e;simp
 ·have h:¬(Sum.inr a:Key)=Sum.inr b:=fun q=>e (Sum.inr.inj q);rw[decide_eq_false h,decide_eq_false e]
theorem bX(a:Int)(b:Str):decide ((Sum.inl a:Key)=Sum.inr b)=false:=decide_eq_false (fun q=>nomatch q)
theorem bY(a:Str)(b:Int):decide ((Sum.inr a:Key)=Sum.inl b)=false:=decide_eq_false (fun q=>nomatch q)
def BE(prog:Program)(w:World):PySem.KeyKind prog w Key where
 is:=JJ
 hash:=kH w
 inj:=fun v a b ha hb=>by
  rcases Ba ha with⟨i,t,rfl,rfl⟩|⟨x,t,rfl,rfl⟩
  ·rcases Ba hb with⟨j,u,rfl,e⟩|⟨y,u,rfl,e⟩
   ·injection e with e1 _;rw[e1]
   ·exact nomatch e
  ·rcases Ba hb with⟨j,u,rfl,e⟩|⟨y,u,rfl,e⟩
   ·exact nomatch e
   ·injection e with e1 _;rw[e1]
 byValue:=fun k v h=>by
  rcases Ba h with⟨i,t,rfl,rfl⟩|⟨x,t,rfl,rfl⟩<;>rfl
 pyHash:=fun hv h=>by
  rcases Ba hv with⟨i,t,rfl,rfl⟩|⟨x,t,rfl,rfl⟩
  ·exact wpAny_pyHash_int h
  ·exact wpAny_pyHash_str h
 eqBool:=fun hu hv h=>by
  rcases Ba hu with⟨i,t,rfl,rfl⟩|⟨x,t,rfl,rfl⟩
  ·rcases Ba hv with⟨j,u,rfl,rfl⟩|⟨y,u,rfl,rfl⟩
   ·rw[bV]at h;exact wpAny_eqBool_int h
   ·rw[bX]at h;exact SeqAt.EqAt.int_str i t y u _ _ _ _ h
  ·rcases Ba hv with⟨j,u,rfl,rfl⟩|⟨y,u,rfl,rfl⟩
   ·rw[bY]at h;exact SeqAt.EqAt.str_int x t j u _ _ _ _ h
   ·rw[bW]at h;exact wpAny_eqBool_str h
 «strs»:=fun k x t v h=>by
  rcases Ba h with⟨i,u,rfl,e⟩|⟨y,u,rfl,e⟩
  ·exact nomatch e
  ·injection e with e1 _;subst e1;cases v<;>rfl
theorem OW(prog:Program)(w:World)(i:Int)(t:Tok):(BE prog w).is (.inl i) (.int i t)=true:=Ti i t
theorem OX(prog:Program)(w:World)(x:Str)(t:Tok):(BE prog w).is (.inr x) (.str x t)=true:=Tj x t
inductive V where
 |As|bl (b:Bool)|int (i:Int)|str (x:Str)|Tn (b:Array UInt8)|eY (b:UInt64)|ref (a:Addr)|ty (n:String)
 deriving DecidableEq
def RelV:V->Value->Prop
 | .As,u=>u=Value.none
 | .bl b,u=>u=Value.bool b
 | .int i,u=>∃t,u=Value.int i t
 | .str x,u=>∃t,u=Value.str x t
 | .Tn b,u=>∃t,u=Value.bytes b t
 | .eY b,u=>∃t,u=Value.float b t
 | .ref a,u=>u=Value.ref a
 | .ty n,u=>u=Value.type n
abbrev Vals:List V->List Value->Prop:=Paired RelV
theorem Vals.length{xs:List V}{a:List Value}(r:Vals xs a):xs.length=a.length:=Paired.length r
variable{xs:List V}{c:List Value}
theorem Vals.inv{x:V}(r:Vals (x::xs) c):∃u d,c=u::d/\RelV x u/\Vals xs d:=by
 cases r with
 |cons a b=>exact⟨_,_,rfl,a,b⟩
variable{i:Nat}
theorem Vals.get{x:V}(r:Vals xs c)(e:xs[i]?=some x):∃u,c[i]?=some u/\RelV x u:=by
 induction r generalizing i with
 |nil=>rw[List.getElem?_nil]at e;exact nomatch e
 |cons a b d=>
  cases i with
  |zero=>exact⟨_,rfl,uz e▸a⟩
  |succ j=>exact d (i:=j) e
theorem Vals.set{x:V}{u:Value}(r:RelV x u):∀{xs:List V}{a:List Value}(i:Nat),Vals xs a->Vals (xs.set i x) (a.set i u)
 |_,_,_,.nil=>.nil
 |_,_,0,.cons _ t=>.cons r t
 |_,_,i+1,.cons q t=>.cons q (Vals.set r i t)
theorem Vals.append{ys:List V}{b ws:List Value}(r:Vals xs b)(s:Vals ys ws):Vals (xs++ys) (b++ws):=by
 induction r with
 |nil=>exact s
 |cons a _ c=>exact .cons a c
theorem Vals.take:∀{xs:List V}{a:List Value}(n:Nat),Vals xs a->Vals (xs.take n) (a.take n)
 |_,_,0,_=>.nil
 |_,_,_+1,.nil=>.nil
 |_,_,n+1,.cons r t=>.cons r (Vals.take n t)
theorem Vals.drop:∀{xs:List V}{a:List Value}(n:Nat),Vals xs a->Vals (xs.drop n) (a.drop n)
 |_,_,0,r=>r
 |_,_,_+1,.nil=>.nil
 |_,_,n+1,.cons _ t=>Vals.drop n t
def Gk:Option V->Option Value->Prop
 |some v,some u=>RelV v u
 |none,none=>True
 |_,_=>False
def KV{a:Type}:List (a×V)->List (a×Value)->Prop:=Paired fun(p:a×V)(q:a×Value)=>p.1=q.1/\RelV p.2 q.2
noncomputable def kV:Key->V
 | .inl i=>.int i
 | .inr x=>.str x
inductive HO where
 |lst (xs:List V)
 |tup (xs:List V)
 |dK (kvs:List (Key×V))|dT (kvs:List (List Key×V))
 |set (S:Int->Bool) (n:Nat)
 |ins (C a:Addr) (fs:List (Str×V))
 |own (x:Addr)
 |xd (fs:List (Str×V))
 |met (f x:Addr)
 |ag (lo b:Int)
 |DT (o:Obj) (u:HO)
 |ai (ps:Array Value)
 |ext (c:Heap->Prop)
abbrev Hp:=Addr->Option HO
def upd(H:Hp)(a:Addr)(o:HO):Hp:=fun b=>if b=a then some o else H b
variable{H:Hp}{a:Addr}
theorem AB{o:HO}:upd H a o a=some o:=by unfold upd;rw[if_pos rfl]
variable{b:Addr}
theorem AN{o:HO}(h:b≠a):upd H a o b=H b:=by unfold upd;rw[if_neg h]
theorem Yc{o u:HO}:upd (upd H a o) a u=upd H a u:=by
 funext b;unfold upd;split<;>rfl
theorem Es{o u:HO}(h:H a=some o)(h':H b=some u)(d:o≠u):a≠b:=by
 intro e;subst e;rw[h]at h';exact d (uz h')
theorem Am{o:HO}(h:H a=some o)(h':H b=none):a≠b:=by
 intro e;subst e;rw[h]at h';cases h'
section
variable(P:Program) (w:World)
def BJ(H:Hp)(h:Heap)(a:Addr):HO->Prop
 | .lst xs=>xs.length<=sizeLine/\∃(its:List Value)(n:Nat),Vals xs its/\h.get? a=some {cls:=.type "list",data:=.seq its.toArray n}
 | .tup xs=>xs.length<=sizeLine/\∃its:List Value,Vals xs its/\IsTup h a its.toArray
 | .dK kvs=>kvs.length<=sizeLine/\(a==sysModules)=false/\∃e,KV kvs e/\h.DictOf (BE P w) a e
 | .dT kvs=>kvs.length<=sizeLine/\(a==sysModules)=false/\∃xs:List (List Key×Addr×Value),
   Paired (fun(p:List Key×V)(q:List Key×Addr×Value)=>p.1=q.1/\H q.2.1=some (.tup (p.1.map kV))/\RelV p.2 q.2.2) kvs xs/\
   ∃o g k,h.get? a=some o/\o.ExactDict/\o.data=.dict g k/\g.toList=xs.map (entryOfKey (tupleKind (BE P w)))/\(xs.map (·.1)).Nodup
 | .set S n=>h.SetOf (intKind P w) a S n
 | .ins C c fs=>H c=some (.own a)/\fs.length<=1000/\c≠a/\h.get? a=some (PySem.W.instObj C c)/\
   ∃b,h.Ns1 c b/\(∀f,Gk (fs.lookup f) (b f))/\PySem.Within b (fs.map (·.1))
 | .own _=>∃o,h.get? a=some o
 | .xd fs=>∃b,h.Ns1 a b/\∀f,Gk (fs.lookup f) (b f)
 | .ag lo l=>∃t u v,h.get? a=some {cls:=.type "range",data:=.fields #[.int lo t,.int l u,.int 1 v]}
 | .DT o u=>h.get? a=some o/\BJ H h a u
 | .ai m=>h.get? a=some {cls:=.none,data:=.fields m}
 | .met f x=>h.get? a=some (PySem.W.methodObj (.ref f) (.ref x))
 | .ext d=>d h/\(∃o,h.get? a=some o)/\∀i j:Heap,d i->(∀o,i.get? a=some o->j.get? a=some o)->d j
def Et(H:Hp)(h:Heap):Prop:=∀a o,H a=some o->BJ P w H h a o
end
section
variable{P:Program} {w:World} {H H':Hp} {h h':Heap} {a:Addr} {o:HO}
theorem BJ.lt(x:BJ P w H h a o):a<h.objs.size:=by
 cases o with
 |lst b=>obtain⟨_,_,_,_,e⟩:=x;exact Heap.lt_size e
 |tup b=>obtain⟨_,_,_,p⟩:=x;exact p.lt
 |dK kvs=>obtain⟨_,_,_,_,o,_,_,e,_⟩:=x;exact Heap.lt_size e
 |dT kvs=>obtain⟨_,_,_,_,o,_,_,e,_⟩:=x;exact Heap.lt_size e
 |set S n=>obtain⟨o,_,_,_,e,_⟩:=x;exact Heap.lt_size e
 |ins C c fs=>obtain⟨_,_,_,e,_⟩:=x;exact Heap.lt_size e
 |own y=>obtain⟨_,e⟩:=x;exact Heap.lt_size e
 |xd fs=>obtain⟨_,⟨_,_,_,e,_⟩,_⟩:=x;exact Heap.lt_size e
 |ag lo d=>obtain⟨_,_,_,e⟩:=x;exact Heap.lt_size e
 |DT g u=>obtain⟨e,_⟩:=x;exact Heap.lt_size e
 |ai i=>exact Heap.lt_size (show h.get? a=some _ from x)
 |met f y=>exact Heap.lt_size (show h.get? a=some _ from x)
 |ext j=>obtain⟨_,⟨_,e⟩,_⟩:=x;exact Heap.lt_size e
theorem Paired.fS{e g:Type}{F G:e->g->Prop}{c:List e}{d:List g}(r:Paired F c d)(f:∀a b,F a b->G a b):Paired G c d:=by
 induction r with
 |nil=>exact .nil
 |cons a _ i=>exact .cons (f _ _ a) i
theorem BJ.Gf(x:BJ P w H h a o)(k:∀b u,(b=a∨H b=some (.own a))->h.get? b=some u->h'.get? b=some u)(B:∀b,H b=some (.own a)->H' b=some (.own a))(D:∀b xs,H b=some (.tup xs)->H' b=some (.tup xs)):BJ P w H' h' a o:=by
 induction o with
 |lst xs=>obtain⟨z,l,n,r,e⟩:=x;exact⟨z,l,n,r,k _ _ (.inl rfl) e⟩
 |tup xs=>obtain⟨z,l,r,g,e,c⟩:=x;exact⟨z,l,r,g,k _ _ (.inl rfl) e,c⟩
 |dK kvs=>obtain⟨z,y,E,r,g,i,j,e,c⟩:=x;exact⟨z,y,E,r,g,i,j,k _ _ (.inl rfl) e,c⟩
 |dT kvs=>
  obtain⟨z,y,xs,r,g,i,j,e,c⟩:=x;exact⟨z,y,xs,Paired.fS r fun p q z=>⟨z.1,D _ _ z.2.1,z.2.2⟩,g,i,j,k _ _ (.inl rfl) e,c⟩
 |set S n=>obtain⟨g,i,j,t,e,c⟩:=x;exact⟨g,i,j,t,k _ _ (.inl rfl) e,c⟩
 |ins C J fs=>
  obtain⟨d,z,F,e,m,⟨s,i,j,G,c⟩,r⟩:=x;exact⟨B _ d,z,F,k _ _ (.inl rfl) e,m,⟨s,i,j,k _ _ (.inr d) G,c⟩,r⟩
 |own y=>obtain⟨g,e⟩:=x;exact⟨g,k _ _ (.inl rfl) e⟩
 |xd fs=>obtain⟨m,⟨s,i,j,e,c⟩,r⟩:=x;exact⟨m,⟨s,i,j,k _ _ (.inl rfl) e,c⟩,r⟩
 |ag lo K=>obtain⟨t,u,v,e⟩:=x;exact⟨t,u,v,k _ _ (.inl rfl) e⟩
 |DT g u I=>obtain⟨e,q⟩:=x;exact⟨k _ _ (.inl rfl) e,I q⟩
 |ai A=>
  have e:h.get? a=some {cls:=.none,data:=.fields A}:=x;show h'.get? a=some {cls:=.none,data:=.fields A};exact k a _ (.inl rfl) e
 |met f y=>
  have e:h.get? a=some (PySem.W.methodObj (.ref f) (.ref y)):=x;show h'.get? a=some (PySem.W.methodObj (.ref f) (.ref y));exact k a _ (.inl rfl) e
 |ext L=>obtain⟨p,⟨o,e⟩,st⟩:=x;exact⟨st _ _ p fun o q=>k _ _ (.inl rfl) q,⟨o,k _ _ (.inl rfl) e⟩,st⟩
theorem Et.lt(x:Et P w H h)(e:H a=some o):a<h.objs.size:=(x a o e).lt
theorem Et.fresh(x:Et P w H h)(e:h.objs.size<=a):H a=none:=by
 cases q:H a with
 |none=>rfl
 |some u=>exact absurd (Nat.lt_of_lt_of_le (x.lt q) e) (Nat.lt_irrefl _)
theorem Et.kept(x:Et P w H h)(k:∀b u,h.get? b=some u->h'.get? b=some u):Et P w H h':=fun a o e=>
 (x a o e).Gf (fun b u _ q=>k b u q) (fun _ q=>q) fun _ _ q=>q
theorem Et.laid(x:Et P w H h)(k:∀b u,h.get? b=some u->h'.get? b=some u)(g:h.objs.size<=a)(new:BJ P w (upd H a o) h' a o):Et P w (upd H a o) h':=fun b u e=>by
 have d:=x.fresh g;by_cases f:b=a
 ·subst f;rw[AB]at e;cases e;exact new
 ·rw[AN f]at e;exact(x b u e).Gf (fun c v _ q=>k c v q) (fun c q=>by rw[AN (Am q d)];exact q) fun c i q=>by rw[AN (Am q d)];exact q
end
def Rd(H:Hp)(a:Addr)(u:HO):Prop:=H a=some u∨∃o,H a=some (.DT o u)
variable{P:Program}{w:World}{h:Heap}
theorem Rd.ok{u:HO}(r:Rd H a u)(x:Et P w H h):BJ P w H h a u:=by
 rcases r with r|⟨o,r⟩
 ·exact x a u r
 ·obtain⟨_,q⟩:=x a _ r;exact q
def fT:Option HO->Prop
 |some (.lst _)=>True
 |some (.dK _)=>True
 |some (.dT _)=>True
 |some (.set _ _)=>True
 |some (.ins _ _ _)=>True
 |some (.ext _)=>True
 |_=>False
section
variable{P:Program} {w:World} {H:Hp} {h h':Heap} {x e:Addr} {o':HO}
theorem Et.write(ok:Et P w H h)(g:fT (H x))(n:e=x∨H e=some (.own x))(k:∀b u,b≠e->h.get? b=some u->h'.get? b=some u)(m:∃u,h'.get? e=some u)(new:BJ P w (upd H x o') h' x o'):Et P w (upd H x o') h':=fun b u q=>by
 have d:∀c y,H c=some (.own y)->c≠x:=fun c y r z=>by subst z;rw[r]at g;exact g
 have f:∀c i,H c=some (.tup i)->c≠x:=fun c i r z=>by subst z;rw[r]at g;exact g
 by_cases j:b=x
 ·subst j;rw[AB]at q;cases q;exact new
 ·rw[AN j]at q;by_cases a:b=e
  ·have o:H b=some (.own x):=by
    rcases n with z|z
    ·exact absurd (a.trans z) j
    ·rw[a];exact z
   rw[q]at o;cases o;obtain⟨v,p⟩:=m;exact⟨v,by rw[a];exact p⟩
  ·refine(ok b u q).Gf (fun c v l r=>k c v ?_ r) (fun c r=>by rw[AN (d c b r)];exact r) fun c i r=>by rw[AN (f c i r)];exact r
   rcases l with rfl|l
   ·exact a
   ·rintro rfl;rcases n with z|z
    ·exact d c b l z
    ·rw[l]at z;cases z;exact j rfl
end
structure Un(fs ex:List Addr)(H H':Hp)(h h':Heap):Prop where
 keep:∀b o,h.get? b=some o->H b=none->b∉fs->b∉ex->h'.get? b=some o
 slot:∀b o,h.get? b=some o->H b=none->b∈fs->b∉ex->∃sl,h'.get? b=some {o with slots:=sl}
 free:∀b o,h.get? b=some o->H b=none->b∉ex->H' b=none
 there:∀b o,h.get? b=some o->b∉ex->∃o',h'.get? b=some o'
 HR:∀b xs,H b=some (.tup xs)->H' b=some (.tup xs)
 Gm:∀b o u,H b=some (.DT o u)->H' b=some (.DT o u)
 IV:∀b ps,H b=some (.ai ps)->∃more,H' b=some (.ai (ps++more))
section
variable{fs qS ex uF:List Addr} {H H1 H2:Hp} {h h1 h2 h':Heap} {a x e:Addr} {o:HO}
theorem Un.any(u:Un fs ex H H1 h h1){ob:Obj}(q:h.get? b=some ob)(n:H b=none)(c:b∉ex):∃f,h1.get? b=some {ob with slots:=f}:=by
 by_cases d:b∈fs
 ·exact u.slot b ob q n d c
 ·exact⟨ob.slots,u.keep b ob q n d c⟩
theorem Un.kept(k:∀b u,h.get? b=some u->h'.get? b=some u):Un fs ex H H h h':=
 ⟨fun b c q _ _ _=>k b c q,fun b c q _ _ _=>⟨c.slots,k b c q⟩,fun _ _ _ n _=>n,fun b c q _=>⟨c,k b c q⟩,fun _ _ q=>q,fun _ _ _ q=>q,fun _ d q=>⟨#[],by rw[q];simp⟩⟩
theorem Un.refl:Un fs ex H H h h:=Un.kept fun _ _ q=>q
theorem Un.laid(k:∀b u,h.get? b=some u->h'.get? b=some u)(hp:h.objs.size<=a)(hn:H a=none):Un fs ex H (upd H a o) h h' where
 keep:=fun b u q _ _ _=>k b u q
 slot:=fun b u q _ _ _=>⟨u.slots,k b u q⟩
 free:=fun b u q n _=>by rw[AN (Nat.ne_of_lt (Nat.lt_of_lt_of_le (Heap.lt_size q) hp))];exact n
 there:=fun b u q _=>⟨u,k b u q⟩
 HR:=fun b xs q=>by rw[AN (Am q hn)];exact q
 Gm:=fun b u xs q=>by rw[AN (Am q hn)];exact q
 IV:=fun b ps q=>⟨#[],by rw[AN (Am q hn),q];simp⟩
theorem Un.write(d:fT (H x))(l:e=x∨H e=some (.own x))(k:∀b u,b≠e->h.get? b=some u->h'.get? b=some u)(f:∃u,h'.get? e=some u):Un fs ex H (upd H x o) h h':=by
 have i:∀b,H b=none->b≠x:=fun b n z=>by subst z;rw[n]at d;exact d
 have j:∀b,H b=none->b≠e:=fun b n z=>by
  subst z;rcases l with r|r
  ·exact i b n r
  ·rw[n]at r;cases r
 have g:∀b u,H b=some u->¬fT (some u)->b≠x:=fun b u q m z=>by subst z;rw[q]at d;exact m d
 refine⟨fun b u q n _ _=>k b u (j b n) q,fun b u q n _ _=>⟨u.slots,k b u (j b n) q⟩,fun b u q n _=>by rw[AN (i b n)];exact n,fun b u q _=>?_,
  fun b p q=>by rw[AN (g b _ q fun z=>z)];exact q,fun b u p q=>by rw[AN (g b _ q fun z=>z)];exact q,fun b s q=>⟨#[],by rw[AN (g b _ q fun z=>z),q];simp⟩⟩
 by_cases c:b=e
 ·subst c;exact f
 ·exact⟨u,k b u c q⟩
end
def jV(h:Heap)(H:Hp):List Addr:=(List.range h.objs.size).filter fun a=>(H a).isSome
def M_(h:Heap)(H:Hp):Heap:=PySem.W.hideAll h (jV h H)
theorem To(h:Heap)(H:Hp):(M_ h H).objs.size=h.objs.size:=PySem.W.hideAll_size _ _
variable{o:Obj}
theorem VT(e:h.get? b=some o)(n:H b=none):(M_ h H).get? b=some o:=
 PySem.W.hideAll_get _ e fun a=>by
  have q:(H b).isSome=true:=(List.mem_filter.mp a).2;rw[n]at q;simp at q
theorem Yd(e:(M_ h H).get? b=some o):h.get? b=some o/\H b=none:=by
 have a:h.get? b=some o:=PySem.W.of_hideAll (jV h H) e;refine⟨a,?_⟩;cases q:H b with
 |none=>rfl
 |some x=>
  have c:b∈jV h H:=List.mem_filter.mpr ⟨List.mem_range.mpr (Heap.lt_size a),by simp[q]⟩;have z:(M_ h H).get? b=none:=PySem.W.hideAll_none (jV h H) c;rw[z]at e;cases e
def Ye(g h:Heap)(L:Addr):List (Addr×Obj):=(List.range h.objs.size).filterMap fun a=>if a=L∨(g.get? a).isSome=true then none else(h.get? a).map fun o=>(a,o)
def rest(g h:Heap)(L d:Addr):List (Addr×Obj):=(Ye g h L).filter fun p=>decide (p.1≠d)
structure Mod(K:vA)(mg:Str->Option Value)(base:Heap):Prop where
 bZ:K.In base
 glob:base.Ns mainGlobals mg
 blt:∃mb,base.Ns builtinsNs mb/\∀x:Str,x≠"__name__"->mb x=bootBuiltins x
 nolimit:base.NoLimit
structure Cx where
 prog:Program
 w:World
 K:vA
 mg:Str->Option Value
 base:Heap
 A:Around
 N:List Str
 s₀:Shared
 H₀:Hp
 env:Env
 outer:List Env
 stack:List Env
 ex:List Addr
 fn:Str->Bool
 calm:Bool
 pn:List (Addr×Obj)
 xe:Value->Shared->Prop
def OY(l:List Env):List Addr:=l.filterMap (·.frame)
abbrev Cx.fs(X:Cx):List Addr:=OY X.outer
def fU(a:Scope)(x:Str):Prop:=a.names.lookup x=some .local∨a.names.lookup x=some .cell∨a.names.lookup x=some .free
def Loc(a:Scope)(x:Str):Prop:=a.names.lookup x=some .local∨a.names.lookup x=some .cell
def Look(env:Env)(h:Heap)(m:Str->Option Value)(x:Str)(u:Value):Prop:= (env.kindOf x=some .local/\m x=some u)∨((env.kindOf x=some .cell∨env.kindOf x=some .free)/\∃c,env.cells.lookup x=some c/\h.IsCell c (some u))
structure Cx.Ok(X:Cx):Prop where
 mod:Mod X.K X.mg X.base
 kind:X.env.scope.kind=.function
 glob:X.env.globals=mainGlobals
 blt:X.env.builtins=builtinsNs
 above:X.s₀.heap.objs.size<=X.env.locals
 inj:∀x y c,X.env.cells.lookup x=some c->X.env.cells.lookup y=some c->x=y
 has:∀x,(X.env.kindOf x=some .cell∨X.env.kindOf x=some .free)->∃c,X.env.cells.lookup x=some c
 eZ:∀x c,X.fn x=true->X.env.cells.lookup x=some c->X.s₀.heap.objs.size<=c
 hd:X.calm=true->X.A.handled=none
 frames:X.A.frames=some X.stack
 fV:X.stack=X.outer∨(X.stack=X.env::X.outer/\X.env.frame=some X.env.locals)
 bb:∀b∈X.ex,b≠X.env.locals/\∀x c,X.env.cells.lookup x=some c->c≠b
 bs:∀b o,X.base.get? b=some o->X.s₀.heap.get? b=some o/\X.H₀ b=none
 VP:X.base.objs.size<=X.s₀.heap.objs.size
 QX:∀b o,X.base.get? b=some o->b∉X.ex
 QY:∀b∈X.ex,b∉X.fs
 IW:X.s₀.heap.FunFrames X.base X.outer
 aj:∀b∈X.fs,X.H₀ b=none
structure Inv(X:Cx)(pins:List (Addr×Obj))(σ:List (Option V))(H:Hp)(s:Shared):Prop where
 ok:X.Ok
 os:s.os=X.s₀.os
 bare:AllBare s.gens
 base:Un X.fs X.ex X.H₀ H X.s₀.heap s.heap
 loc:∃m,s.heap.Ns X.env.locals m/\∀(i:Nat)(x:Str)(v:V),X.N[i]?=some x->σ[i]?=some (some v)->fU X.env.scope x->∃u,RelV v u/\Look X.env s.heap m x u
 cell:∀x c,X.env.cells.lookup x=some c->∃v,s.heap.IsCell c v
 free:H X.env.locals=none
 DV:∀x c,X.env.cells.lookup x=some c->H c=none
 pin:∀p∈X.pn++pins,s.heap.get? p.1=some p.2/\H p.1=none/\p.1≠X.env.locals/\p.1∉X.fs/\∀v,p.2.data≠.cell v
 Bb:Et X.prog X.w H s.heap
 len:σ.length=X.N.length
variable{E:Value->Shared->Prop}{A:Around}{u:Value}{x:Str}{s':Shared}{ch:List Addr}{g':Array GenState}{M:Model}{t':Nat}{v:V}{N:List Str}{d':Drawn}{it:Addr}
section
variable{X:Cx} {pins:List (Addr×Obj)} {σ:List (Option V)} {H H':Hp} {s:Shared} {h':Heap}
theorem Cx.Ok.kI(ok:X.Ok)(e:X.base.get? b=some o):b∉X.fs:=fun a=>by
 have:=(ok.IW.mem a).1;rw[e]at this;cases this
theorem Inv.bs(I:Inv X pins σ H s):∀b o,X.base.get? b=some o->s.heap.get? b=some o/\H b=none:=fun b o e=>
 ⟨I.base.keep b o (I.ok.bs b o e).1 (I.ok.bs b o e).2 (I.ok.kI e) (I.ok.QX b o e),I.base.free b o (I.ok.bs b o e).1 (I.ok.bs b o e).2 (I.ok.QX b o e)⟩
theorem Inv.bk(I:Inv X pins σ H s):∀b o,X.base.get? b=some o->s.heap.get? b=some o:=fun b o e=>(I.bs b o e).1
theorem Inv.mod(I:Inv X pins σ H s):Mod X.K X.mg X.base:=I.ok.mod
theorem Inv.Fl(I:Inv X pins σ H s):X.K.In s.heap:=I.ok.mod.bZ.keeps I.bk
theorem Inv.lt(I:Inv X pins σ H s):X.env.locals<s.heap.objs.size:=let⟨_,a,_⟩:=I.loc;a.lt
theorem Inv.sz(I:Inv X pins σ H s):X.s₀.heap.objs.size<=s.heap.objs.size:=Nat.le_trans I.ok.above (Nat.le_of_lt I.lt)
theorem Inv.kJ(I:Inv X pins σ H s)(h:s.heap.objs.size<=a):a∉X.fs:=fun b=>by
 obtain⟨_,o,c,_⟩:=I.ok.IW.mem b;exact absurd (Nat.lt_of_lt_of_le (Heap.lt_size c) (Nat.le_trans I.sz h)) (Nat.lt_irrefl _)
theorem Inv.Yf(I:Inv X pins σ H s):∀x c,X.env.cells.lookup x=some c->c≠X.env.locals:=fun x c e z=>by
 obtain⟨v,o,d,f⟩:=I.cell x c e;obtain⟨m,⟨g,h,i,a,b,_⟩,_⟩:=I.loc;rw[z,a]at d;cases d;rw[b]at f;cases f
theorem Inv.IW(I:Inv X pins σ H s):s.heap.FunFrames X.base X.outer:=by
 have all:∀(l:List Env),(∀b∈OY l,b∈X.fs)->X.s₀.heap.FunFrames X.base l->s.heap.FunFrames X.base l:=by
  intro l
  induction l with
  |nil=>intro _ _;trivial
  |cons env r g=>
   intro f h;obtain⟨i,⟨L,o,a,j,k,m⟩,n⟩:=h;have c:L∈X.fs:=f L (by unfold OY;rw[List.filterMap_cons,a];exact List.mem_cons_self);obtain⟨p,e⟩:=I.base.slot L o k (I.ok.aj L c) c fun z=>I.ok.QY L z c;exact⟨i,⟨L,_,a,j,e,m⟩,g (fun b d=>f b (by unfold OY;rw[List.filterMap_cons,a];exact List.mem_cons_of_mem _ d)) n⟩
 exact all X.outer (fun _ d=>d) I.ok.IW
theorem Inv.stack(I:Inv X pins σ H s):s.heap.FunFrames X.base X.stack:=by
 rcases I.ok.fV with e|⟨e,a⟩
 ·rw[e];exact I.IW
 ·rw[e];obtain⟨m,b,_⟩:=I.loc;refine .cons (by rw[I.ok.kind];decide) a b ?_ I.IW;exact Heap.get?_none_of_le (Nat.le_trans I.ok.VP I.ok.above)
theorem Inv.J'(I:Inv X pins σ H s):∀b∈OY X.stack,b∈X.env.locals::X.fs:=fun b a=>by
 rcases I.ok.fV with e|⟨e,c⟩
 ·rw[e]at a;exact List.mem_cons_of_mem _ a
 ·rw[e]at a;unfold OY at a;rw[List.filterMap_cons,c]at a;exact a
theorem Inv.HS(I:Inv X pins σ H s):∀b∈OY X.stack,H b=none:=fun b a=>by
 rcases List.mem_cons.mp (I.J' b a)with e|a
 ·rw[e];exact I.free
 ·obtain⟨_,o,c,_⟩:=I.ok.IW.mem a;exact I.base.free b o c (I.ok.aj b a) fun z=>I.ok.QY b z a
theorem Inv.step(I:Inv X pins σ H s)(f:∀b∈ch,(b∈X.ex∨X.s₀.heap.objs.size<=b)/\b≠X.env.locals/\(∀x c,X.env.cells.lookup x=some c->c≠b)/\∀p∈X.pn++pins,p.1≠b)(keep:∀b o,b≠X.env.locals->b∉X.fs->b∉ch->s.heap.get? b=some o->H b=none->h'.get? b=some o)(slot:∀b o,b≠X.env.locals->b∈X.fs->b∉ch->s.heap.get? b=some o->H b=none->∃F,h'.get? b=some {o with slots:=F})(free:∀b o,b∉ch->s.heap.get? b=some o->H b=none->H' b=none)(there:∀b o,b∉ch->s.heap.get? b=some o->∃B,h'.get? b=some B)(HR:∀b t,H b=some (.tup t)->H' b=some (.tup t))(Gm:∀b o u,H b=some (.DT o u)->H' b=some (.DT o u))(IV:∀b E,H b=some (.ai E)->∃more,H' b=some (.ai (E++more)))(O:∀m,s.heap.Ns X.env.locals m->h'.Ns X.env.locals m)(G:Et X.prog X.w H' h')(P:AllBare g'):
  Inv X pins σ H' {s with heap:=h',gens:=g',drawn:=d',toks:=t'}:=by
 have C:∀b o,X.s₀.heap.get? b=some o->b≠X.env.locals:=fun b o e=>Nat.ne_of_lt (Nat.lt_of_lt_of_le (Heap.lt_size e) I.ok.above);have h:∀b o,X.s₀.heap.get? b=some o->b∉X.ex->b∉ch:=fun b o e a y=>by
  rcases(f b y).1 with z|z
  ·exact a z
  ·exact absurd (Nat.lt_of_lt_of_le (Heap.lt_size e) z) (Nat.lt_irrefl _)
 have cellK:∀x c,X.env.cells.lookup x=some c->∀v,s.heap.IsCell c v->h'.IsCell c v:=fun x c e v ⟨o,A,J⟩=>by
  have g:c∉ch:=fun z=>(f c z).2.2.1 x c e rfl;by_cases L:c∈X.fs
  ·obtain⟨F,q⟩:=slot c o (I.Yf x c e) L g A (I.DV x c e);exact⟨_,q,J⟩
  ·exact⟨o,keep c o (I.Yf x c e) L g A (I.DV x c e),J⟩
 refine⟨I.ok,I.os,P,⟨fun b o e n y a=>?_,fun b o e n y a=>?_,fun b o e n a=>?_,fun b o e a=>?_,fun b t e=>HR b t (I.base.HR b t e),fun b o t e=>Gm b o t (I.base.Gm b o t e),fun b E e=>?_⟩,?_,fun x c e=>?_,?_,fun x c e=>?_,fun p M=>?_,G,I.len⟩
 ·exact keep b o (C b o e) y (h b o e a) (I.base.keep b o e n y a) (I.base.free b o e n a)
 ·obtain⟨F,j⟩:=I.base.slot b o e n y a;obtain⟨K,D⟩:=slot b _ (C b o e) y (h b o e a) j (I.base.free b o e n a);exact⟨K,D⟩
 ·obtain⟨B,j⟩:=I.base.there b o e a;exact free b B (h b o e a) j (I.base.free b o e n a)
 ·obtain⟨B,j⟩:=I.base.there b o e a;exact there b B (h b o e a) j
 ·obtain⟨Q,j⟩:=I.base.IV b E e;obtain⟨R,D⟩:=IV b _ j;exact⟨Q++R,by rw[D,Array.append_assoc]⟩
 ·obtain⟨m,S,T⟩:=I.loc;refine⟨m,O m S,fun i x v j D U=>?_⟩;obtain⟨u,r,l⟩:=T i x v j D U;refine⟨u,r,?_⟩;rcases l with l|⟨k,c,e,z⟩
  ·exact .inl l
  ·exact .inr ⟨k,c,e,cellK x c e _ z⟩
 ·obtain⟨v,z⟩:=I.cell x c e;exact⟨v,cellK x c e v z⟩
 ·obtain⟨m,⟨o,_,_,A,_⟩,_⟩:=I.loc;exact free _ o (fun z=>(f _ z).2.1 rfl) A I.free
 ·obtain⟨v,o,A,J⟩:=I.cell x c e;exact free c o (fun z=>(f c z).2.2.1 x c e rfl) A (I.DV x c e)
 ·obtain⟨e,n,N,nf,d⟩:=I.pin p M;have g:p.1∉ch:=fun z=>(f p.1 z).2.2.2 p M rfl;exact⟨keep p.1 p.2 N nf g e n,free p.1 p.2 g e n,N,nf,d⟩
theorem Inv.un(I:Inv X pins σ H s)(u:Un X.fs [] H H' s.heap h')(c:Et X.prog X.w H' h'):Inv X pins σ H' {s with heap:=h',toks:=t'}:=by
 obtain⟨m,⟨o,l,p,h,r⟩,_⟩:=id I.loc;obtain⟨q,i⟩:=u.any h I.free (by simp);exact I.step (g':=s.gens) (d':=s.drawn) (ch:=[]) (fun _ z=>nomatch z) (fun b o _ d _ e n=>u.keep b o e n d (by simp)) (fun b o _ d _ e n=>u.slot b o e n d (by simp)) (fun b o _ e n=>u.free b o e n (by simp)) (fun b o _ e=>u.there b o e (by simp)) u.HR u.Gm u.IV (fun t j=>by
  obtain⟨v,f,g,a,k⟩:=j;rw[h]at a;cases a;exact⟨_,f,g,i,k⟩) c I.bare
theorem Inv.call(I:Inv X pins σ H s)(u:Un (OY X.stack) ch H H' s.heap h')(g:Et X.prog X.w H' h')(l:AllBare g')(d:∀b∈ch,(b∈X.ex∨X.s₀.heap.objs.size<=b)/\b≠X.env.locals/\(∀x c,X.env.cells.lookup x=some c->c≠b)/\∀p∈X.pn++pins,p.1≠b):
  Inv X pins σ H' {s with heap:=h',gens:=g',drawn:=d',toks:=t'}:=by
 obtain⟨m,⟨o,y,A,k,r⟩,_⟩:=id I.loc;obtain⟨B,h⟩:=u.any k I.free fun z=>(d _ z).2.1 rfl;exact I.step (ch:=ch) d (fun b o h q a e n=>u.keep b o e n (fun z=>(List.mem_cons.mp (I.J' b z)).elim h q) a) (fun b o _ _ a e n=>u.any e n a) (fun b o a e n=>u.free b o e n a) (fun b o a e=>u.there b o e a) u.HR u.Gm u.IV (fun C t=>by
  obtain⟨D,i,j,f,v⟩:=t;rw[k]at f;cases f;exact⟨_,i,j,h,v⟩) g l
theorem Inv.turned(I:Inv X pins σ H s)(k:∀b o,b≠it->s.heap.get? b=some o->h'.get? b=some o)(g:H it=none)(f:it≠X.env.locals)(h:it∈X.ex∨X.s₀.heap.objs.size<=it)(i:∀x c,X.env.cells.lookup x=some c->c≠it)(j:∀p∈X.pn++pins,p.1≠it):Inv X pins σ H {s with heap:=h',toks:=t'}:=by
 have d:∀b u,H b=some u->b≠it:=fun b u e z=>by rw[z,g]at e;cases e
 refine I.step (g':=s.gens) (d':=s.drawn) (ch:=[it]) (fun b l=>?_) (fun b o _ _ a e _=>k b o (fun z=>a (by simp[z])) e) (fun b o _ _ a e _=>⟨o.slots,k b o (fun z=>a (by simp[z])) e⟩) (fun _ _ _ _ n=>n) (fun b o a e=>⟨o,k b o (fun z=>a (by simp[z])) e⟩) (fun _ _ e=>e) (fun _ _ _ e=>e) (fun b B e=>⟨#[],by rw[e];simp⟩) (fun m t=>?_) (fun b u e=>?_) I.bare
 ·have e:b=it:=by simpa using l
  subst e;exact⟨h,f,i,j⟩
 ·obtain⟨o,w,y,A,r⟩:=t;exact⟨o,w,y,k _ o (Ne.symm f) A,r⟩
 ·refine(I.Bb b u e).Gf (fun c v a q=>k c v ?_ q) (fun _ q=>q) fun _ _ q=>q;rcases a with z|z
  ·rw[z];exact d b u e
  ·exact d c _ z
theorem Inv.tok(I:Inv X pins σ H s)(t:Nat):Inv X pins σ H {s with toks:=t}:=I.un (h':=s.heap) (t':=t) Un.refl I.Bb
theorem Inv.kept{t':Nat}(I:Inv X pins σ H s)(k:∀b u,s.heap.get? b=some u->h'.get? b=some u):Inv X pins σ H {s with heap:=h',toks:=t'}:=I.un (Un.kept k) (I.Bb.kept k)
theorem Inv.laid{a:Addr}{o:HO}{t':Nat}(I:Inv X pins σ H s)(k:∀b u,s.heap.get? b=some u->h'.get? b=some u)(c:s.heap.objs.size<=a)(new:BJ X.prog X.w (upd H a o) h' a o):
  Inv X pins σ (upd H a o) {s with heap:=h',toks:=t'}:=I.un (Un.laid k c (I.Bb.fresh c)) (I.Bb.laid k c new)
theorem Inv.write{x e:Addr}{o:HO}{t':Nat}(I:Inv X pins σ H s)(c:fT (H x))(d:e=x∨H e=some (.own x))(k:∀b u,b≠e->s.heap.get? b=some u->h'.get? b=some u)(a:∃u,h'.get? e=some u)(new:BJ X.prog X.w (upd H x o) h' x o):Inv X pins σ (upd H x o) {s with heap:=h',toks:=t'}:=I.un (Un.write c d k a) (I.Bb.write c d k a new)
theorem Inv.SM{a:List (Addr×Obj)}(I:Inv X pins σ H s)(h:∀p∈a,s.heap.get? p.1=some p.2/\H p.1=none/\p.1≠X.env.locals/\p.1∉X.fs/\∀v,p.2.data≠.cell v):Inv X a σ H s:=
 ⟨I.ok,I.os,I.bare,I.base,I.loc,I.cell,I.free,I.DV,fun p b=>(List.mem_append.mp b).elim (fun z=>I.pin p (List.mem_append_left _ z)) (h p),I.Bb,I.len⟩
theorem Eu(c:N.Nodup){j:Nat}(a:N[i]?=some x)(b:N[j]?=some x):i=j:=by
 obtain⟨f,d⟩:=uy a;obtain⟨g,e⟩:=uy b;exact(List.getElem_inj c).mp (d.trans e.symm)
theorem Lq{Q:Unit->Shared->Prop}(I:Inv X pins σ H s)(hN:X.N.Nodup)(L:X.N[i]?=some x)(t:Loc X.env.scope x)(r:RelV v u)(h:∀s',Inv X pins (σ.set i (some v)) H s'->(∃a,Heap.SameBut a s.heap s'.heap/\(a=X.env.locals∨X.env.cells.lookup x=some a))->Q () s')(hf:X.fn x=true∨X.env.scope.names.lookup x=some .local:=by first|exact .inl rfl|exact .inr rfl|assumption):wpAny M A (storeName X.env x u) Q E s:=by
 obtain⟨m,Z,hl⟩:=id I.loc;have O:(X.env.scope.kind==.class||(X.env.scope.kind==.module&&X.env.locals !=X.env.globals))=false:=by rw[I.ok.kind];rfl
 have D:i<σ.length:=by rw[I.len];exact(uy L).1
 have Yf:=I.Yf;have tracked:∀{a:Addr}{h':Heap},(∃o,s.heap.get? a=some o/\H a=none)->Heap.SameBut a s.heap h'->Et X.prog X.w H h':=fun{a h'} ha f b ob e=>by
  obtain⟨_,_,B⟩:=ha;refine(I.Bb b ob e).Gf (fun c U l q=>(f.2 c ?_).trans q) (fun _ q=>q) fun _ _ q=>q;rintro rfl;rcases l with rfl|l
  ·rw[B]at e;cases e
  ·rw[B]at l;cases l
 rcases t with F|F
 ·refine wpAny_storeName_local F Z (fun h' qT f=>?_) O;obtain⟨oL,_,_,qU,_⟩:=id Z;refine h _ ⟨I.ok,I.os,I.bare,⟨fun b o e n G t=>?_,fun b o e n G t=>?_,I.base.free,fun b o e t=>?_,I.base.HR,I.base.Gm,I.base.IV⟩,⟨_,qT,fun j y v' g C e3=>?_⟩,fun y c e=>?_,I.free,I.DV,fun p hp=>?_,tracked ⟨oL,qU,I.free⟩ f,by simpa using I.len⟩ ⟨_,f,.inl rfl⟩
  ·exact(f.2 b (Nat.ne_of_lt (Nat.lt_of_lt_of_le (Heap.lt_size e) I.ok.above))).trans (I.base.keep b o e n G t)
  ·obtain⟨sl,g⟩:=I.base.slot b o e n G t;exact⟨sl,(f.2 b (Nat.ne_of_lt (Nat.lt_of_lt_of_le (Heap.lt_size e) I.ok.above))).trans g⟩
  ·obtain⟨o',g⟩:=I.base.there b o e t;exact⟨o',(f.2 b (Nat.ne_of_lt (Nat.lt_of_lt_of_le (Heap.lt_size e) I.ok.above))).trans g⟩
  ·by_cases J:j=i
   ·subst J;rw[L]at g;cases g;rw[List.getElem?_set_self D]at C;cases C;exact⟨u,r,.inl ⟨F,by simp⟩⟩
   ·rw[List.getElem?_set_ne (Ne.symm J)]at C;obtain⟨u',r',q⟩:=hl j y v' g C e3;refine⟨u',r',?_⟩;rcases q with⟨k,e⟩|⟨k,c,e,z⟩
    ·refine .inl ⟨k,?_⟩;have:y≠x:=fun e=>J (Eu hN g (e▸L));simp[this,e]
    ·exact .inr ⟨k,c,e,z.sameBut f (Yf y c e)⟩
  ·obtain⟨U,z⟩:=I.cell y c e;exact⟨U,z.sameBut f (Yf y c e)⟩
  ·obtain⟨e,n,W,nf,d⟩:=I.pin p hp;exact⟨(f.2 p.1 W).trans e,n,W,nf,d⟩
 ·have K:X.fn x=true:=by
   rcases hf with z|z
   ·exact z
   ·rw[z]at F;cases F
  obtain⟨c,l⟩:=I.ok.has x (.inl F);obtain⟨U,z⟩:=I.cell x c l;refine wpAny_storeName_cell I.ok.kind F l z (fun h' P f=>?_);obtain⟨oc,R,S⟩:=id z;refine h {s with heap:=h'} ⟨I.ok,I.os,I.bare,⟨fun b o e n G t=>?_,fun b o e n G t=>?_,I.base.free,fun b o e t=>?_,I.base.HR,I.base.Gm,I.base.IV⟩,⟨m,Z.sameBut f (Ne.symm (Yf x c l)),fun j y v' g C e3=>?_⟩,fun y Y e=>?_,I.free,I.DV,fun p hp=>?_,tracked ⟨oc,R,I.DV x c l⟩ f,by simpa using I.len⟩ ⟨c,f,.inr l⟩
  ·exact(f.2 b (Nat.ne_of_lt (Nat.lt_of_lt_of_le (Heap.lt_size e) (I.ok.eZ x c K l)))).trans (I.base.keep b o e n G t)
  ·obtain⟨sl,g⟩:=I.base.slot b o e n G t;exact⟨sl,(f.2 b (Nat.ne_of_lt (Nat.lt_of_lt_of_le (Heap.lt_size e) (I.ok.eZ x c K l)))).trans g⟩
  ·obtain⟨o',g⟩:=I.base.there b o e t;exact⟨o',(f.2 b (Nat.ne_of_lt (Nat.lt_of_lt_of_le (Heap.lt_size e) (I.ok.eZ x c K l)))).trans g⟩
  ·by_cases J:j=i
   ·subst J;rw[L]at g;cases g;rw[List.getElem?_set_self D]at C;cases C;exact⟨u,r,.inr ⟨.inl F,c,l,P⟩⟩
   ·rw[List.getElem?_set_ne (Ne.symm J)]at C;obtain⟨u',r',q⟩:=hl j y v' g C e3;refine⟨u',r',?_⟩;rcases q with q|⟨k,Y,e,z'⟩
    ·exact .inl q
    ·refine .inr ⟨k,Y,e,z'.sameBut f ?_⟩;rintro rfl;exact J (Eu hN g (I.ok.inj _ _ _ e l▸L))
  ·by_cases T:Y=c
   ·subst T;exact⟨_,P⟩
   ·obtain⟨w2,z2⟩:=I.cell y Y e;exact⟨w2,z2.sameBut f T⟩
  ·obtain⟨e,n,W,nf,d⟩:=I.pin p hp;refine⟨(f.2 p.1 ?_).trans e,n,W,nf,d⟩;intro q;rw[q,R]at e;have q':oc=p.2:=uz e;exact d U (by rw[<-q'];exact S)
theorem KA{Q:Unit->Shared->Prop}(I:Inv X pins σ H s)(a:X.N.Nodup)(b:X.N[i]?=some x)(c:Loc X.env.scope x)(r:RelV v u)(h:∀s',Inv X pins (σ.set i (some v)) H s'->Q () s')(d:X.fn x=true∨X.env.scope.names.lookup x=some .local:=by first|exact .inl rfl|exact .inr rfl|assumption):wpAny M A (storeName X.env x u) Q E s:=
 Lq I a b c r (fun s' e _=>h s' e) d
theorem Inv.SN(I:Inv X pins σ H s)(f:s'.os=s.os)(u:Un (OY X.stack) ch H H' s.heap s'.heap)(a:Et X.prog X.w H' s'.heap)(g:AllBare s'.gens)(d:∀b∈ch,(b∈X.ex∨X.s₀.heap.objs.size<=b)/\b≠X.env.locals/\(∀x c,X.env.cells.lookup x=some c->c≠b)/\∀p∈X.pn++pins,p.1≠b):Inv X pins σ H' s':=by
 obtain⟨h',g',d',t',h⟩:=s';have e:h=s.os:=f;subst e;exact I.call (g':=g') (t':=t') (d':=d') u a g d
end
abbrev XK:=Value->Option Addr->Hp->Prop
abbrev St:=List (Option V)
abbrev VK:=V->Hp->Prop
abbrev TE:=St->Hp->VK->Prop
abbrev TT:=St->Hp->(Bool->Hp->Prop)->Prop
abbrev TA:=St->Hp->(List V->Hp->Prop)->Prop
structure Ends where
 nx:St->Hp->Prop
 rt:VK
 bk:St->Hp->Prop:=fun _ _=>False
 ct:St->Hp->Prop:=fun _ _=>False
abbrev TS:=Ends->St->Hp->Prop
inductive oC(x:V)(H:Hp)(Q:Bool->Hp->Prop):Prop
 |mk(c:Bool)(e:x=.bl c)(q:Q c H)
inductive kK(a:TE)(σ:St)(x:V)(H:Hp)(Q:VK):Prop
 |mk(c:Bool)(e:x=.bl c)(q:if c=true then a σ H Q else Q (.bl false) H)
inductive qV(a:TE)(σ:St)(x:V)(H:Hp)(Q:VK):Prop
 |mk(c:Bool)(e:x=.bl c)(q:if c=true then Q (.bl true) H else a σ H Q)
inductive kL(x:V)(H:Hp)(Q:VK):Prop
 |mk(c:Bool)(e:x=.bl c)(q:Q (.bl (!c)) H)
inductive qW(x:V)(H:Hp)(Q:Option Int->Hp->Prop):Prop
 |mk(i:Int)(e:x=.int i)(q:Q (some i) H)
inductive EP(X:Cx)(pins:List (Addr×Obj))(σ:St)(Q:VK)(u:Value)(s':Shared):Prop
 |mk(v:V)(H':Hp)(I:Inv X pins σ H' s')(r:RelV v u)(q:Q v H')
inductive TP(X:Cx)(pins:List (Addr×Obj))(σ:St)(Q:Bool->Hp->Prop)(b:Bool)(s':Shared):Prop
 |mk(H':Hp)(I:Inv X pins σ H' s')(q:Q b H')
inductive AP(X:Cx)(pins:List (Addr×Obj))(σ:St)(Q:List V->Hp->Prop)(b:List Value)(s':Shared):Prop
 |mk(a:List V)(H':Hp)(I:Inv X pins σ H' s')(r:Vals a b)(q:Q a H')
variable{pins:List (Addr×Obj)}{σ:St}{X:Cx}{G:Prop}
theorem EP.elim{Q:VK}(h:EP X pins σ Q u s')(k:∀(v:V) (H':Hp),Inv X pins σ H' s'->RelV v u->Q v H'->G):G:=by
 cases h with
 |mk v H' I r q=>exact k v H' I r q
theorem AP.elim{Q:List V->Hp->Prop}{a:List Value}(h:AP X pins σ Q a s')(k:∀(b:List V) (H':Hp),Inv X pins σ H' s'->Vals b a->Q b H'->G):G:=by
 cases h with
 |mk v H' I r q=>exact k v H' I r q
theorem TP.elim{Q:Bool->Hp->Prop}{b:Bool}(h:TP X pins σ Q b s')(k:∀H':Hp,Inv X pins σ H' s'->Q b H'->G):G:=by
 cases h with
 |mk H' I q=>exact k H' I q
inductive kM(X:Cx)(pins:List (Addr×Obj))(N:St->Hp->Prop)(s':Shared):Prop
 |mk(σ:St)(H':Hp)(I:Inv X pins σ H' s')(q:N σ H')
inductive qX(X:Cx)(pins:List (Addr×Obj))(Q:VK)(u:Value)(s':Shared):Prop
 |mk(v:V)(σ:St)(H':Hp)(I:Inv X pins σ H' s')(r:RelV v u)(q:Q v H')
def SP(X:Cx)(pins:List (Addr×Obj))(D:Ends)(f:Flow)(s':Shared):Prop:=
 match f with
 | .next=>kM X pins D.nx s'
 | .brk=>kM X pins D.bk s'
 | .cont=>kM X pins D.ct s'
 | .ret u=>qX X pins D.rt u s'
def PE(X:Cx)(e:Expr)(t:TE):Prop:=
 ∀(pins:List (Addr×Obj))(s:Shared)(a:St)(H:Hp)(Q:VK),Inv X pins a H s->t a H Q->wpAny (model X.prog X.w) X.A (eval e X.env) (EP X pins a Q) X.xe s
def PT(X:Cx)(e:Expr)(t:TT):Prop:=
 ∀(pins:List (Addr×Obj))(s:Shared)(a:St)(H:Hp)(Q:Bool->Hp->Prop),Inv X pins a H s->t a H Q->wpAny (model X.prog X.w) X.A (isTrue e X.env (eval e X.env)) (TP X pins a Q) X.xe s
def PW(X:Cx)(e:Expr)(t:TT):Prop:=
 ∀(whole:Sem Value)(pins:List (Addr×Obj))(s:Shared)(a:St)(H:Hp)(Q:Bool->Hp->Prop),Inv X pins a H s->t a H Q->wpAny (model X.prog X.w) X.A (isTrue e X.env whole) (TP X pins a Q) X.xe s
variable{e:Expr}
theorem PW.pt{t:TT}(h:PW X e t):PT X e t:=h _
def PA(X:Cx)(b:List Expr)(t:TA):Prop:=
 ∀(pos:Pos)(pins:List (Addr×Obj))(s:Shared)(a:St)(H:Hp)(Q:List V->Hp->Prop),Inv X pins a H s->t a H Q->wpAny (model X.prog X.w) X.A (spliced (backTo pos (starEach b X.env))) (AP X pins a Q) X.xe s
def PS(X:Cx)(st:Stmt)(t:TS):Prop:=
 ∀(pins:List (Addr×Obj))(s:Shared)(a:St)(H:Hp)(D:Ends),Inv X pins a H s->t D a H->wpAny (model X.prog X.w) X.A (exec st X.env) (SP X pins D) X.xe s
def Lr(X:Cx)(st:List Stmt)(t:TS):Prop:=
 ∀(pins:List (Addr×Obj))(s:Shared)(a:St)(H:Hp)(D:Ends),Inv X pins a H s->t D a H->wpAny (model X.prog X.w) X.A (execs st X.env) (SP X pins D) X.xe s
variable{s:Shared}
theorem Bl{b:Type}{t:Sem b}{Q c:b->Shared->Prop}(h:wpAny M A t Q E s)(d:∀a s,Q a s->c a s):wpAny M A t c E s:=wpAny_mono h d fun _ _ x=>x
variable{Q:Value->Shared->Prop}{pos:Pos}{t:TE}
section
variable{X:Cx}
inductive fX(i:Nat)(σ:St)(H:Hp)(Q:VK):Prop
 |mk(v:_)(a:σ[i]?=some (some v))(b:Q v H)
def bc(i:Nat):TE:=fun a H Q=>fX i a H Q
def tC(v:V):TE:=fun _ H Q=>Q v H
theorem bf(j:X.N[i]?=some x)(k:fU X.env.scope x)(d:(x==("__debug__":Str))=false:=by decide)(f:(x==("__classdict__":Str))=false:=by decide):PE X (.Name x pos) (bc i):=by
 intro pins s n H Q I h;obtain⟨v,e,h⟩:=h;obtain⟨m,o,p⟩:=I.loc;obtain⟨u,r,l⟩:=p i x v j e k;have fin:EP X pins n Q u s:=⟨v,H,I,r,h⟩;rcases l with⟨b,q⟩|⟨b,c,g,a⟩
 ·exact wpAny_Name (wpAny_loadName_local I.ok.kind b o q fin) d
 ·rcases b with b|b
  ·exact wpAny_Name (wpAny_loadName_cell I.ok.kind b g a fin) d
  ·exact wpAny_Name (wpAny_loadName_free I.ok.kind b g a fin f) d
theorem AG{i j pos}:PE X (.Constant (.int i) j pos) (tC (.int i)):=fun _ _ _ H _ I h=>wpAny_Constant_int ⟨.int i,H,I.tok _,⟨_,rfl⟩,h⟩
theorem Cz{b j pos}:PE X (.Constant (.bool b) j pos) (tC (.bl b)):=fun _ _ _ H _ I h=>Constant_bool ⟨.bl b,H,I,rfl,h⟩
theorem BA{j pos}:PE X (.Constant .none j pos) (tC .As):=fun _ _ _ H _ I h=>Constant_none ⟨.As,H,I,rfl,h⟩
theorem AQ{x j pos}:PE X (.Constant (.str x) j pos) (tC (.str x)):=fun _ _ _ H _ I h=>Calls.Constant_str ⟨.str x,H,I.tok _,⟨_,rfl⟩,h⟩
def Gl(X:Cx)(x:Str):Prop:=X.env.kindOf x=some .globalImplicit
theorem HU(I:Inv X pins σ H s)(a:Gl X x)(b:X.mg x=some u)(h:Q u s)(c:(x==("__debug__":Str))=false:=by decide):wpAny (model X.prog X.w) X.A (eval (.Name x pos) X.env) Q E s:=
 Calls.Name_function_global I.ok.kind a (Calls.loadGlobal_global (by rw[I.ok.glob];exact I.mod.glob.keeps I.bk) b h) c
theorem Gn(I:Inv X pins σ H s)(a:Gl X x)(b:X.mg x=none)(c:bootBuiltins x=some u)(h:Q u s)(d:x≠"__name__":=by decide)(e:(x==("__debug__":Str))=false:=by decide):wpAny (model X.prog X.w) X.A (eval (.Name x pos) X.env) Q E s:=by
 obtain⟨i,f,g⟩:=I.mod.blt;exact Calls.Name_function_global I.ok.kind a (Calls.loadGlobal_builtin (by rw[I.ok.glob];exact I.mod.glob.keeps I.bk) b (by rw[I.ok.blt];exact f.keeps I.bk) ((g x d).trans c) h) e
theorem Dx(a:Gl X x)(b:X.mg x=some u)(r:RelV v u)(c:(x==("__debug__":Str))=false:=by decide):PE X (.Name x pos) (tC v):=
 fun _ _ _ H _ I h=>HU I a b ⟨v,H,I,r,h⟩ c
theorem BG(a:Gl X x)(b:X.mg x=none)(c:bootBuiltins x=some u)(r:RelV v u)(d:x≠"__name__":=by decide)(e:(x==("__debug__":Str))=false:=by decide):PE X (.Name x pos) (tC v):=
 fun _ _ _ H _ I h=>Gn I a b c ⟨v,H,I,r,h⟩ d e
variable{a b:Expr} {ta tb:TE} {pos:Pos}
def PC(X:Cx)(f:CmpOp)(a b:Expr)(t:TE):Prop:=
 ∀(pins:List (Addr×Obj))(s:Shared)(e:St)(H:Hp)(Q:VK),Inv X pins e H s->t e H Q->
  wpAny (model X.prog X.w) X.A (eval a X.env) (fun v c=>wpAny (model X.prog X.w) X.A (eval b X.env) (fun u d=>wpAny (model X.prog X.w) X.A (compareOp f v u) (EP X pins e Q) X.xe d) X.xe c) X.xe s
def tB(t:TE):TT:=fun c H Q=>t c H fun x d=>oC x d Q
theorem QZ{f:CmpOp}(h:PC X f a b t)(g:behindInMarks f b=false:=by first|exact e _ (by decide) (by decide)|rfl):PT X (.Compare a [f] [b] pos) (tB t):=by
 intro pins s i H Q I hw;refine wpAny_isTrue_Compare1 (Bl (h pins s i H _ I hw) fun v p g=>Bl g fun u r j=>Bl j fun c w k=>k.elim fun x l m n o=>?_) g;obtain⟨d,rfl,q⟩:=o;cases n;exact wpAny_truthy_bool ⟨l,m,q⟩
theorem Ag(h:PE X e t)(c:∀whole,isTrue e X.env whole=(do let v<-whole;standAt e.pos;holding [v] (truthy v)):=by intro _;rfl):PT X e (tB t):=by
 intro pins s f H Q I hw;refine isTrue_plain (Bl (h pins s f H _ I hw) fun v m g=>g.elim fun x i j k l=>?_) (c _);obtain⟨d,rfl,q⟩:=l;cases k;exact wpAny_truthy_bool ⟨i,j,q⟩
variable{tA jW:TT} {rest:List Expr}
def kN(t u:TT):TT:=fun d H Q=>t d H fun c e=>if c=true then u d e Q else Q false e
def qY(t u:TT):TT:=fun d H Q=>t d H fun c e=>if c=true then Q true e else u d e Q
def kO(t:TT):TT:=fun d H Q=>t d H fun c e=>Q (!c) e
theorem pw_and1(d:PT X a tA):PW X (.BoolOp .And [a] pos) tA:=by
 intro g pins s f H Q I h;refine isTrue_and (Bl (d pins s f H Q I h) fun c i e=>?_);cases c with
 |true=>exact isTrue_and_nil e
 |false=>exact e
theorem pw_or1(d:PT X a tA):PW X (.BoolOp .Or [a] pos) tA:=by
 intro g pins s f H Q I h;refine isTrue_or (Bl (d pins s f H Q I h) fun c i e=>?_);cases c with
 |false=>exact isTrue_or_nil e
 |true=>exact e
theorem pw_and(i:PT X a tA)(j:PW X (.BoolOp .And (b::rest) pos) jW):PW X (.BoolOp .And (a::b::rest) pos) (kN tA jW):=by
 intro k pins s d H Q I h;refine isTrue_and (Bl (i pins s d H _ I h) fun c l m=>m.elim fun e f g=>?_);cases c with
 |true=>exact j k pins l d e Q f g
 |false=>exact⟨e,f,g⟩
theorem pw_or(i:PT X a tA)(j:PW X (.BoolOp .Or (b::rest) pos) jW):PW X (.BoolOp .Or (a::b::rest) pos) (qY tA jW):=by
 intro k pins s d H Q I h;refine isTrue_or (Bl (i pins s d H _ I h) fun c l m=>m.elim fun e f g=>?_);cases c with
 |true=>exact⟨e,f,g⟩
 |false=>exact j k pins l d e Q f g
theorem EE(e:PT X a tA):PT X (.UnaryOp .Not a pos) (kO tA):=by
 intro pins s f H Q I h;exact isTrue_not (Bl (e pins s f H (fun c d=>Q (!c) d) I h) fun c k g=>g.elim fun d i j=>⟨d,i,j⟩)
def fY(ta tb:TE):TE:=fun c H Q=>ta c H fun x d=>kK tb c x d Q
def kP(ta tb:TE):TE:=fun c H Q=>ta c H fun x d=>qV tb c x d Q
def fZ(ta:TE):TE:=fun c H Q=>ta c H fun x d=>kL x d Q
theorem DY{c}(h:PE X a t):PE X (.BoolOp c [a] pos) t:=fun pins s d H Q I hw=>BoolOp_one (h pins s d H Q I hw)
theorem Ci(i:PE X a ta)(j:PE X (.BoolOp .And (b::rest) pos) tb):PE X (.BoolOp .And (a::b::rest) pos) (fY ta tb):=by
 intro pins s e H Q I h;refine BoolOp_and (Bl (i pins s e H _ I h) fun v k l=>l.elim fun x f g m d=>?_);obtain⟨c,rfl,d⟩:=d;cases m;refine wpAny_truthy_bool ?_;cases c with
 |true=>exact j pins k e f Q g d
 |false=>exact⟨.bl false,f,g,rfl,d⟩
theorem fb(i:PE X a ta)(j:PE X (.BoolOp .Or (b::rest) pos) tb):PE X (.BoolOp .Or (a::b::rest) pos) (kP ta tb):=by
 intro pins s e H Q I h;refine BoolOp_or (Bl (i pins s e H _ I h) fun v k l=>l.elim fun x f g m d=>?_);obtain⟨c,rfl,d⟩:=d;cases m;refine wpAny_truthy_bool ?_;cases c with
 |false=>exact j pins k e f Q g d
 |true=>exact⟨.bl true,f,g,rfl,d⟩
theorem Qa(e:PE X a ta):PE X (.UnaryOp .Not a pos) (fZ ta):=by
 intro pins s f H Q I h;refine UnaryOp_ (Bl (e pins s f H _ I h) fun v l g=>g.elim fun x i j k d=>?_);obtain⟨c,rfl,d⟩:=d;cases k;exact not_of (wpAny_truthy_bool ⟨.bl (!c),i,j,rfl,d⟩)
def qZ(t:TT)(ta tb:TE):TE:=fun d H Q=>t d H fun c e=>if c=true then ta d e Q else tb d e Q
theorem KC{c:Expr}(k:PT X c tA)(l:PE X a ta)(m:PE X b tb):PE X (.IfExp c a b pos) (qZ tA ta tb):=by
 intro pins s e H Q I h;refine wpAny_IfExp (Bl (k pins s e H _ I h) fun d f n=>n.elim fun g i j=>?_);cases d with
 |true=>exact l pins f e g Q i j
 |false=>exact m pins f e g Q i j
end
def Ay(K:vA)(H:Hp)(a:Addr)(xs:List V):Prop:=
 Rd H a (.lst xs)∨
  ∃(o:Obj)(b:Array Value)(n:Nat),K.lookup a=some o/\o.cls=.type "list"/\o.dict=none/\o.data=.seq b n/\b.size<=sizeLine/\Vals xs b.toList
def Ah(K:vA)(H:Hp)(a:Addr)(xs:List V):Prop:=
 Rd H a (.tup xs)∨
  ∃(o:Obj)(b:Array Value)(n:Nat),K.lookup a=some o/\o.cls=.type "tuple"/\o.data=.seq b n/\b.size<=sizeLine/\Vals xs b.toList
noncomputable def kQ:Value->Option V
 | .none=>some .As
 | .bool b=>some (.bl b)
 | .int i _=>some (.int i)
 | .str x _=>some (.str x)
 | .bytes b _=>some (.Tn b)
 | .float b _=>some (.eY b)
 | .ref a=>some (.ref a)
 | .type n=>some (.ty n)
 |_=>none
theorem RelV.abs{x:V}(r:RelV x u):kQ u=some x:=by
 cases x with
 |As=>cases r;rfl
 |bl _=>cases r;rfl
 |int _=>obtain⟨t,rfl⟩:=r;rfl
 |str _=>obtain⟨t,rfl⟩:=r;rfl
 |Tn _=>obtain⟨t,rfl⟩:=r;rfl
 |eY _=>obtain⟨t,rfl⟩:=r;rfl
 |ref _=>cases r;rfl
 |ty _=>cases r;rfl
theorem RelV.inj{x y:V}(r:RelV x u)(q:RelV y u):x=y:=uz (r.abs.symm.trans q.abs)
theorem Vals.inj{xs ys:List V}{b:List Value}(r:Vals xs b)(s:Vals ys b):xs=ys:=by
 induction r generalizing ys with
 |nil=>exact(List.eq_nil_of_length_eq_zero (Paired.length s)).symm
 |cons a _ c=>
  cases ys with
  |nil=>exact absurd (Paired.length s) (Nat.succ_ne_zero _).symm
  |cons y g=>
   obtain⟨u,i,e,h,t⟩:=Vals.inv s;injection e with d f;subst d f;rw[a.inj h,c t]
variable{K:vA}
section
variable{X:Cx} {pins:List (Addr×Obj)} {σ:St} {H:Hp} {s:Shared} {a:Addr} {xs ys:List V}
theorem Ay.of(h:H a=some (.lst xs)):Ay K H a xs:=.inl (.inl h)
theorem Ah.of(h:H a=some (.tup xs)):Ah K H a xs:=.inl (.inl h)
theorem Inv.list(I:Inv X pins σ H s)(h:Ay X.K H a xs):∃its:List Value,Vals xs its/\PlainL s.heap a its.toArray/\xs.length<=sizeLine:=by
 rcases h with h|⟨o,its,n,b,c,d,f,g,r⟩
 ·obtain⟨z,its,n,r,e⟩:=h.ok I.Bb;exact⟨its,r,⟨_,n,e,rfl,rfl,rfl⟩,z⟩
 ·refine⟨its.toList,r,⟨o,n,I.Fl a o b,c,d,by simpa using f⟩,?_⟩;have e:=r.length;simp only[Array.length_toList]at e;lia
theorem Inv.tuple(I:Inv X pins σ H s)(h:Ah X.K H a xs):∃its:List Value,Vals xs its/\IsTup s.heap a its.toArray/\xs.length<=sizeLine:=by
 rcases h with h|⟨o,its,n,b,c,d,f,r⟩
 ·obtain⟨z,its,r,p⟩:=h.ok I.Bb;exact⟨its,r,p,z⟩
 ·refine⟨its.toList,r,⟨o,I.Fl a o b,c,n,by simpa using d⟩,?_⟩;have e:=r.length;simp only[Array.length_toList]at e;lia
theorem Inv.VU(I:Inv X pins σ H s)(h:Ay X.K H a xs)(h':Ay X.K H a ys):xs=ys:=by
 obtain⟨c,r,⟨o,n,e,_,_,d⟩,_⟩:=I.list h;obtain⟨b,i,⟨k,l,f,_,_,g⟩,_⟩:=I.list h';rw[e]at f;cases f;rw[d]at g;injection g with j _;have:c=b:=by simpa using congrArg Array.toList j
 subst this;exact r.inj i
theorem Inv.Ls(I:Inv X pins σ H s)(h:Ah X.K H a xs)(h':Ah X.K H a ys):xs=ys:=by
 obtain⟨c,r,⟨o,e,_,n,d⟩,_⟩:=I.tuple h;obtain⟨b,i,⟨k,f,_,l,g⟩,_⟩:=I.tuple h';rw[e]at f;cases f;rw[d]at g;injection g with j _;have:c=b:=by simpa using congrArg Array.toList j
 subst this;exact r.inj i
end
abbrev Cx.KD(X:Cx)(E:Value->Shared->Prop):Cx:={X with xe:=E}
abbrev Cx.eg(X:Cx):Cx:=X.KD fun _ _=>False
theorem Cx.Ok.KD(ok:X.Ok)(E:Value->Shared->Prop):(X.KD E).Ok:=
 ⟨ok.mod,ok.kind,ok.glob,ok.blt,ok.above,ok.inj,ok.has,ok.eZ,ok.hd,ok.frames,ok.fV,ok.bb,ok.bs,ok.VP,ok.QX,ok.QY,ok.IW,ok.aj⟩
theorem Cx.Ok.FO(ok:(X.KD E).Ok):X.Ok:=
 ⟨ok.mod,ok.kind,ok.glob,ok.blt,ok.above,ok.inj,ok.has,ok.eZ,ok.hd,ok.frames,ok.fV,ok.bb,ok.bs,ok.VP,ok.QX,ok.QY,ok.IW,ok.aj⟩
section
variable{X:Cx} {pins:List (Addr×Obj)} {σ:St} {H:Hp} {s:Shared} {E:Value->Shared->Prop}
theorem Inv.KD(I:Inv X pins σ H s)(E:Value->Shared->Prop):Inv (X.KD E) pins σ H s:=⟨I.ok.KD E,I.os,I.bare,I.base,I.loc,I.cell,I.free,I.DV,I.pin,I.Bb,I.len⟩
theorem Inv.FO(I:Inv (X.KD E) pins σ H s):Inv X pins σ H s:=⟨I.ok.FO,I.os,I.bare,I.base,I.loc,I.cell,I.free,I.DV,I.pin,I.Bb,I.len⟩
theorem SP.FO{D:Ends}{f:Flow}{s':Shared}(h:SP (X.KD E) pins D f s'):SP X pins D f s':=by
 cases f with
 |next=>obtain⟨a,b,I,q⟩:=h;exact⟨a,b,I.FO,q⟩
 |brk=>obtain⟨a,b,I,q⟩:=h;exact⟨a,b,I.FO,q⟩
 |cont=>obtain⟨a,b,I,q⟩:=h;exact⟨a,b,I.FO,q⟩
 |ret u=>obtain⟨v,a,b,I,r,q⟩:=h;exact⟨v,a,b,I.FO,r,q⟩
theorem Lr.eg{st:List Stmt}{t:TS}(h:Lr X.eg st t):Lr X st t:=fun pins s σ H D I hw=>
 wpAny_mono (h pins s σ H D (I.KD _) hw) (fun _ _ q=>q.FO) fun _ _ z=>False.elim z
end
section
variable{X:Cx} {st:Stmt} {rest:List Stmt} {t u:TS} {e:Expr} {te:TE} {pos:Pos}
def Lu:TS:=fun D a H=>D.nx a H
def VW(t u:TS):TS:=fun D a H=>t {D with nx:=u D} a H
theorem AK:Lr X [] Lu:=fun _ _ a H _ I h=>wpAny_execs_nil ⟨a,H,I,h⟩
theorem AD(b:PS X st t)(c:Lr X rest u):Lr X (st::rest) (VW t u):=by
 intro pins s d H D I h;refine wpAny_execs_cons (Bl (b pins s d H {D with nx:=u D} I h) fun f g q=>?_);cases f with
 |next=>
  obtain⟨a,i,j,q⟩:=q;exact c pins g a i D j q
 |ret v=>exact q
 |brk=>exact q
 |cont=>exact q
theorem AE(a:PS X st t):Lr X [st] t:=by
 intro pins s b H D I h;refine wpAny_execs_cons (Bl (a pins s b H D I h) fun f c q=>?_);cases f with
 |next=>exact wpAny_execs_nil q
 |ret v=>exact q
 |brk=>exact q
 |cont=>exact q
theorem Inv.quiet(I:Inv X pins σ H s):interactive X.env=false:=by simp[interactive,I.ok.kind]
def fe(te:TE):TS:=fun D a H=>te a H fun _ b=>D.nx a b
theorem CK(b:PE X e te)(c:swapsWith e none pos.line X.env=pure false:=by rfl):PS X (.Expr e pos) (fe te):=by
 intro pins s a H D I h;exact wpAny_Expr_any (Bl (b pins s a H _ I h) fun v j d=>d.elim fun x f g k i=>⟨a,f,g,i⟩) I.quiet c
def kR(te:TE):TS:=fun D a H=>te a H D.rt
theorem AH(b:PE X e te):PS X (.Return (some e) pos) (kR te):=by
 intro pins s a H D I h;exact wpAny_Return_some (Bl (b pins s a H _ I h) fun v j c=>c.elim fun x d f g i=>⟨x,a,d,f,g,i⟩)
def KG(c:TT)(t u:TS):TS:=fun D a H=>c a H fun b d=>if b=true then t D a d else u D a d
theorem AX{c:Expr}{a b:List Stmt}{g:TT}(m:PT X c g)(n:Lr X a t)(o:Lr X b u):PS X (.If c a b pos) (KG g t u):=by
 intro pins s f H D I h;refine wpAny_If (Bl (m pins s f H _ I h) fun d i p=>p.elim fun j k l=>?_);cases d with
 |true=>exact n pins i f j D k l
 |false=>exact o pins i f j D k l
end
abbrev TG:=V->St->Hp->(St->Hp->Prop)->Prop
abbrev Yg:=List V->St->Hp->(St->Hp->Prop)->Prop
def PG(X:Cx)(target:Expr)(t:TG):Prop:=
 ∀(pins:List (Addr×Obj))(s:Shared)(b:St)(H:Hp)(v:V)(u:Value)(Q:St->Hp->Prop),Inv X pins b H s->RelV v u->t v b H Q->
  wpAny (model X.prog X.w) X.A (assign target X.env u) (fun _ d=>∃a c,Inv X pins a c d/\Q a c) X.xe s
def jX(X:Cx)(f:List Expr)(t:Yg):Prop:=
 ∀(pins:List (Addr×Obj))(s:Shared)(b:St)(H:Hp)(c:List V)(d:List Value)(Q:St->Hp->Prop),Inv X pins b H s->Vals c d->t c b H Q->
  wpAny (model X.prog X.w) X.A (assignInOrder ((assignEach f X.env).map (·.2)) d) (fun _ g=>∃a e,Inv X pins a e g/\Q a e) X.xe s
abbrev bg:=V->V->V->Hp->(Hp->Prop)->Prop
def fg(X:Cx)(t:bg):Prop:=
 ∀(pins:List (Addr×Obj))(s:Shared)(a:St)(H:Hp)(o i v:V)(ov b u:Value)(Q:Hp->Prop),Inv X pins a H s->RelV o ov->RelV i b->RelV v u->t o i v H Q->
  wpAny (model X.prog X.w) X.A (setItem ov b u) (fun _ d=>∃c,Inv X pins a c d/\Q c) X.xe s
variable{n:Nat}
section
variable{X:Cx} {pos:Pos}
def Bm(i:Nat):TG:=fun v a H Q=>Q (a.set i (some v)) H
theorem FP(a:X.N.Nodup)(b:X.N[i]?=some x)(c:Loc X.env.scope x)(d:X.fn x=true∨X.env.scope.names.lookup x=some .local:=by first|exact .inl rfl|exact .inr rfl|assumption):PG X (.Name x pos) (Bm i):=by
 intro pins s f H v u Q I r h;exact wpAny_assign_Name (KA I a b c r (fun g e=>⟨_,H,e,h⟩) d)
def fh:Yg:=fun a b H Q=>a=[]/\Q b H
inductive bh(t:TG)(u:Yg)(b:List V)(σ:St)(H:Hp)(Q:(St->Hp->Prop)):Prop
 |mk(v r:_)(c:b=v::r)(d:t v σ H fun a H'=>u r a H' Q)
def VX(t:TG)(u:Yg):Yg:=fun a b H Q=>bh t u a b H Q
theorem Jn:jX X [] fh:=by
 intro pins s a H b c Q I r h;obtain⟨e,h⟩:=h;subst e;cases r;exact assignInOrder_nil ⟨a,H,I,h⟩
theorem Dz{a:List Expr}{t:TG}{u:Yg}(c:PG X e t)(d:jX X a u)(f:(assignEach (e::a) X.env).map (·.2)=assign e X.env::(assignEach a X.env).map (·.2):=by rfl):jX X (e::a) (VX t u):=by
 intro pins s g H o p Q I r h;obtain⟨v,q,i,h⟩:=h;subst i;cases r with
 |cons r j=>
  rw[f];refine assignInOrder_cons (Bl (c pins s g H _ _ _ I r h) fun _ k ⟨b,l,m,n⟩=>?_);exact d pins k b l _ _ Q m j n
inductive fj(K:vA)(n:Nat)(t:Yg)(v:V)(σ:St)(H:Hp)(Q:(St->Hp->Prop)):Prop
 |mk(a xs:_)(b:v=.ref a)(c:Ah K H a xs)(d:xs.length=n)(e:t xs σ H Q)
def fm(K:vA)(n:Nat)(t:Yg):TG:=fun v a H Q=>fj K n t v a H Q
theorem M'{c:List Expr}{k:Nat}{t:Yg}(i:X.calm=true)(h:jX X c t)(j:(assignEach c X.env).length=n:=by rfl)(d:(assignEach c X.env).findIdx? (·.1)=none:=by rfl):PG X (.Tuple c k pos) (fm X.K n t):=by
 intro pins s f H v u Q I r hw;obtain⟨a,l,m,p,q,hw⟩:=hw;subst m;cases r;obtain⟨w,g,x,B⟩:=I.tuple p;refine assign_Tuple_tuple (I.ok.hd i) x (by simp[j,<-q,g.length]) d fun y z=>?_;have A:Inv X pins f H {s with heap:=y}:=I.kept (t':=s.toks) fun b o e=>z b o (Nat.ne_of_lt (Heap.lt_size e)) e;exact h pins _ f H l _ Q A (by simpa using g) hw
def kS(b c:TE)(t:bg):TG:=fun v a H Q=>b a H fun o d=>c a d fun i e=>t o i v e fun f=>Q a f
theorem VY{o i:Expr}{d e:TE}{t:bg}(f:PE X o d)(g:PE X i e)(j:fg X t)(k:∀v,assign (.Subscript o i pos) X.env v=(do
   let ov<-holding [v] (eval o X.env)
   let a<-holding [v,ov] (eval i X.env)
   standAt pos
   holding [v,ov,a] (setItem ov a v)
   release [v,ov,a] []):=by intro _;rfl):PG X (.Subscript o i pos) (kS d e t):=by
 intro pins s b H v u Q I r h;rw[k];refine wpAny_bind (wpAny_holding (Bl (f pins s b H _ I h) fun ov l c=>c.elim fun x m n p q=>?_));refine wpAny_bind (wpAny_holding (Bl (g pins l b m _ n q) fun a w c=>c.elim fun y z A B C=>?_));refine wpAny_bind (wpAny_standAt (wpAny_bind (wpAny_holding (Bl (j pins w b z x y v ov a u _ A p B r C) fun _ G ⟨D,E,F⟩=>?_))));exact wpAny_release ⟨b,D,E,F⟩
def bj(b:TE)(g:TG):TS:=fun D a H=>b a H fun x c=>g x a c D.nx
theorem NA{a:Expr}{c:TE}{g:TG}(f:PE X e c)(i:PG X a g)(j:swapsWithSole [a] e pos.line X.env=pure false:=by rfl)(hw:swappedStores [a] e X.env=pure none:=by rfl)(k:(assignEach [a] X.env).map (·.2)=[assign a X.env]:=by rfl):PS X (.Assign [a] e pos) (bj c g):=by
 intro pins s d H D I h;refine wpAny_Assign_stores (Bl (f pins s d H _ I h) fun v l m=>m.elim fun x n o p q=>?_) j hw;rw[k];exact Bl (i pins l d n x v _ o p q) fun _ w ⟨b,r,t,u⟩=>⟨b,r,t,u⟩
theorem IX{i:Nat}{x:Str}{e:Expr}{a:TE}{pos':Pos}(b:X.N.Nodup)(c:X.N[i]?=some x)(d:Loc X.env.scope x)(f:PE X e a)(g:swapsWith e (some (.Name x pos')) pos.line X.env=pure false:=by rfl)(j:X.fn x=true∨X.env.scope.names.lookup x=some .local:=by first|exact .inl rfl|exact .inr rfl|assumption):
  PS X (.Assign [.Name x pos'] e pos) (bj a (Bm i)):=by
 intro pins s k H D I h;refine wpAny_Assign_Name (Bl (f pins s k H _ I h) fun v r l=>l.elim fun y m n o p=>?_) g;exact KA n b c d o (fun t q=>⟨_,m,q,p⟩) j
end
variable{body:List Stmt}
section
variable{X:Cx} {pos:Pos}
inductive Yh(c:TT)(f:TS)(D:Ends)(σ:St)(H:Hp):Prop
 |mk(W:Nat->St->Hp->Prop)(g:(∃m,W m σ H))(h:∀m σ H,W m σ H->c σ H fun b d=>if b=true then∃N:St->Hp->Prop,(∀a H',N a H'->∃e,e<m/\W e a H')/\f {D with nx:=N,ct:=N,bk:=D.nx} σ d else D.nx σ d)
def VZ(c:TT)(a:TS):TS:=fun D b H=>Yh c a D b H
theorem Va{c:Expr}{q:TT}{r:TS}(t:PassesOwn (model X.prog X.w) X.A X.env X.xe)(C:PT X c q)(E:Lr X body r):PS X (.While c body [] pos) (VZ q r):=by
 intro pins s F H D I h;obtain⟨W,⟨G,J⟩,turn⟩:=h;refine wpAny_While (codeAny_whileLoop (fun n K=>∃e u,Inv X pins e u K/\W n e u) ?_ G ⟨F,H,I,J⟩);rintro n L ⟨d,x,M,O⟩;refine wpAny_passesOwn t (Bl (C pins L d x _ M (turn n d x O)) fun b P Q=>Q.elim fun y z i=>?_);cases b with
 |true=>
  obtain⟨N,B,i⟩:=i;rw[if_pos rfl];refine wpAny_passesOwn t (Bl (E pins P d y _ z i) fun f R j=>?_);cases f with
  |next=>
   obtain⟨a,g,k,l⟩:=j;obtain⟨m,o,p⟩:=B a g l;exact⟨m,o,a,g,k,p⟩
  |cont=>
   obtain⟨a,g,k,l⟩:=j;obtain⟨m,o,p⟩:=B a g l;exact⟨m,o,a,g,k,p⟩
  |brk=>exact j
  |ret v=>exact j
 |false=>
  rw[if_neg Bool.false_ne_true];exact wpAny_execs_nil ⟨d,y,z,i⟩
end
structure It where
 go:Nat->Hp->Prop
 Vb:Nat->Hp->V->Hp->Prop
 stop:Nat->Hp->Prop
def El(X:Cx)(pins:List (Addr×Obj))(H:Hp)(b:Addr):Prop:=
 H b=none/\b≠X.env.locals/\b∉X.fs/\(b∈X.ex∨X.s₀.heap.objs.size<=b)/\(∀x c,X.env.cells.lookup x=some c->c≠b)/\∀p∈X.pn++pins,p.1≠b
theorem Inv.Qb{H':Hp}(I:Inv X pins σ H s)(a:s.heap.objs.size<=b)(d:H' b=none):El X pins H' b:=by
 refine⟨d,Nat.ne_of_gt (Nat.lt_of_lt_of_le I.lt a),I.kJ a,.inr (Nat.le_trans I.sz a),fun x c e z=>?_,fun p f z=>?_⟩
 ·obtain⟨v,q⟩:=I.cell x c e;exact absurd (Nat.lt_of_lt_of_le q.lt (by rw[z];exact a)) (Nat.lt_irrefl _)
 ·exact absurd (Nat.lt_of_lt_of_le (Heap.lt_size (I.pin p f).1) (by rw[z];exact a)) (Nat.lt_irrefl _)
structure Turn(P:Program)(w:World)(K:vA)(tg:Expr)(J:It)(fp:List Addr)(it:Addr)(tn:Nat->Heap->Prop):Prop where
 mem:it∈fp
 obj:∀i h,tn i h->∀b∈fp,∃o,h.get? b=some o/\∀v,o.data≠.cell v
 keep:∀i h h',tn i h->(∀b∈fp,∀o,h.get? b=some o->h'.get? b=some o)->tn i h'
 item:∀(X:Cx),X.prog=P->X.w=w->X.K=K->X.calm=true->∀(i:Nat)(pins:List (Addr×Obj))(s:Shared)(σ:St)(H:Hp)(E:Value->Shared->Prop),Inv X pins σ H s->(∀b∈fp,El X pins H b)->tn i s.heap->J.go i H->
  wpAny (model P w) X.A (pyNext (.ref it)) (fun r s1=>∃u,r=some u/\
   wpAny (model P w) X.A (letOwnedTupleGo tg (.ref it) u) (fun _ s2=>∃x H',Inv X pins σ H' s2/\RelV x u/\J.Vb i H x H'/\tn (i+1) s2.heap/\∀b∈fp,H' b=none) E s1) E s
 done:∀(X:Cx),X.prog=P->X.w=w->X.K=K->X.calm=true->∀(i:Nat)(pins:List (Addr×Obj))(s:Shared)(σ:St)(H:Hp)(E:Value->Shared->Prop),Inv X pins σ H s->(∀b∈fp,El X pins H b)->tn i s.heap->J.stop i H->
  wpAny (model P w) X.A (pyNext (.ref it)) (fun r s1=>r=none/\Inv X pins σ H s1) E s
 self:∀(A:Around)(i:Nat)(s:Shared)(Q:Value->Shared->Prop)(E:Value->Shared->Prop),tn i s.heap->Q (.ref it) s->wpAny (model P w) A (pyIter (.ref it)) Q E s
abbrev TI:=St->Hp->(It->Hp->Prop)->Prop
inductive oD(X:Cx)(pins:List (Addr×Obj))(σ:St)(h:Expr)(R:It->Hp->Prop)(a:Value)(c:Shared):Prop
 |mk(it:Addr)(d:List Addr)(g:Nat->Heap->Prop)(J:It)(H':Hp)(e:a=.ref it)(I:Inv X pins σ H' c)(t:Turn X.prog X.w X.K h J d it g)(z:g 0 c.heap)(f:∀b∈d,El X pins H' b)(q:R J H')
def PI(X:Cx)(b iter:Expr)(c:TI):Prop:=
 ∀(pins:List (Addr×Obj))(s:Shared)(a:St)(H:Hp)(R:It->Hp->Prop),Inv X pins a H s->c a H R->
  wpAny (model X.prog X.w) X.A (eval iter X.env) (fun v d=>wpAny (model X.prog X.w) X.A (pyIter v) (oD X pins a b R) X.xe d) X.xe s
theorem SO{b:Expr}{n:String}{c:Array Value}{Q:Unit->Shared->Prop}(d:s.heap.get? it=some o)(e:o.cls=.type n)(f:o.data=.fields c)(g:["enumerate","zip","dict_itemiterator","dict_reverseitemiterator","odict_iterator","itertools.zip_longest","itertools.pairwise"].contains n=false)(a:Q () s):wpAny M A (letOwnedTupleGo b (.ref it) u) Q E s:=by
 unfold letOwnedTupleGo;cases b<;>first
  |exact wpAny_pure a
  |(cases u<;>first
    |exact wpAny_pure a
    |(refine wpAny_bind (wpAny_load d ?_)
      rw[e,f];show wpAny M A (if(["enumerate","zip","dict_itemiterator","dict_reverseitemiterator","odict_iterator","itertools.zip_longest","itertools.pairwise"].contains n&&c[0]?==some (rawInt _))=true then _ else _) Q E s;rw[if_neg (by intro h;rw[g,Bool.false_and]at h;cases h)];exact wpAny_pure a))
def fo(K:vA)(a:Addr):It:=
 ⟨fun i H=>∃b x,Ay K H a b/\b[i]?=some x,fun i H x c=>c=H/\∀b,Ay K H a b->b[i]?=some x,fun i H=>∃b,Ay K H a b/\b.length<=i⟩
def ft(K:vA)(a:Addr):It:=
 ⟨fun i H=>∃b x,Ah K H a b/\b[i]?=some x,fun i H x c=>c=H/\∀b,Ah K H a b->b[i]?=some x,fun i H=>∃b,Ah K H a b/\b.length<=i⟩
def bo(lo:Int)(n:Nat):It:=⟨fun i _=>i<n,fun i H x a=>a=H/\x=.int (lo+i),fun i _=>n<=i⟩
variable{tg:Expr}
theorem Tp(a it:Addr):Turn P w K tg (fo K a) [it] it (fun i h=>h.IsListIter it a i)where
 mem:=by simp
 obj:=fun i h st b hb=>by
  have e:b=it:=by simpa using hb
  subst e;obtain⟨o,e,c,d⟩:=st;exact⟨o,e,fun v z=>by rw[d]at z;cases z⟩
 keep:=fun i h h' st k=>st.at fun o e=>k it (by simp) o e
 item:=by
  intro X hP hw hK hc i pins s σ H E I hf st hg;subst hP hw hK;obtain⟨xs,x,hq,hx⟩:=hg;obtain⟨its,rv,p,hz⟩:=I.list hq;obtain⟨u,hu,ru⟩:=rv.get hx;obtain⟨f0,f1,f2,f3,f4,f5⟩:=hf it (by simp);refine wpAny_pyNext_list_item st p.isList (x:=u) (by simpa using hu) fun h' Vc sb=>?_;have I1:Inv X pins σ H {s with heap:=h'}:=I.turned (t':=s.toks) (fun b o hb e=>(sb.2 b hb).trans e) f0 f1 f3 f4 f5;obtain⟨o,e,c,d⟩:=id Vc;exact⟨u,rfl,SO (s:={s with heap:=h'}) e c d (by decide) ⟨x,H,I1,ru,⟨rfl,fun ys hy=>by rw[I.VU hy hq];exact hx⟩,Vc,fun b hb=>(hf b hb).1⟩⟩
 done:=by
  intro X hP hw hK hc i pins s σ H E I hf st hg;subst hP hw hK;obtain⟨xs,hq,hx⟩:=hg;obtain⟨its,rv,p,hz⟩:=I.list hq;obtain⟨f0,f1,f2,f3,f4,f5⟩:=hf it (by simp);have hl:=rv.length;exact wpAny_pyNext_list_end (I.ok.hd hc) st p.isList (by simp;lia) fun h' eb=>⟨rfl,I.turned (t':=s.toks) (fun b o hb e=>eb b o hb e) f0 f1 f3 f4 f5⟩
 self:=fun _ _ _ _ _ st h=>wpAny_pyIter_listiter st h
theorem Qc(a it:Addr):Turn P w K tg (ft K a) [it] it (fun i h=>h.IsTupleIter it a i)where
 mem:=by simp
 obj:=fun i h st b hb=>by
  have e:b=it:=by simpa using hb
  subst e;obtain⟨o,e,c,d⟩:=st;exact⟨o,e,fun v z=>by rw[d]at z;cases z⟩
 keep:=fun i h h' st k=>st.at fun o e=>k it (by simp) o e
 item:=by
  intro X hP hw hK hc i pins s σ H E I hf st hg;subst hP hw hK;obtain⟨xs,x,hq,hx⟩:=hg;obtain⟨its,rv,p,hz⟩:=I.tuple hq;obtain⟨u,hu,ru⟩:=rv.get hx;obtain⟨f0,f1,f2,f3,f4,f5⟩:=hf it (by simp);refine wpAny_pyNext_tuple_item st (show s.heap.IsTuple a its.toArray from p) (x:=u) (by simpa using hu) fun h' Vc sb=>?_;have I1:Inv X pins σ H {s with heap:=h'}:=I.turned (t':=s.toks) (fun b o hb e=>(sb.2 b hb).trans e) f0 f1 f3 f4 f5;obtain⟨o,e,c,d⟩:=id Vc;exact⟨u,rfl,SO (s:={s with heap:=h'}) e c d (by decide) ⟨x,H,I1,ru,⟨rfl,fun ys hy=>by rw[I.Ls hy hq];exact hx⟩,Vc,fun b hb=>(hf b hb).1⟩⟩
 done:=by
  intro X hP hw hK hc i pins s σ H E I hf st hg;subst hP hw hK;obtain⟨xs,hq,hx⟩:=hg;obtain⟨its,rv,p,hz⟩:=I.tuple hq;obtain⟨f0,f1,f2,f3,f4,f5⟩:=hf it (by simp);have hl:=rv.length;exact wpAny_pyNext_tuple_end (I.ok.hd hc) st (show s.heap.IsTuple a its.toArray from p) (by simp;lia) fun h' eb=>⟨rfl,I.turned (t':=s.toks) (fun b o hb e=>eb b o hb e) f0 f1 f3 f4 f5⟩
 self:=fun _ _ _ _ _ st h=>wpAny_pyIter_tupleiter st h
theorem Qd(it:Addr)(lo:Int)(n:Nat):Turn P w K tg (bo lo n) [it] it (fun i h=>IsRangeIter h it (lo+(i:Nat)*1) ((n:Int)-(i:Nat)) 1)where
 mem:=by simp
 obj:=fun i h st b hb=>by
  have e:b=it:=by simpa using hb
  subst e;exact⟨_,st,fun v z=>by
   have z':Data.fields _=Data.cell v:=z;cases z'⟩
 keep:=fun i h h' st k=>k it (by simp) _ st
 item:=by
  intro X hP hw hK hc i pins s σ H E I hf st hg;subst hP hw hK;obtain⟨f0,f1,f2,f3,f4,f5⟩:=hf it (by simp);have W:=Walks.range (prog:=X.prog) (w:=X.w) (I.ok.hd hc) it lo 1 n;refine W.item i s _ _ hg st fun v h' tk hv Vc kk=>?_;obtain⟨t,rfl⟩:=hv;have I1:Inv X pins σ H {s with heap:=h',toks:=tk}:=I.turned (fun b o hb e=>kk b o (by simpa using hb) e) f0 f1 f3 f4 f5;refine⟨_,rfl,SO (s:={s with heap:=h',toks:=tk}) (n:="range_iterator") Vc rfl rfl (by decide) ⟨.int (lo+i),H,I1,⟨t,?_⟩,⟨rfl,rfl⟩,Vc,fun b hb=>(hf b hb).1⟩⟩;rw[Int.mul_one]
 done:=by
  intro X hP hw hK hc i pins s σ H E I hf st hg;subst hP hw hK;obtain⟨f0,f1,f2,f3,f4,f5⟩:=hf it (by simp);exact wpAny_pyNext_range_end (I.ok.hd hc) st (by have:n<=i:=hg;lia) fun h' eb=>⟨rfl,I.turned (t':=s.toks) (fun b o hb e=>eb b o hb e) f0 f1 f3 f4 f5⟩
 self:=fun _ _ _ _ _ st h=>wpAny_pyIter_rangeiter st h
section
variable{X:Cx} {tg:Expr}
def fw(K:vA)(tl:TE):TI:=fun c H R=>tl c H fun x b=>∃a,x=.ref a/\(∃d,Ay K b a d)/\R (fo K a) b
def kT(K:vA)(tl:TE):TI:=fun c H R=>tl c H fun x b=>∃a,x=.ref a/\(∃d,Ah K b a d)/\R (ft K a) b
theorem DB{l:Expr}{tl:TE}(f:PE X l tl):PI X tg l (fw X.K tl):=by
 intro pins s g H R I h;refine Bl (f pins s g H _ I h) fun v c i=>i.elim fun x j d k m=>?_;obtain⟨a,e,⟨u,n⟩,q⟩:=m;subst e;cases k;obtain⟨r,w,p,y⟩:=d.list n;refine wpAny_pyIter_list p.isList ?_;refine⟨c.heap.objs.size,[c.heap.objs.size],_,_,j,rfl,d.kept (t':=c.toks) fun b o e=>Heap.get?_push_of_some _ e,Tp a _,⟨_,Heap.get?_push_size _ rfl,rfl,rfl⟩,fun b t=>?_,q⟩;have e:b=c.heap.objs.size:=by simpa using t
 subst e;exact d.Qb (Nat.le_refl _) (d.Bb.fresh (Nat.le_refl _))
theorem bp{l:Expr}{tl:TE}(g:PE X l tl):PI X tg l (kT X.K tl):=by
 intro pins s i H R I h;refine Bl (g pins s i H _ I h) fun v c j=>j.elim fun x k d m n=>?_;obtain⟨a,e,⟨u,r⟩,q⟩:=n;subst e;cases m;obtain⟨f,w,p,y⟩:=d.tuple r;refine wpAny_pyIter_tuple (show c.heap.IsTuple a f.toArray from p) ?_;refine⟨c.heap.objs.size,[c.heap.objs.size],_,_,k,rfl,d.kept (t':=c.toks) fun b o e=>Heap.get?_push_of_some _ e,Qc a _,⟨_,Heap.get?_push_size _ rfl,rfl,rfl⟩,fun b t=>?_,q⟩;have e:b=c.heap.objs.size:=by simpa using t
 subst e;exact d.Qb (Nat.le_refl _) (d.Bb.fresh (Nat.le_refl _))
theorem OZ{R:It->Hp->Prop}{lo a:Int}{t u v:Tok}{tk:Nat}(I:Inv X pins σ H s)(d: -(2 ^ 62)<=lo)(f:lo<2 ^ 62)(g: -(2 ^ 62)<=a)(h:a<2 ^ 62)(q:R (bo lo (a-lo).toNat) H):wpAny (model X.prog X.w) X.A (pyIter (.ref s.heap.objs.size)) (oD X pins σ tg R) E {s with heap:=s.heap.push {cls:=.type "range",data:=.fields #[.int lo t,.int a u,.int 1 v]},toks:=tk}:=by
 refine wpAny_pyIter_range (IsRange.new ..) (small_one d f g h) ?_;have c:Inv X pins σ H {s with heap:=s.heap.push {cls:=.type "range",data:=.fields #[.int lo t,.int a u,.int 1 v]},toks:=tk}:=I.kept fun b o e=>Heap.get?_push_of_some _ e;refine⟨(s.heap.push {cls:=.type "range",data:=.fields #[.int lo t,.int a u,.int 1 v]}).objs.size,[(s.heap.push {cls:=.type "range",data:=.fields #[.int lo t,.int a u,.int 1 v]}).objs.size],_,_,H,rfl,
  c.kept (t':=tk) fun b o e=>Heap.get?_push_of_some _ e,Qd _ lo (a-lo).toNat,?_,fun b i=>?_,q⟩
 ·have j:lo+((0:Nat):Int)*1=lo:=by simp
  have k:(((a-lo).toNat:Nat):Int)-((0:Nat):Int)=Builtin.Range.rangeSize lo a 1:=by rw[rangeSize_one];split<;>lia
  show IsRangeIter _ _ (lo+((0:Nat):Int)*1) ((((a-lo).toNat:Nat):Int)-((0:Nat):Int)) 1;rw[j,k];exact Heap.get?_push_size _ rfl
 ·have e:b=(s.heap.push {cls:=.type "range",data:=.fields #[.int lo t,.int a u,.int 1 v]}).objs.size:=by simpa using i
  subst e;exact c.Qb (Nat.le_refl _) (c.Bb.fresh (Nat.le_refl _))
def fy(a:TA):TI:=fun b H R=>a b H fun c d=>∃j:Int,c=[.int j]/\ -(2 ^ 62)<=j/\j<2 ^ 62/\R (bo 0 j.toNat) d
def f_(a:TA):TI:=fun b H R=>a b H fun c d=>∃i j:Int,c=[.int i,.int j]/\(-(2 ^ 62)<=i/\i<2 ^ 62/\ -(2 ^ 62)<=j/\j<2 ^ 62)/\R (bo i (j-i).toNat) d
theorem DZ{a:Expr}{c:TA}{p:Pos}(d:Gl X "range")(f:X.mg "range"=none)(g:PA X [a] c)(i:starEach [a] X.env=[(false,eval a X.env)]:=by rfl):PI X tg (.Call (.Name "range" p) [a] [] pos) (fy c):=by
 intro pins s k H R I h;refine Call_ (Gn I d f boot_range (PyProof.Rows.callWith_type1 (Bl (g pos pins s k H _ I h) fun v w l=>l.elim fun x y m n b=>?_) i rfl));obtain⟨j,e,b,o,q⟩:=b;subst e;cases n with
 |cons r u=>
  cases u;obtain⟨t,rfl⟩:=r;exact call_range_1 (OZ m (by lia) (by lia) b o (by simpa using q))
theorem Tq{a b:Expr}{g:TA}{p:Pos}(k:Gl X "range")(l:X.mg "range"=none)(m:PA X [a,b] g)(n:starEach [a,b] X.env=[(false,eval a X.env),(false,eval b X.env)]:=by rfl)(c:starEach [b] X.env=[(false,eval b X.env)]:=by rfl):
  PI X tg (.Call (.Name "range" p) [a,b] [] pos) (f_ g):=by
 intro pins s o H R I h;refine Call_ (Gn I k l boot_range (PyProof.Rows.callWith_type1 (Bl (m pos pins s o H _ I h) fun B C u=>u.elim fun D E v w d=>?_) (by rw[n,c]) (by rw[c];rfl)));obtain⟨i,j,e,⟨d,x,y,z⟩,q⟩:=d;subst e;cases w with
 |cons r f=>
  cases f with
  |cons A f=>
   cases f;obtain⟨t,rfl⟩:=r;obtain⟨F,rfl⟩:=A;exact call_range_2 (OZ v d x y z q)
def f'(f:TI)(g:TG)(h:TS):TS:=fun D a H=>f a H fun J j=>∃W:Nat->Nat->St->Hp->Prop,(∃m,W 0 m a j)/\∀i m a H,W i m a H-> (J.stop i H/\D.nx a H)∨(J.go i H/\∃N:St->Hp->Prop,(∀b c,N b c->∃e,e<m/\W (i+1) e b c)/\∀x c,J.Vb i H x c->g x a c fun d k=>h {D with nx:=N,ct:=N,bk:=D.nx} d k)
def IY(a:List Addr)(h:Heap):List (Addr×Obj):=a.filterMap fun b=>(h.get? b).map fun o=>(b,o)
theorem De{a:List Addr}(c:b∈a)(e:h.get? b=some o):(b,o)∈IY a h:=List.mem_filterMap.mpr ⟨b,c,by rw[e];rfl⟩
theorem Tr{a:List Addr}{p:Addr×Obj}(c:p∈IY a h):p.1∈a/\h.get? p.1=some p.2:=by
 obtain⟨b,d,e⟩:=List.mem_filterMap.mp c;cases q:h.get? b with
 |none=>rw[q]at e;cases e
 |some o=>
  rw[q]at e;have f:(b,o)=p:=uz e;subst f;exact⟨d,q⟩
theorem Inv.pinned{a:List Addr}(I:Inv X pins σ H s)(g:∀b∈a,El X pins H b)(h:∀b∈a,∃o,s.heap.get? b=some o/\∀v,o.data≠.cell v):Inv X (pins++IY a s.heap) σ H s:=
 I.SM fun p i=>(List.mem_append.mp i).elim (fun z=>I.pin p (List.mem_append_right _ z)) fun z=>by
  obtain⟨c,e⟩:=Tr z;obtain⟨j,k,l,_⟩:=g p.1 c;obtain⟨o,f,d⟩:=h p.1 c;rw[e]at f;cases f;exact⟨e,j,k,l,d⟩
theorem Inv.ER{a:List (Addr×Obj)}(I:Inv X (pins++a) σ H s):Inv X pins σ H s:=I.SM fun p b=>I.pin p (List.mem_append_right _ (List.mem_append_left _ b))
theorem bq{iter:Expr}{S:TI}{g:TG}{U:TS}(B:PassesOwn (model X.prog X.w) X.A X.env X.xe)(V:X.calm=true)(hi:PI X tg iter S)(hg:PG X tg g)(c:Lr X body U)(hs:∀x,foldedSetIterable iter X.env x=pure x:=by intro _;rfl):PS X (.For tg iter body [] pos) (f' S g U):=by
 intro pins s Y H D I h;refine wpAny_For (Bl (hi pins s Y H _ I h) fun v s1 h1=>Bl h1 fun uG s2 h2=>?_) hs;obtain⟨it,C,Z,J,H2,e,I2,T,L,f2,W,⟨m0,w0⟩,turn⟩:=h2;subst e;have j:∀{t:Hp},(∀b∈C,t b=none)->∀b∈C,El X pins t b:=fun hn b c=>⟨hn b c,(f2 b c).2⟩;refine codeAny_forLoop_any (fun n s'=>∃i k t,Inv X pins k t s'/\Z i s'.heap/\(∀b∈C,t b=none)/\W i n k t) ?_ m0 ⟨0,Y,H2,I2,L,fun b c=>(f2 b c).1,w0⟩;rintro n s3 ⟨i,l,K,I3,E,F,w3⟩;rcases turn i n l K w3 with⟨stop,qn⟩|⟨go,N,hN,step⟩
 ·refine wpAny_passesOwn B (Bl (T.done X rfl rfl rfl V i pins s3 l K X.xe I3 (j F) E stop) fun r s4 ⟨M,I4⟩=>?_);subst M;exact wpAny_execs_nil ⟨l,K,I4,qn⟩
 ·refine wpAny_passesOwn B (Bl (T.item X rfl rfl rfl V i pins s3 l K X.xe I3 (j F) E go) fun r s4 ⟨u,M,h4⟩=>?_);subst M;refine wpAny_passesOwn B (Bl h4 fun _ s5 ⟨x,H5,I5,r5,y5,z,O⟩=>?_);have P:=I5.pinned (j O) (T.obj _ _ z);refine wpAny_passesOwn B (Bl (hg _ s5 l H5 x u _ P r5 (step x H5 y5)) fun _ s6 ⟨Q,H6,I6,q6⟩=>?_);refine wpAny_passesOwn B (Bl (c _ s6 Q H6 _ I6 q6) fun f R y=>?_);have again:∀{a:St}{p:Hp},Inv X (pins++IY C s5.heap) a p R->N a p->∃m,m<n/\∃i k t,Inv X pins k t R/\Z i R.heap/\(∀b∈C,t b=none)/\W i m k t:=fun{a p} q G=>by
   obtain⟨m',hm,w7⟩:=hN a p G;refine⟨m',hm,i+1,a,p,q.ER,T.keep _ _ _ z fun b c o e=>(q.pin (b,o) (List.mem_append_right _ (List.mem_append_right _ (De c e)))).1,fun b c=>?_,w7⟩;obtain⟨o,e,d⟩:=T.obj _ _ z b c;exact(q.pin (b,o) (List.mem_append_right _ (List.mem_append_right _ (De c e)))).2.1
  cases f with
  |next=>obtain⟨a,p,q,G⟩:=y;exact again q G
  |cont=>obtain⟨a,p,q,G⟩:=y;exact again q G
  |brk=>obtain⟨a,p,q,y⟩:=y;exact⟨a,p,q.ER,y⟩
  |ret v=>obtain⟨x7,a,p,q,r7,y⟩:=y;exact⟨x7,a,p,q.ER,r7,y⟩
end
variable{D:Ends}
theorem D_{g:TG}{h:TS}(Pv:Nat->St->Hp->Prop)(k:Pv 0 σ H)(l:∀i σ H,i<=xs.length->Pv i σ H->Ay K H a xs)(n:∀i x σ H,xs[i]?=some x->Pv i σ H->g x σ H fun b H2=>h {D with nx:=Pv (i+1),ct:=Pv (i+1),bk:=D.nx} b H2)(o:∀σ H,Pv xs.length σ H->D.nx σ H):
  ∃W:Nat->Nat->St->Hp->Prop,(∃m,W 0 m σ H)/\∀i m σ H,W i m σ H-> ((fo K a).stop i H/\D.nx σ H)∨((fo K a).go i H/\∃N:St->Hp->Prop,(∀c d,N c d->∃j,j<m/\W (i+1) j c d)/\∀x d,(fo K a).Vb i H x d->g x σ d fun b H2=>h {D with nx:=N,ct:=N,bk:=D.nx} b H2):=by
 refine⟨fun i m σ H=>m=xs.length-i/\i<=xs.length/\Pv i σ H,⟨xs.length,by simp,Nat.zero_le _,k⟩,?_⟩;rintro i m σ H ⟨rfl,r,p⟩;have q:=l i σ H r p;by_cases f:i<xs.length
 ·refine .inr ⟨⟨xs,xs[i],q,by simp[f]⟩,Pv (i+1),fun c d s=>⟨xs.length-(i+1),by lia,rfl,f,s⟩,fun x d y=>?_⟩;obtain⟨e,y⟩:=y;subst e;exact n i x σ _ (y xs q) p
 ·have e:i=xs.length:=by lia
  subst e;exact .inl ⟨⟨xs,q,Nat.le_refl _⟩,o σ H p⟩
theorem Yi{g:TG}{h:TS}(Pv:Nat->St->Hp->Prop)(k:Pv 0 σ H)(l:∀i σ H,i<=xs.length->Pv i σ H->Ah K H a xs)(n:∀i x σ H,xs[i]?=some x->Pv i σ H->g x σ H fun b H2=>h {D with nx:=Pv (i+1),ct:=Pv (i+1),bk:=D.nx} b H2)(o:∀σ H,Pv xs.length σ H->D.nx σ H):
  ∃W:Nat->Nat->St->Hp->Prop,(∃m,W 0 m σ H)/\∀i m σ H,W i m σ H-> ((ft K a).stop i H/\D.nx σ H)∨((ft K a).go i H/\∃N:St->Hp->Prop,(∀c d,N c d->∃j,j<m/\W (i+1) j c d)/\∀x d,(ft K a).Vb i H x d->g x σ d fun b H2=>h {D with nx:=N,ct:=N,bk:=D.nx} b H2):=by
 refine⟨fun i m σ H=>m=xs.length-i/\i<=xs.length/\Pv i σ H,⟨xs.length,by simp,Nat.zero_le _,k⟩,?_⟩;rintro i m σ H ⟨rfl,r,p⟩;have q:=l i σ H r p;by_cases f:i<xs.length
 ·refine .inr ⟨⟨xs,xs[i],q,by simp[f]⟩,Pv (i+1),fun c d s=>⟨xs.length-(i+1),by lia,rfl,f,s⟩,fun x d y=>?_⟩;obtain⟨e,y⟩:=y;subst e;exact n i x σ _ (y xs q) p
 ·have e:i=xs.length:=by lia
  subst e;exact .inl ⟨⟨xs,q,Nat.le_refl _⟩,o σ H p⟩
theorem Ew{lo:Int}{g:TG}{f:TS}(Pv:Nat->St->Hp->Prop)(j:Pv 0 σ H)(k:∀i σ H,i<n->Pv i σ H->g (.int (lo+i)) σ H fun a H2=>f {D with nx:=Pv (i+1),ct:=Pv (i+1),bk:=D.nx} a H2)(l:∀σ H,Pv n σ H->D.nx σ H):
  ∃W:Nat->Nat->St->Hp->Prop,(∃m,W 0 m σ H)/\∀i m σ H,W i m σ H-> ((bo lo n).stop i H/\D.nx σ H)∨((bo lo n).go i H/\∃N:St->Hp->Prop,(∀b c,N b c->∃h,h<m/\W (i+1) h b c)/\∀x c,(bo lo n).Vb i H x c->g x σ c fun a H2=>f {D with nx:=N,ct:=N,bk:=D.nx} a H2):=by
 refine⟨fun i m σ H=>m=n-i/\i<=n/\Pv i σ H,⟨n,by simp,Nat.zero_le _,j⟩,?_⟩;rintro i m σ H ⟨rfl,q,p⟩;by_cases d:i<n
 ·refine .inr ⟨d,Pv (i+1),fun b c o=>⟨n-(i+1),by lia,rfl,d,o⟩,fun x c y=>?_⟩;obtain⟨e,y⟩:=y;subst e y;exact k i σ _ d p
 ·have e:i=n:=by lia
  subst e;exact .inl ⟨Nat.le_refl _,l σ H p⟩
abbrev R2:=V->V->Hp->VK->Prop
def Dg(X:Cx)(f:Value->Value->Sem Value)(r:R2):Prop:=
 ∀(pins:List (Addr×Obj))(s:Shared)(a:St)(H:Hp)(x y:V)(v u:Value)(Q:VK),Inv X pins a H s->RelV x v->RelV y u->r x y H Q->
  wpAny (model X.prog X.w) X.A (f v u) (EP X pins a Q) X.xe s
def kU(X:Cx)(f:Value->Sem Value)(r:V->Hp->VK->Prop):Prop:=
 ∀(pins:List (Addr×Obj))(s:Shared)(a:St)(H:Hp)(x:V)(v:Value)(Q:VK),Inv X pins a H s->RelV x v->r x H Q->
  wpAny (model X.prog X.w) X.A (f v) (EP X pins a Q) X.xe s
def CW(X:Cx)(f:Value)(r:List V->Hp->VK->Prop):Prop:=
 ∀(pins:List (Addr×Obj))(s:Shared)(a:St)(H:Hp)(b:List V)(c:List Value)(Q:VK),Inv X pins a H s->Vals b c->r b H Q->
  wpAny (model X.prog X.w) X.A (call f c) (EP X pins a Q) X.xe s
def kW(X:Cx)(r:V->Hp->(Bool->Hp->Prop)->Prop):Prop:=
 ∀(pins:List (Addr×Obj))(s:Shared)(a:St)(H:Hp)(x:V)(v:Value)(Q:Bool->Hp->Prop),Inv X pins a H s->RelV x v->r x H Q->
  wpAny (model X.prog X.w) X.A (truthy v) (TP X pins a Q) X.xe s
def e_(r:R2)(b c:TE):TE:=fun a H Q=>b a H fun x d=>c a d fun y e=>r x y e Q
def qa(r:V->Hp->VK->Prop)(a:TE):TE:=fun b H Q=>a b H fun x c=>r x c Q
inductive qb(C:Int->Int->Prop)(g:Int->Int->V)(x y:V)(H:Hp)(Q:VK):Prop
 |mk(i j:_)(a:x=.int i)(b:y=.int j)(c:C i j)(d:Q (g i j) H)
def rI(C:Int->Int->Prop)(g:Int->Int->V):R2:=fun x y H Q=>qb C g x y H Q
inductive kX(g:Int->Int->V)(x y:V)(H:Hp)(Q:VK):Prop
 |mk(i j:_)(a:x=.int i)(b:y=.int j)(c:Q (g i j) H)
def ao(g:Int->Int->V):R2:=fun x y H Q=>kX g x y H Q
inductive qc(g:Int->V)(x:V)(H:Hp)(Q:VK):Prop
 |mk(i:_)(a:x=.int i)(b:Q (g i) H)
def rU(g:Int->V):V->Hp->VK->Prop:=fun x H Q=>qc g x H Q
variable{f:Value->Value->Sem Value}{g:Int->Int->Int}
section
variable{X:Cx} {a b c:Expr} {ta tb tc:TE} {pos:Pos}
theorem bt(k:PE X a ta)(l:PE X b tb){R:V->V->Hp->Prop}(I:Inv X pins σ H s)(h:ta σ H fun x i=>tb σ i fun y H2=>R x y H2)(m:∀v u g x y H2,Inv X pins σ H2 g->RelV x v->RelV y u->R x y H2->wpAny (model X.prog X.w) X.A (f v u) Q X.xe g):
  wpAny (model X.prog X.w) X.A (eval a X.env) (fun v d=>wpAny (model X.prog X.w) X.A (eval b X.env) (fun u e=>wpAny (model X.prog X.w) X.A (f v u) Q X.xe e) X.xe d) X.xe s:=by
 refine Bl (k pins s σ H _ I h) fun v n j=>j.elim fun x i o p q=>?_;refine Bl (l pins n σ i _ o q) fun u g j=>j.elim fun y H2 r t z=>?_;exact m v u g x y H2 r p t z
theorem AV{d:Operator}{r:R2}(e:Dg X (binaryOp d) r)(f:PE X a ta)(g:PE X b tb):PE X (.BinOp a d b pos) (e_ r ta tb):=by
 intro pins s i H Q I h;exact wpAny_BinOp (bt f g I h fun v u j x y k l m n q=>e pins j i k x y v u Q l m n q)
theorem Bw{d:UnaryOp}{r:V->Hp->VK->Prop}(f:kU X (unaryOp d) r)(g:PE X a ta):PE X (.UnaryOp d a pos) (qa r ta):=by
 intro pins s e H Q I h;exact UnaryOp_ (Bl (g pins s e H _ I h) fun v i j=>j.elim fun x k l m n=>f pins i e k x v Q l m n)
theorem jY{C:Int->Int->Prop}(rule:∀(i j:Int) (t u:Tok) (s:Shared) (Q:Value->Shared->Prop) (E:Value->Shared->Prop),C i j->Q (.int (g i j) s.toks) {s with toks:=s.toks+1}->wpAny (model X.prog X.w) X.A (f (.int i t) (.int j u)) Q E s):
  Dg X f (rI C fun i j=>.int (g i j)):=by
 intro pins s m H x y v u Q I d e h;obtain⟨i,j,rfl,rfl,k,q⟩:=h;obtain⟨t,rfl⟩:=d;obtain⟨l,rfl⟩:=e;exact rule i j t l s _ _ k ⟨.int (g i j),H,I.tok _,⟨_,rfl⟩,q⟩
theorem gA  (rule:∀(i j:Int)(t u:Tok)(s:Shared)(Q:Value->Shared->Prop)(E:Value->Shared->Prop),Q (.int (g i j) s.toks) {s with toks:=s.toks+1}->wpAny (model X.prog X.w) X.A (f (.int i t) (.int j u)) Q E s):
  Dg X f (ao fun i j=>.int (g i j)):=by
 intro pins s l H x y v u Q I d e h;obtain⟨i,j,rfl,rfl,q⟩:=h;obtain⟨t,rfl⟩:=d;obtain⟨k,rfl⟩:=e;exact rule i j t k s _ _ ⟨.int (g i j),H,I.tok _,⟨_,rfl⟩,q⟩
theorem Yj{g:Int->Int->Bool}(rule:∀(i j:Int) (t u:Tok) (s:Shared) (Q:Value->Shared->Prop) (E:Value->Shared->Prop),Q (.bool (g i j)) s->wpAny (model X.prog X.w) X.A (f (.int i t) (.int j u)) Q E s):
  Dg X f (ao fun i j=>.bl (g i j)):=by
 intro pins s l H x y v u Q I d e h;obtain⟨i,j,rfl,rfl,q⟩:=h;obtain⟨t,rfl⟩:=d;obtain⟨k,rfl⟩:=e;exact rule i j t k s _ _ ⟨.bl (g i j),H,I,rfl,q⟩
def kY(i j:Int):Prop:=0<j/\j<1073741824
def kZ(i j:Int):Prop:=0<=j/\j<=1000000/\i.natAbs<2 ^ 64
def bu(i j:Int):Prop:=(-(2 ^ 64)<i/\i<2 ^ 64)∨(-(2 ^ 64)<j/\j<2 ^ 64)
theorem bu.ok{i j:Int}(h:bu i j):IntMulOk i j:=by
 rcases h with⟨d,e⟩|⟨d,e⟩
 ·exact .of_left (intBits_le_64 d e)
 ·exact .of_right (intBits_le_64 d e)
theorem Bc:Dg X (binaryOp .Add) (ao fun i j=>.int (i+j)):=gA fun _ _ _ _ _ _ _ q=>add_int q
theorem KH:Dg X (binaryOp .Sub) (ao fun i j=>.int (i-j)):=gA fun _ _ _ _ _ _ _ q=>sub_int q
theorem Fp:Dg X (binaryOp .Mult) (rI bu fun i j=>.int (i*j)):=jY fun _ _ _ _ _ _ _ d q=>mul_int q d.ok
theorem GY:Dg X (binaryOp .FloorDiv) (rI kY fun i j=>.int (i/j)):=jY fun i j _ _ _ _ _ d q=>by
 have e:(0:Int)<j:=d.1;have f:j<1073741824:=d.2;exact floordiv_int (by lia) (by rw[Int.fdiv_eq_ediv_of_nonneg i (by lia)];exact q) (.inl (PyProof.noPylong_small (by lia)))
theorem BD:Dg X (binaryOp .Mod) (rI (fun _ j=>0<j) fun i j=>.int (i % j)):=jY fun i j _ _ _ _ _ d q=>by
 have e:(0:Int)<j:=d;exact mod_int' (by lia) (by rw[Int.fmod_eq_emod_of_nonneg i (by lia)];exact q)
theorem Vd:Dg X (binaryOp .Pow) (rI kZ fun i j=>.int (i ^ j.toNat)):=jY fun _ _ _ _ _ _ _ d q=>pow_int_small d.1 d.2.1 d.2.2 q
theorem qf{f:Value->Sem Value}{g:Int->Int}(rule:∀(i:Int) (t:Tok) (s:Shared) (Q:Value->Shared->Prop) (E:Value->Shared->Prop),Q (.int (g i) s.toks) {s with toks:=s.toks+1}->wpAny (model X.prog X.w) X.A (f (.int i t)) Q E s):
  kU X f (rU fun i=>.int (g i)):=by
 intro pins s e H x v Q I d h;obtain⟨i,rfl,q⟩:=h;obtain⟨t,rfl⟩:=d;exact rule i t s _ _ ⟨.int (g i),H,I.tok _,⟨_,rfl⟩,q⟩
theorem BM:kU X (unaryOp .USub) (rU fun i=>.int (-i)):=qf fun _ _ _ _ _ q=>neg_int q
end
noncomputable def gB:V->V->Bool
 | .As,.As=>true| .As,.int _=>true| .int _,.As=>true| .As,.bl _=>true| .bl _,.As=>true| .As,.str _=>true| .str _,.As=>true
 | .int _,.int _=>true| .bl _,.bl _=>true| .str _,.str _=>true| .Tn _,.Tn _=>true
 | .int _,.str _=>true| .str _,.int _=>true| .bl _,.str _=>true| .str _,.bl _=>true
 |_,_=>false
def qg:R2:=fun x y H Q=>gB x y=true/\Q (.bl (decide (x=y))) H
def qh:R2:=fun x y H Q=>gB x y=true/\Q (.bl (!decide (x=y))) H
theorem SQ{i j:Int}:decide (V.int i=V.int j)=(i==j):=by
 rw[Bool.eq_iff_iff];simp
theorem Ve{i j:Bool}:decide (V.bl i=V.bl j)=(i==j):=by
 rw[Bool.eq_iff_iff];simp
theorem SR{i j:Str}:decide (V.str i=V.str j)=(i==j):=by
 rw[Bool.eq_iff_iff];simp
theorem SS{i j:Array UInt8}:decide (V.Tn i=V.Tn j)=(i.toList==j.toList):=by
 rw[Bool.eq_iff_iff];cases i;cases j;simp
variable{d:CmpOp}
section
variable{X:Cx} {a b c:Expr} {ta tb tc:TE} {pos:Pos}
theorem BN{Q:VK}{k d:Bool}(I:Inv X pins σ H s)(q:Q (.bl k) H)(e:k=d):EP X pins σ Q (.bool d) s:=by
 subst e;exact⟨.bl k,H,I,rfl,q⟩
theorem BO:Dg X (compareOp .Eq) qg:=by
 intro pins s k H x y v u Q I g d h;obtain⟨f,q⟩:=h;cases x with
 |As=>
  cases g;cases y with
  |As=>cases d;exact PySem.EqNone.eq_none_none (BN I q (by simp))
  |bl j=>cases d;exact PySem.EqNone.eq_none_bool (BN I q (by simp))
  |int j=>obtain⟨e,rfl⟩:=d;exact PySem.EqNone.eq_none_int (BN I q (by simp))
  |str j=>obtain⟨e,rfl⟩:=d;exact PySem.EqNone.eq_none_str (BN I q (by simp))
  |_=>exact absurd (show false=true from f) Bool.false_ne_true
 |bl i=>
  cases g;cases y with
  |As=>cases d;exact PySem.EqNone.eq_bool_none (BN I q (by simp))
  |bl j=>cases d;exact eq_bool (BN I q Ve)
  |str j=>obtain⟨e,rfl⟩:=d;exact PySem.EqMixed.eq_bool_str (BN I q (by simp))
  |_=>exact absurd (show false=true from f) Bool.false_ne_true
 |int i=>
  obtain⟨t,rfl⟩:=g;cases y with
  |As=>cases d;exact PySem.EqNone.eq_int_none (BN I q (by simp))
  |int j=>obtain⟨e,rfl⟩:=d;exact eq_int (BN I q SQ)
  |str j=>obtain⟨e,rfl⟩:=d;exact PySem.EqMixed.eq_int_str (BN I q (by simp))
  |_=>exact absurd (show false=true from f) Bool.false_ne_true
 |str i=>
  obtain⟨t,rfl⟩:=g;cases y with
  |As=>cases d;exact PySem.EqNone.eq_str_none (BN I q (by simp))
  |bl j=>cases d;exact PySem.EqMixed.eq_str_bool (BN I q (by simp))
  |int j=>obtain⟨e,rfl⟩:=d;exact PySem.EqMixed.eq_str_int (BN I q (by simp))
  |str j=>obtain⟨e,rfl⟩:=d;exact eq_str (BN I q SR)
  |_=>exact absurd (show false=true from f) Bool.false_ne_true
 |Tn i=>
  obtain⟨t,rfl⟩:=g;cases y with
  |Tn j=>obtain⟨e,rfl⟩:=d;exact PySem.W.eq_bytes (BN I q SS)
  |_=>exact absurd (show false=true from f) Bool.false_ne_true
 |_=>cases y<;>exact absurd (show false=true from f) Bool.false_ne_true
theorem KI:Dg X (compareOp .NotEq) qh:=by
 intro pins s k H x y v u Q I g d h;obtain⟨f,q⟩:=h;cases x with
 |As=>
  cases g;cases y with
  |As=>cases d;exact PySem.EqNone.ne_none_none (BN I q (by simp))
  |bl j=>cases d;exact PySem.EqNone.ne_none_bool (BN I q (by simp))
  |int j=>obtain⟨e,rfl⟩:=d;exact PySem.EqNone.ne_none_int (BN I q (by simp))
  |str j=>obtain⟨e,rfl⟩:=d;exact PySem.EqNone.ne_none_str (BN I q (by simp))
  |_=>exact absurd (show false=true from f) Bool.false_ne_true
 |bl i=>
  cases g;cases y with
  |As=>cases d;exact PySem.EqNone.ne_bool_none (BN I q (by simp))
  |bl j=>cases d;exact ne_bool (BN I q (congrArg not Ve))
  |str j=>obtain⟨e,rfl⟩:=d;exact PySem.EqMixed.ne_bool_str (BN I q (by simp))
  |_=>exact absurd (show false=true from f) Bool.false_ne_true
 |int i=>
  obtain⟨t,rfl⟩:=g;cases y with
  |As=>cases d;exact PySem.EqNone.ne_int_none (BN I q (by simp))
  |int j=>obtain⟨e,rfl⟩:=d;exact ne_int (BN I q (congrArg not SQ))
  |str j=>obtain⟨e,rfl⟩:=d;exact PySem.EqMixed.ne_int_str (BN I q (by simp))
  |_=>exact absurd (show false=true from f) Bool.false_ne_true
 |str i=>
  obtain⟨t,rfl⟩:=g;cases y with
  |As=>cases d;exact PySem.EqNone.ne_str_none (BN I q (by simp))
  |bl j=>cases d;exact PySem.EqMixed.ne_str_bool (BN I q (by simp))
  |int j=>obtain⟨e,rfl⟩:=d;exact PySem.EqMixed.ne_str_int (BN I q (by simp))
  |str j=>obtain⟨e,rfl⟩:=d;exact ne_str (BN I q (congrArg not SR))
  |_=>exact absurd (show false=true from f) Bool.false_ne_true
 |Tn i=>
  obtain⟨t,rfl⟩:=g;cases y with
  |Tn j=>obtain⟨e,rfl⟩:=d;exact PySem.W.ne_bytes (BN I q (congrArg not SS))
  |_=>exact absurd (show false=true from f) Bool.false_ne_true
 |_=>cases y<;>exact absurd (show false=true from f) Bool.false_ne_true
theorem Gh:Dg X (compareOp .Lt) (ao fun i j=>.bl (decide (i<j))):=Yj fun _ _ _ _ _ _ _ q=>lt_int q
theorem gC:Dg X (compareOp .LtE) (ao fun i j=>.bl (decide (i<=j))):=Yj fun _ _ _ _ _ _ _ q=>le_int q
theorem aq:Dg X (compareOp .Gt) (ao fun i j=>.bl (decide (j<i))):=Yj fun _ _ _ _ _ _ _ q=>gt_int q
theorem ar:Dg X (compareOp .GtE) (ao fun i j=>.bl (decide (j<=i))):=Yj fun _ _ _ _ _ _ _ q=>ge_int q
theorem Fq:Dg X (compareOp .Is) (fun x y H Q=>y=.As/\Q (.bl (decide (x=.As))) H):=by
 intro pins s f H x y v u Q I d e h;obtain⟨rfl,q⟩:=h;cases e;refine is_none_gen (BN I q ?_);cases x<;>first
  |(cases d;rfl)
  |(obtain⟨t,rfl⟩:=d;rfl)
theorem CG:Dg X (compareOp .IsNot) (fun x y H Q=>y=.As/\Q (.bl (!decide (x=.As))) H):=by
 intro pins s f H x y v u Q I d e h;obtain⟨rfl,q⟩:=h;cases e;refine isnot_none_gen (BN I q ?_);cases x<;>first
  |(cases d;rfl)
  |(obtain⟨t,rfl⟩:=d;rfl)
theorem AM(b:Expr)(h:d≠.In:=by decide)(e:d≠.NotIn:=by decide):behindInMarks d b=false:=by
 have f:(d==CmpOp.In)=false:=by cases d<;>first|rfl|exact absurd rfl h
 have g:(d==CmpOp.NotIn)=false:=by cases d<;>first|rfl|exact absurd rfl e
 cases b<;>simp[behindInMarks,f,g]
theorem Be{r:R2}(e:Dg X (compareOp d) r)(f:PE X a ta)(g:PE X b tb)(i:behindInMarks d b=false):PE X (.Compare a [d] [b] pos) (e_ r ta tb):=by
 intro pins s j H Q I h;exact wpAny_Compare1 (bt f g I h fun v u k x y l m n o q=>e pins k j l x y v u Q m n o q) i
def gD(t:TE):TT:=fun d H Q=>t d H fun x e=>oC x e Q
theorem AI{r:R2}(g:Dg X (compareOp d) r)(i:PE X a ta)(j:PE X b tb)(l:behindInMarks d b=false):PT X (.Compare a [d] [b] pos) (gD (e_ r ta tb)):=by
 intro pins s f H Q I h;refine wpAny_isTrue_Compare1 (Bl (i pins s f H _ I h) fun v m n=>n.elim fun x o p q t=>Bl (j pins m f o _ p t) fun u w ⟨y,A,B,C,D⟩=>
  Bl (g pins w f A x y v u _ B q C D) fun c K ⟨z,E,F,G,k,e,J⟩=>?_) l
 subst e;cases G;exact wpAny_truthy_bool ⟨E,F,J⟩
def gE(K:vA)(x:V)(H:Hp)(k:Bool):Prop:=
 match x with
 | .As=>k=false
 | .bl b=>k=b
 | .int i=>k=(i !=0)
 | .str y=>y.length<=sizeLine/\k=((y.length:Int) !=0)
 | .Tn y=>y.size<=sizeLine/\k=((y.size:Int) !=0)
 | .ref p=>(∃d,Ay K H p d/\k= !d.isEmpty)∨(∃d,Ah K H p d/\k= !d.isEmpty)∨∃kvs,H p=some (.dK kvs)/\k= !kvs.isEmpty
 |_=>False
theorem Qe{d:Type}{kvs:List (d×V)}{e:List (d×Value)}(r:KV kvs e):(!e.isEmpty)= !kvs.isEmpty:=by
 cases r<;>rfl
theorem KJ{its:List Value}(r:Vals xs its):(!its.toArray.isEmpty)= !xs.isEmpty:=by
 cases r<;>simp
theorem Gp:(sizeLine:Nat)<2 ^ 63:=by rw[sizeLine_eq];decide
theorem bw:kW X (fun x H Q=>∃k,gE X.K x H k/\Q k H):=by
 intro pins s B H x v Q I g h;obtain⟨k,e,q⟩:=h;have C:=Gp;have D:sizeLine=16777216:=sizeLine_eq;cases x with
 |As=>
  cases g;have d:k=false:=e;subst d;exact truthy_none ⟨H,I,q⟩
 |bl b=>
  cases g;have d:k=b:=e;subst d;exact wpAny_truthy_bool ⟨H,I,q⟩
 |int i=>
  obtain⟨t,rfl⟩:=g;have d:k=(i !=0):=e;subst d;exact PySem.P.truthy_int ⟨H,I,q⟩
 |str y=>
  obtain⟨t,rfl⟩:=g;obtain⟨z,d⟩:y.length<=sizeLine/\k=((y.length:Int) !=0):=e;subst d;exact PySem.P.truthy_str (by lia) ⟨H,I.tok _,q⟩
 |Tn y=>
  obtain⟨t,rfl⟩:=g;obtain⟨z,d⟩:y.size<=sizeLine/\k=((y.size:Int) !=0):=e;subst d;exact PySem.W.truthy_bytes (by lia) ⟨H,I.tok _,q⟩
 |ref p=>
  cases g;have d:(∃f,Ay X.K H p f/\k= !f.isEmpty)∨(∃f,Ah X.K H p f/\k= !f.isEmpty)∨∃kvs,H p=some (.dK kvs)/\k= !kvs.isEmpty:=e;rcases d with⟨f,j,d⟩|⟨f,j,d⟩|⟨kvs,j,d⟩
  ·subst d;obtain⟨n,r,o,u⟩:=I.list j;have hlen:=r.length;exact wpAny_truthy_list o.isList (by simp only[List.size_toArray];lia) ⟨H,I.tok _,by rw[KJ r];exact q⟩
  ·subst d;obtain⟨n,r,o,u⟩:=I.tuple j;have hlen:=r.length;exact truthy_tuple o (by simp only[List.size_toArray];lia) ⟨H,I.tok _,by rw[KJ r];exact q⟩
  ·subst d;obtain⟨u,A,l,r,m⟩:kvs.length<=sizeLine/\(p==sysModules)=false/\∃l,KV kvs l/\s.heap.DictOf (BE X.prog X.w) p l:=I.Bb p _ j;have hlen:kvs.length=l.length:=Paired.length r;exact wpAny_truthy_dict A m (by lia) ⟨H,I.tok _,by rw[Qe r];exact q⟩
 |_=>exact(show False from e).elim
theorem Vf(d:PE X a ta)(e:∀whole,isTrue a X.env whole=(do let v<-whole;standAt a.pos;holding [v] (truthy v))):
  PT X a (fun σ H Q=>ta σ H fun x H'=>∃k,gE X.K x H' k/\Q k H'):=by
 intro pins s σ H Q I h;exact isTrue_plain (Bl (d pins s σ H _ I h) fun v f g=>g.elim fun x i j l m=>bw pins f σ i x v Q j l m) (e _)
inductive LZ(x y:V)(H:Hp)(Q:VK):Prop
 |mk(i j:_)(d:x=.str i)(e:y=.str j)(f:i.length+j.length<=sizeLine)(g:Q (.str (i++j)) H)
def NB:V->V->Hp->VK->Prop:=fun x y H Q=>LZ x y H Q
theorem KL:Dg X (binaryOp .Add) NB:=by
 intro pins s k H x y v u Q I d e h;obtain⟨i,j,rfl,rfl,f,q⟩:=h;obtain⟨t,rfl⟩:=d;obtain⟨g,rfl⟩:=e;exact add_str (fun g l=>⟨.str (i++j),H,I.tok _,⟨_,rfl⟩,q⟩) f
theorem vals1{x:V}{d:List Value}(r:Vals [x] d):∃u,d=[u]/\RelV x u:=by
 cases r with
 |cons e f=>cases f;exact⟨_,rfl,e⟩
theorem vals2{x y:V}{d:List Value}(r:Vals [x,y] d):∃u e,d=[u,e]/\RelV x u/\RelV y e:=by
 cases r with
 |cons f g=>
  cases g with
  |cons h i=>cases i;exact⟨_,_,rfl,f,h⟩
inductive NC(xs:List V)(H:Hp)(Q:VK):Prop
 |mk(i j:_)(d:xs=[.int i,.int j])(e:Q (.int (if j>i then j else i)) H)
def Oa:List V->Hp->VK->Prop:=fun d H Q=>NC d H Q
theorem Ts(e:X.calm=true):CW X (.builtin "max") Oa:=by
 intro pins s f H g l Q I r h;obtain⟨i,j,rfl,q⟩:=h;obtain⟨u,m,rfl,⟨t,rfl⟩,⟨n,rfl⟩⟩:=vals2 r;refine max_two_ints (I.ok.hd e) fun o p k=>⟨_,H,I.kept k,?_,q⟩;by_cases d:j>i
 ·rw[if_pos d,if_pos d];exact⟨_,rfl⟩
 ·rw[if_neg d,if_neg d];exact⟨_,rfl⟩
inductive ND(xs:List V)(H:Hp)(Q:VK):Prop
 |mk(i j:_)(d:xs=[.int i,.int j])(e:Q (.int (if j<i then j else i)) H)
def Ob:List V->Hp->VK->Prop:=fun d H Q=>ND d H Q
theorem Tt(e:X.calm=true):CW X (.builtin "min") Ob:=by
 intro pins s f H g l Q I r h;obtain⟨i,j,rfl,q⟩:=h;obtain⟨u,m,rfl,⟨t,rfl⟩,⟨n,rfl⟩⟩:=vals2 r;refine min_two_ints (I.ok.hd e) fun o p k=>⟨_,H,I.kept k,?_,q⟩;by_cases d:j<i
 ·rw[if_pos d,if_pos d];exact⟨_,rfl⟩
 ·rw[if_neg d,if_neg d];exact⟨_,rfl⟩
theorem Lv:CW X (.type "int") (fun xs H Q=>(∃i,xs=[.int i]/\Q (.int i) H)∨∃k,xs=[.bl k]/\Q (.int (if k then 1 else 0)) H):=by
 intro pins s e H xs f Q I r h;rcases h with⟨i,rfl,q⟩|⟨k,rfl,q⟩
 ·obtain⟨u,rfl,t,rfl⟩:=vals1 r;exact call_int_int ⟨.int i,H,I,⟨_,rfl⟩,q⟩
 ·obtain⟨u,rfl,d⟩:=vals1 r;cases d;exact call_int_bool ⟨.int (if k then 1 else 0),H,I.tok _,⟨_,rfl⟩,q⟩
end
structure bx(h:Heap)(x dx C:Addr)(mA:Str->Option Value):Prop where
 obj:h.get? x=some (PySem.W.instObj C dx)
 ns:h.Ns1 dx mA
 ne:dx≠x
theorem Tu{c:Addr}{d:Str->Option Value}(n:h.Ns1 c d):∃od,h.get? c=some od/\∀name,PySem.W.lookIn name od=some (d name):=by
 obtain⟨o,f,p,g,i,j,_,k⟩:=n;refine⟨o,g,fun name=>?_⟩;have e:=k name;unfold nsFind findBy at e;rw[<-Array.find?_toList]at e;unfold PySem.W.lookIn;rw[i];dsimp only;split
 ·rename_i y q
  rw[q]at e;exact congrArg some e
 ·rename_i q
  rw[q]at e;have a:f.toList.any (·.refKey)=false:=by
   rw[List.any_eq_false];intro y l;obtain⟨z,t,b⟩:=j y (Array.mem_toList_iff.mp l);simp[DictEntry.refKey,b]
  have m:¬f.toList.any (·.refKey)=true:=by rw[a];exact Bool.false_ne_true
  rw[if_neg m];exact congrArg some e
variable{C:Addr}
theorem bx.look{x:Addr}{b:Str->Option Value}(I:bx h x a C b):∃od,PySem.W.InstAt h x (PySem.W.instObj C a) C (some od)/\∀name,PySem.W.lookIn name od=some (b name):=
 let⟨od,c,d⟩:=Tu I.ns
 ⟨od,⟨I.obj,rfl,rfl,c⟩,d⟩
section
variable{prog:Program} {w:World} {A:Around} {E:Value->Shared->Prop} {s:Shared} {K:vA} {x dx C f:Addr} {mA:Str->Option Value} {name:Str} {v:Value}
end
theorem Gk.some_of{o:Option Value}(r:Gk (some v) o):∃u,o=some u/\RelV v u:=by
 cases o with
 |none=>exact(show False from r).elim
 |some u=>exact⟨u,rfl,r⟩
section
variable{P:Program} {w:World} {H H':Hp} {h h':Heap} {a C dx:Addr} {fs qS:List (Str×V)}
theorem Yk(c:Et P w H h)(e:H a=some (.ins C dx fs)):∃b,bx h a dx C b/\(∀f,Gk (fs.lookup f) (b f))/\PySem.Within b (fs.map (·.1))/\fs.length<=1000/\H dx=some (.own a):=by
 obtain⟨d,z,g,i,b,n,r,q⟩:=(show BJ P w H h a (.ins C dx fs)from c a _ e);exact⟨b,⟨i,n,g⟩,r,q,z,d⟩
end
structure ka(K:vA)(C:Addr):Prop where
 pg:PySem.W.plainGet K C Str.empty=true
 hd:PySem.W.hasDictIn K C=true
 po:PySem.W.plainOver K C=true
 sa:PySem.W.findIn K (.ref C) "__setattr__"=some (some (.builtin "object.__setattr__"))
theorem ka.get(c:ka K C)(f:Str):PySem.W.plainGet K C f=true:=c.pg
section
variable{X:Cx} {pins:List (Addr×Obj)} {σ:St} {H:Hp} {s:Shared} {a C dx:Addr} {fs:List (Str×V)} {f:Str} {v:V} {A:Around} {E:Value->Shared->Prop}
theorem Yl{prog:Program}{env:Env}(c:attributeBase e f env (eval e env)=eval e env)(h:wpAny (model prog w) A (eval e env) (fun o b=>wpAny (model prog w) A (getAttr o f true) Q E b) E s):wpAny (model prog w) A (eval (.Attribute e f pos) env) Q E s:=
 Attribute_any_ h (by rw[arm_eval_Attribute,c])
end
section
variable{X:Cx} {o e value:Expr} {f:Str} {pos pos' kb:Pos} {ta tv:TE}
end
section
variable{X:Cx} {pins:List (Addr×Obj)} {σ:St} {H:Hp} {s:Shared} {A:Around} {E:Value->Shared->Prop} {Q:Value->Shared->Prop} {c:Value} {b:Bool}
inductive Jd(K:vA)(H:Hp):V->Value->Prop where
 |As:Jd K H .As (.type "NoneType")
 |bl (x:Bool):Jd K H (.bl x) (.type "bool")
 |int (i:Int):Jd K H (.int i) (.type "int")
 |str (x:Str):Jd K H (.str x) (.type "str")
 |eY (x:UInt64):Jd K H (.eY x) (.type "float")
 |lst {a:Addr} {xs:List V} (e:H a=some (.lst xs)):Jd K H (.ref a) (.type "list")
 |DT {a:Addr} {o:Obj} {xs:List V} (e:H a=some (.DT o (.lst xs))):Jd K H (.ref a) (.type "list")
 |tup {a:Addr} {xs:List V} (e:H a=some (.tup xs)):Jd K H (.ref a) (.type "tuple")
 |dK {a:Addr} {kvs:List (Key×V)} (e:H a=some (.dK kvs)):Jd K H (.ref a) (.type "dict")
 |dT {a:Addr} {kvs:List (List Key×V)} (e:H a=some (.dT kvs)):Jd K H (.ref a) (.type "dict")
 |ins {a C d:Addr} {fs:List (Str×V)} (e:H a=some (.ins C d fs)) (cl:ka K C) (g:PySem.W.findIn K (.ref C) "__class__"=some (some (.builtin "object.__class__"))) (h:PySem.W.specialIn K (.builtin "object.__class__") "__get__"=some (some (.builtin "getset_descriptor.__get__"))) (f:PySem.W.takesIn K (.builtin "object.__class__")=some true) (j:PySem.W.mroIn K C (.type "object")=some true):Jd K H (.ref a) (.ref C)
theorem Ey{x:V}{t:Value}(I:Inv X pins σ H s)(d:RelV x u)(ty:Jd X.K H x t)(e:PySem.W.kitOne X.K t c=some b)(h:∀tk,Q (.bool b) {s with toks:=tk}):
  wpAny (model X.prog X.w) A (call (.builtin "isinstance") [u,c]) Q E s:=by
 cases ty with
 |As=>cases(show u=Value.none from d);exact PySem.W.kia_one PySem.W.kitx_none I.Fl True.intro e (fun z=>nomatch z) h
 |bl y=>cases(show u=Value.bool y from d);exact PySem.W.kia_one PySem.W.kitx_bool I.Fl True.intro e (fun z=>nomatch z) h
 |int i=>obtain⟨t,q⟩:=(show∃t,u=Value.int i t from d);cases q;exact PySem.W.kia_one PySem.W.kitx_int I.Fl True.intro e (fun z=>nomatch z) h
 |str y=>obtain⟨t,q⟩:=(show∃t,u=Value.str y t from d);cases q;exact PySem.W.kia_one PySem.W.kitx_str I.Fl True.intro e (fun z=>nomatch z) h
 |eY y=>obtain⟨t,q⟩:=(show∃t,u=Value.float y t from d);cases q;exact PySem.W.kia_one PySem.W.kitx_float I.Fl True.intro e (fun z=>nomatch z) h
 |@lst a j f=>
  cases(show u=Value.ref a from d);obtain⟨_,_,n,_,g⟩:=(show BJ X.prog X.w H s.heap a (.lst j)from I.Bb a _ f);exact PySem.W.kia_one PySem.W.kitx_list I.Fl ⟨_,g,rfl⟩ e (fun z=>nomatch z) h
 |@DT a r j f=>
  cases(show u=Value.ref a from d);obtain⟨_,_,_,n,_,g⟩:=(show BJ X.prog X.w H s.heap a (.DT r (.lst j))from I.Bb a _ f);exact PySem.W.kia_one PySem.W.kitx_list I.Fl ⟨_,g,rfl⟩ e (fun z=>nomatch z) h
 |@tup a j f=>
  cases(show u=Value.ref a from d);obtain⟨_,_,_,p⟩:=(show BJ X.prog X.w H s.heap a (.tup j)from I.Bb a _ f);obtain⟨o,g,k,_⟩:=p;exact PySem.W.kia_one PySem.W.kitx_tuple I.Fl ⟨o,g,k⟩ e (fun z=>nomatch z) h
 |@dK a kvs f=>
  cases(show u=Value.ref a from d);obtain⟨_,_,L,_,p⟩:=(show BJ X.prog X.w H s.heap a (.dK kvs)from I.Bb a _ f);obtain⟨o,v,B,g,k,_⟩:=p;exact PySem.W.kia_one PySem.W.kitx_dict I.Fl ⟨o,g,k.1⟩ e (fun z=>nomatch z) h
 |@dT a kvs f=>
  cases(show u=Value.ref a from d);obtain⟨_,_,j,_,o,v,B,g,k,_⟩:=(show BJ X.prog X.w H s.heap a (.dT kvs)from I.Bb a _ f);exact PySem.W.kia_one PySem.W.kitx_dict I.Fl ⟨o,g,k.1⟩ e (fun z=>nomatch z) h
 |@ins a C M fs f m D F l G=>
  cases(show u=Value.ref a from d);obtain⟨N,O,_⟩:=Yk I.Bb f;obtain⟨P,J,_⟩:=O.look;exact PySem.W.kia_one (PySem.W.kitx_own (m.get _) m.hd D F l G) I.Fl J e (fun z=>nomatch z) h
end
structure BZ(k:Nat)(A:Around):Prop where
 hd:A.handled=none
 dp:A.depth+3*k+5<recursionLimit
 un:A.units+16*k+200<cLine
 gd:A.guards=some []
theorem BZ.mono{j k:Nat}(r:BZ k A)(h:j<=k):BZ j A:=⟨r.hd,by have:=r.dp;lia,by have:=r.un;lia,r.gd⟩
theorem BZ.deeper{k:Nat}(r:BZ (k+1) A)(env:Env):BZ k (A.deeper env):=
 ⟨r.hd,by have:=r.dp;show A.depth+1+3*k+5<_;lia,by have:=r.un;show A.units+3+16*k+200<_;lia,r.gd⟩
theorem Qf{a:List Value}{b:List (Str×Value)}:(A.under (.builtin "type.__call__" ⟨.ref C::a,b⟩)).depth=A.depth+1:=by
 first|rfl|simp[Around.under,Code.weight,Code.isCreation,Code.isGuard,Code.isCaller,Code.frames,Code.isFrame,guardIds]
theorem Qg{a:List Value}{b:List (Str×Value)}:(A.under (.builtin "type.__call__" ⟨.ref C::a,b⟩)).units=A.units+1:=by
 first|rfl|simp[Around.under,Code.cUnits,Code.frames,Code.isFrame]
theorem Oc{f:List Value}{h:List (Str×Value)}:(A.under (.builtin "type.__call__" ⟨.ref C::f,h⟩)).guards=A.guards:=by
 have e:(Code.builtin "type.__call__" ⟨.ref C::f,h⟩).isGuard=false:=by show guardIds.contains "type.__call__"=false;decide+kernel
 obtain⟨a,b,c,g,d⟩:=A;cases g<;>simp[Around.under,Code.guards,e,pushGuards]
theorem BZ.make{k:Nat}(r:BZ (k+1) A)(C:Addr)(a:List Value)(b:List (Str×Value)):BZ k (A.under (.builtin "type.__call__" ⟨.ref C::a,b⟩)):=
 ⟨r.hd,by have:=r.dp;rw[Qf];lia,by have:=r.un;rw[Qg];lia,by rw[Oc];exact r.gd⟩
theorem BZ.depth{k:Nat}(r:BZ k A):A.depth<recursionLimit:=by have:=r.dp;lia
theorem BZ.units{k:Nat}(r:BZ k A):A.units+64<cLine:=by have:=r.un;lia
theorem BZ.CJ{k:Nat}(r:BZ k A):A.units<cLine:=by have:=r.un;lia
def bz:TA:=fun _ H Q=>Q [] H
def Vg(b:TE)(tr:TA):TA:=fun a H Q=>b a H fun x c=>tr a c fun d e=>Q (x::d) e
section
variable{X:Cx} {e:Expr} {es:List Expr} {te:TE} {t:TA} {pos:Pos}
theorem CH:PA X [] bz:=fun _ _ _ _ H Q I h=>Calls.spliced_nil ⟨[],H,I,.nil,h⟩
theorem AA(c:PE X e te)(d:PA X es t)(f:starEach (e::es) X.env=(false,eval e X.env)::starEach es X.env:=by rfl):PA X (e::es) (Vg te t):=by
 intro pos pins s b H Q I h;rw[f];show wpAny _ _ (spliced ((false,eval e X.env)::backTo pos (starEach es X.env))) _ _ s;refine Calls.spliced_cons (Bl (c pins s b H _ I h) fun u g a=>a.elim fun x i j k l=>?_);exact Bl (d pos pins g b i _ j l) fun r v a=>a.elim fun m n o p q=>⟨x::m,n,o,.cons k p,q⟩
def kc(t:TA):TE:=fun c H Q=>t c H fun a b=>a.length<=sizeLine/\∀p,b p=none->Q (.ref p) (upd b p (.tup a))
def kd(t:TA):TE:=fun c H Q=>t c H fun a b=>a.length<=sizeLine/\∀p,b p=none->Q (.ref p) (upd b p (.lst a))
theorem AW{f}(h:PA X es t):PE X (.Tuple es f pos) (kc t):=by
 intro pins s g H Q I i;refine wpAny_Tuple_spliced (Bl (h pos pins s g H _ I i) fun j a ⟨k,c,d,r,z,q⟩=>⟨by rw[<-r.length];exact z,?_⟩);have l:c a.heap.objs.size=none:=d.Bb.fresh (Nat.le_refl _);refine⟨.ref a.heap.objs.size,upd c a.heap.objs.size (.tup k),d.laid (t':=a.toks) (fun b u e=>Heap.get?_push_of_some _ e) (Nat.le_refl _) ?_,rfl,q _ l⟩;exact⟨z,j,r,⟨_,Heap.get?_push_size _ rfl,rfl,_,rfl⟩⟩
theorem BB(h:PA X es t):PE X (.List es pos) (kd t):=by
 intro pins s f H Q I g;refine wpAny_List_spliced (Bl (h pos pins s f H _ I g) fun i a ⟨j,c,d,r,z,q⟩=>⟨by rw[<-r.length];exact z,?_⟩);have k:c a.heap.objs.size=none:=d.Bb.fresh (Nat.le_refl _);refine⟨.ref a.heap.objs.size,upd c a.heap.objs.size (.lst j),d.laid (t':=a.toks) (fun b u e=>Heap.get?_push_of_some _ e) (Nat.le_refl _) ?_,rfl,q _ k⟩;exact⟨z,i,0,r,Heap.get?_push_size _ rfl⟩
end
abbrev Sp:=List V->Hp->VK->XK->Prop
abbrev QU:=List Env->Hp->Shared->XK->Value->Shared->Prop
structure Qh(P:Program)(w:World)(K:vA)(mg:Str->Option Value)(base:Heap)(A:Around)(outer:List Env)(s:Shared)(H:Hp):Prop where
 frames:A.frames=some outer
 mod:Mod K mg base
 bs:∀b o,base.get? b=some o->s.heap.get? b=some o/\H b=none
 VP:base.objs.size<=s.heap.objs.size
 IW:s.heap.FunFrames base outer
 aj:∀b∈OY outer,H b=none
 Bb:Et P w H s.heap
 bare:AllBare s.gens
inductive CE(outer:List Env)(P:Program)(w:World)(H:Hp)(s:Shared)(Q:VK)(u:Value)(s':Shared):Prop
 |mk(v:V)(H':Hp)(os:s'.os=s.os)(bare:AllBare s'.gens)(un:Un (OY outer) [] H H' s.heap s'.heap)(a:Et P w H' s'.heap)(r:RelV v u)(q:Q v H')
def CR(CX:QU)(outer:List Env)(P:Program)(w:World)(H:Hp)(s:Shared)(Q:VK)(E:XK)(r:Result)(s':Shared):Prop:=
 match r with
 | .ok (.ret u)=>CE outer P w H s Q u s'
 | .ok _=>False
 | .error e=>CX outer H s E e s'
structure Av(P:Program)(w:World)(K:vA)(mg:Str->Option Value)(base:Heap)(CX:QU)(k:Nat)(f:Addr)(fd:FuncData)(ps:List Str)(sp:Sp):Prop where
 len:∀vs H Q E,sp vs H Q E->vs.length=ps.length
 run:∀(A:Around)(outer:List Env)(s:Shared)(H:Hp)(args:Args)(us:List Value)(vs:List V)(Q:VK)(E:XK),BZ k A->Qh P w K mg base A outer s H->BindsTo s fd args (ps.zip us)->Vals vs us->sp vs H Q E->
  codeAny (model P w) A (.call (.ref f) args) (CR CX outer P w H s Q E) s
variable{mg:Str->Option Value}{base:Heap}{ps:List Str}{CX:QU}
theorem Av.imp{k:Nat}{f:Addr}{c:FuncData}{sp b:Sp}(F:Av P w K mg base CX k f c ps sp)(h:∀a H Q E,b a H Q E->sp a H Q E):Av P w K mg base CX k f c ps b:=
 ⟨fun a H Q E q=>F.len a H Q E (h _ _ _ _ q),fun A outer s H args d a Q E e g i j l=>F.run A outer s H args d a Q E e g i j (h _ _ _ _ l)⟩
variable{outer:List Env}
theorem Qh.make(e:Qh P w K mg base A outer s H)(C:Addr)(a:List Value)(b:List (Str×Value)):
  Qh P w K mg base (A.under (.builtin "type.__call__" ⟨.ref C::a,b⟩)) outer s H:=⟨by first|exact e.frames|(simpa[Around.under,Code.envs,Code.isFrame,pushEnvs]using e.frames),e.mod,e.bs,e.VP,e.IW,e.aj,e.Bb,e.bare⟩
section
variable{X:Cx} {pins:List (Addr×Obj)} {σ:St} {H:Hp} {s s':Shared}
theorem Inv.b_(I:Inv X pins σ H s):Qh X.prog X.w X.K X.mg X.base X.A X.stack s H:=
 ⟨I.ok.frames,I.ok.mod,I.bs,Nat.le_trans I.ok.VP I.sz,I.stack,I.HS,I.Bb,I.bare⟩
theorem Inv.after{Q:VK}(I:Inv X pins σ H s)(h:CE X.stack X.prog X.w H s Q u s'):EP X pins σ Q u s':=by
 obtain⟨v,e,os,bare,un,a,r,q⟩:=h;obtain⟨f,g,d,t,c⟩:=s';obtain rfl:c=s.os:=os;exact⟨v,e,I.call (h':=f) (g':=g) (d':=d) (t':=t) (ch:=[]) un a bare (fun b z=>absurd z (by simp)),r,q⟩
end
def au(sp:Sp)(a:List V)(E:XK)(t:TA):TE:=fun b H Q=>t b H fun c d=>sp (c++a) d Q E
def Binds(K:vA)(b:FuncData)(ps:List Str)(ds:List Value):Prop:=
 ∀(s:Shared)(a:List Value),K.In s.heap->(a++ds).length=ps.length->BindsTo s b ⟨a,[]⟩ (ps.zip (a++ds))
theorem Binds.all{b:FuncData}(h:∀a:List Value,a.length=ps.length->bindArgs b ⟨a,[]⟩=pure (ps.zip a)):Binds K b ps []:=fun s a _ c=>by
 rw[List.append_nil]at c⊢;exact .of_eq (h a c)
def Passes(CX:QU)(X:Cx)(E:XK):Prop:=∀(pins:List (Addr×Obj))(b:St)(H:Hp)(s:Shared)(e:Value)(a:Shared),Inv X pins b H s->CX X.stack H s E e a->X.xe e a
section
variable{X:Cx} {CX:QU} {k:Nat} {f C:Addr} {fd:FuncData} {ps:List Str} {sp:Sp} {aw:List V} {ds:List Value} {E:XK} {x m:Str} {p pos apos:Pos} {e o:Expr} {es:List Expr} {ta:TE} {t:TA}
theorem cA{Q:VK}{a:List Value}{c:List V}(F:Av X.prog X.w X.K X.mg X.base CX k f fd ps sp)(g:BZ k X.A)(i:Binds X.K fd ps ds)(j:Vals aw ds)(l:Passes CX X E)(I:Inv X pins σ H s)(r:Vals c a)(h:sp (c++aw) H Q E):wpAny (model X.prog X.w) X.A (call (.ref f) a) (EP X pins σ Q) X.xe s:=by
 have d:Vals (c++aw) (a++ds):=r.append j;have n:(a++ds).length=ps.length:=by rw[<-d.length];exact F.len _ _ _ _ h
 refine wpAny_call (codeAny_mono (F.run X.A X.stack s H ⟨a,[]⟩ (a++ds) (c++aw) Q E g I.b_ (i s a I.Fl n) d h) fun r q b=>?_);cases r with
 |error e=>exact l pins σ H s e q I b
 |ok v=>
  cases v with
  |ret u=>exact I.after b
  |next=>exact False.elim b
  |brk=>exact False.elim b
  |cont=>exact False.elim b
theorem Ym(F:Av X.prog X.w X.K X.mg X.base CX k f fd ps sp)(d:BZ k X.A)(g:Gl X x)(i:X.mg x=some (.ref f))(j:PySem.W.keepIn X.K (.ref f)=true)(l:Binds X.K fd ps ds)(n:Vals aw ds)(u:Passes CX X E)(v:PA X (e::es) t)(a:(x==("__debug__":Str))=false:=by decide)(y:starEach (e::es) X.env=(false,eval e X.env)::starEach es X.env:=by rfl)(b:(backTo pos (starEach es X.env)).any (·.1)=false:=by rfl):
  PE X (.Call (.Name x p) (e::es) [] pos) (au sp aw E t):=by
 intro pins s z H Q I h;refine wpAny_Call_Name_kw (HU I g i ?_ a);refine PySem.W.callWith_K (h₀:=X.base) I.ok.mod.bZ j (Bl (v pos pins s z H _ I h) fun D G B=>B.elim fun J L c r q=>⟨c.Fl,?_⟩) y b;exact cA F d l n u c r q
end
section
variable{X:Cx} {CX:QU} {k:Nat} {f C:Addr} {fd:FuncData} {ps ks:List Str} {sp:Sp} {E:XK} {x m:Str} {p pos apos qi:Pos} {e o:Expr} {es:List Expr} {uH:List Keyword} {te ta:TE} {t tk:TA} {nm:Option Str}
variable{g:List Value->List Value->List Value} {gV:List V->List V->List V}
end
structure AU(N P:List Str)(sc:Scope):Prop where
 kind:sc.kind=.function:=by rfl
 co:sc.isCoroutine=false:=by rfl
 gen:sc.isGenerator=false:=by rfl
 nd:N.Nodup:=by decide+kernel
 pre:N.take P.length=P:=by rfl
 par:∀x∈P,sc.names.lookup x=some .local∨sc.names.lookup x=some .cell:=by decide+kernel
 cC:∀y∈sc.names,y.2≠.free:=by decide+kernel
theorem Lw{kindOf:Str->Option NameKind}{x:Str}:∀{binds:List (Str×Value)}{m:Str->Option Value},(∀v,(x,v)∉binds)->bindL kindOf binds m x=m x
 |[],_,_=>rfl
 |(n,v)::r,m,h=>by
  unfold bindL;rw[Lw fun w hw=>h w (List.mem_cons_of_mem _ hw)];split
  ·have:x≠n:=by rintro rfl;exact h v List.mem_cons_self
   simp[this]
  ·rfl
theorem Lx{kindOf:Str->Option NameKind}{x:Str}:∀{binds:List (Str×Value)}{m:Str->Option Value},(∀v,(x,v)∉binds)->bindC kindOf binds m x=m x
 |[],_,_=>rfl
 |(n,v)::r,m,h=>by
  unfold bindC;rw[Lx fun w hw=>h w (List.mem_cons_of_mem _ hw)];split
  ·rfl
  ·have:x≠n:=by rintro rfl;exact h v List.mem_cons_self
   simp[this]
theorem Ly{kindOf:Str->Option NameKind}{x:Str}{v:Value}:∀{P:List Str}{a:List Value}{i:Nat}{m:Str->Option Value},P.Nodup->P[i]?=some x->a[i]?=some v->kindOf x=some .local->
  bindL kindOf (P.zip a) m x=some v
 |[],_,_,_,_,h,_,_=>by simp at h
 |_::_,[],_,_,_,_,h,_=>by simp at h
 |p::P,w::a,0,m,d,b,c,e=>by
  simp at b c;subst b;subst c;show bindL kindOf ((p,w)::P.zip a) m p=_;unfold bindL;rw[Lw fun v f=>(List.nodup_cons.mp d).1 (List.of_mem_zip f).1,if_pos e];simp
 |p::P,w::a,i+1,m,d,b,c,e=>by
  show bindL kindOf ((p,w)::P.zip a) m x=_;unfold bindL;exact Ly (i:=i) (List.nodup_cons.mp d).2 (by simpa using b) (by simpa using c) e
theorem Lz{kindOf:Str->Option NameKind}{x:Str}{v:Value}:∀{P:List Str}{a:List Value}{i:Nat}{m:Str->Option Value},P.Nodup->P[i]?=some x->a[i]?=some v->kindOf x≠some .local->
  bindC kindOf (P.zip a) m x=some v
 |[],_,_,_,_,h,_,_=>by simp at h
 |_::_,[],_,_,_,_,h,_=>by simp at h
 |p::P,w::a,0,m,d,b,c,e=>by
  simp at b c;subst b;subst c;show bindC kindOf ((p,w)::P.zip a) m p=_;unfold bindC;rw[Lx fun v f=>(List.nodup_cons.mp d).1 (List.of_mem_zip f).1,if_neg e];simp
 |p::P,w::a,i+1,m,d,b,c,e=>by
  show bindC kindOf ((p,w)::P.zip a) m x=_;unfold bindC;exact Lz (i:=i) (List.nodup_cons.mp d).2 (by simpa using b) (by simpa using c) e
def start(N:List Str)(a:List V):St:=a.map some++List.replicate (N.length-a.length) none
def La(CX:QU)(P:Program)(w:World)(K:vA)(mg:Str->Option Value)(base:Heap)(N:List Str)(qual:Str)(scope:Scope)(f:Addr)(cd:Value)(A:Around)(outer:List Env)(s:Shared)(H:Hp)(E:XK):Cx where
 prog:=P
 w:=w
 K:=K
 mg:=mg
 base:=base
 A:=A.deeper (envOfC qual scope s.heap.objs.size f cd)
 N:=N
 s₀:=s
 H₀:=H
 env:=envOfC qual scope s.heap.objs.size f cd
 outer:=outer
 stack:=envOfC qual scope s.heap.objs.size f cd::outer
 ex:=[]
 calm:=true
 fn:=fun _=>true
 pn:=[]
 xe:=fun e s'=>wpAny (model P w) (A.deeper (envOfC qual scope s.heap.objs.size f cd)) (leaving (envOfC qual scope s.heap.objs.size f cd) e) (fun _ jZ=>CX outer H s E e jZ) (fun e' jZ=>CX outer H s E e' jZ) s'
theorem Od{a:Scope}(h:a.names.lookup x=some .cell):∃c,(cellsFrom n a.names []).lookup x=some c:=by
 have q:=PySem.W.cellsFrom_some a.names n [] (.inl h);exact Option.isSome_iff_exists.mp q
variable{scope:Scope}
theorem Tv{qual:Str}{f:Addr}{B:Value}{G:Shared}{E:XK}{F:List Value}{j:List V}(S:AU N ps scope)(L:A.handled=none)(g:Qh P w K mg base A outer s H)(R:j.length=ps.length)(r:Vals j F)(x:InCallC s s.heap.objs.size (bindL (envOfC qual scope s.heap.objs.size f B).kindOf (ps.zip F) fun _=>none) (cellsFrom (s.heap.objs.size+1) scope.names []) (bindC (envOfC qual scope s.heap.objs.size f B).kindOf (ps.zip F) fun _=>none) G):
  Inv (La CX P w K mg base N qual scope f B A outer s H E) [] (start N j) H G:=by
 have M:ps.length<=N.length:=by have:=congrArg List.length S.pre;rw[List.length_take]at this;lia
 obtain⟨C,T,rfl,I⟩:=x.done;have l:∀b:Addr,b∉(La CX P w K mg base N qual scope f B A outer s H E).ex:=fun b z=>absurd (show b∈([]:List Addr)from z) (by simp);refine⟨⟨g.mod,S.kind,rfl,rfl,Nat.le_refl _,fun y z c C d=>?_,fun y m=>?_,fun y c _ h=>?_,fun _=>L,Around.frames_deeper g.frames,.inr ⟨rfl,rfl⟩,fun b z=>absurd z (l b),g.bs,g.VP,fun b _ _=>l b,fun b z=>absurd z (l b),g.IW,g.aj⟩,
  rfl,g.bare,Un.kept I,⟨_,x.toInCall.ns,fun i y v C d U=>?_⟩,fun y c h=>⟨_,x.cell y c h⟩,g.Bb.fresh (Nat.le_refl _),fun y c h=>?_,fun p o=>absurd (show p∈([]:List (Addr×Obj))from o) (by simp),g.Bb.kept I,?_⟩
 ·exact name_of_addr x.apart (PySem.mem_of_lookup C) (PySem.mem_of_lookup d)
 ·have m:scope.names.lookup y=some .cell∨scope.names.lookup y=some .free:=m;rcases m with m|m
  ·exact Od m
  ·exact absurd rfl (S.cC _ (PySem.mem_of_lookup m))
 ·exact Nat.le_of_lt (x.above y c (PySem.mem_of_lookup h))
 ·have D:i<j.length:=by
   unfold start at d;by_cases D:i<j.length
   ·exact D
   ·rw[List.getElem?_append_right (by simpa using D)]at d;rw[List.getElem?_replicate]at d;split at d<;>cases d
  have O:j[i]?=some v:=by
   unfold start at d;rw[List.getElem?_append_left (by simpa using D),List.getElem?_map]at d;cases e:j[i]? with
   |none=>rw[e]at d;cases d
   |some a=>rw[e]at d;cases d;rfl
  obtain⟨u,J,Q⟩:=r.get O;have o:ps[i]?=some y:=by
   rw[<-S.pre,List.getElem?_take_of_lt (by lia)];exact C
  have t:ps.Nodup:=by rw[<-S.pre];exact S.nd.sublist (List.take_sublist _ _)
  refine⟨u,Q,?_⟩;rcases S.par y (u_ o)with k|k
  ·exact .inl ⟨k,Ly t o J k⟩
  ·obtain⟨c,e⟩:=Od (n:=s.heap.objs.size+1) k;refine .inr ⟨.inl k,c,e,?_⟩;have q:=x.cell y c e;rw[Lz t o J (by show scope.names.lookup y≠_;rw[k];decide)]at q;exact q
 ·exact g.Bb.fresh (Nat.le_of_lt (x.above y c (PySem.mem_of_lookup h)))
 ·unfold start;show _=N.length;rw[List.length_append,List.length_map,List.length_replicate];lia
theorem ax{k:Nat}{f:Addr}{name qual:Str}{params:Arguments}{G kV doc L a ct T:Value}{M od:Option Addr}{p:Array (Option Value)}{sp:Sp}(lk:K.lookup f=some ⟨T,od,.func (PySem.W.fnOf name qual params body scope G kV doc L M a ct),p⟩)(z:PySem.W.codeIn K a qual=true)(S:AU N ps scope)(len:∀c H Q E,sp c H Q E->c.length=ps.length)(h:∀(A:Around) (outer:List Env) (s:Shared) (H:Hp) (c:List V) (Q:VK) (E:XK),BZ k (A.deeper (envOfC qual scope s.heap.objs.size f a))->sp c H Q E->
   ∃t,Lr (La CX P w K mg base N qual scope f a A outer s H E) body t/\t {nx:=fun _ g=>Q .As g,rt:=Q} (start N c) H):
  Av P w K mg base CX (k+1) f (PySem.W.fnOf name qual params body scope G kV doc L M a ct) ps sp:=by
 refine⟨len,fun A outer s H args U c Q E B l X r m=>?_⟩;have Y:=len _ _ _ _ m;have O:K.In s.heap:=l.mod.bZ.keeps fun b o e=>(l.bs b o e).1;have C:s.heap.NoLimit:=l.mod.nolimit.keeps fun b o e=>(l.bs b o e).1;have i:∀y∈ps.zip U,scope.names.lookup y.1=some .local∨(scope.names.lookup y.1=some .cell/\((cellsFrom (s.heap.objs.size+1) scope.names []).lookup y.1).isSome=true):=fun⟨n,v⟩ Z=>by
  rcases S.par n (List.of_mem_zip Z).1 with q|q
  ·exact .inl q
  ·exact .inr ⟨q,PySem.W.cellsFrom_some _ _ _ (.inl q)⟩
 refine codeAny_call_function B.depth (O _ _ lk) rfl S.co S.gen rfl (PySem.W.codeRec_of O z) (X _ _ _ _ ?_);refine wpAny_newFunctionEnv_cells S.kind i fun env he R x=>?_;subst he;refine⟨C.keeps x.toInCall.keep,codeAny_func ?_⟩;obtain⟨t,ht,hq⟩:=h A outer s H c Q E (B.deeper _) m;have I:Inv (La CX P w K mg base N qual scope f a A outer s H E) [] (start N c) H R:=Tv S B.hd l Y r x;refine wpAny_mono (ht [] R (start N c) H _ I hq) (fun fl D j=>?_) fun e D j=>j;have fin:∀{d:St}{g:Hp}{v:V}{u:Value},Inv (La CX P w K mg base N qual scope f a A outer s H E) [] d g D->RelV v u->Q v g->CE outer P w H s Q u D:=
  fun{d g v u} J F q=>⟨v,g,J.os,J.bare,J.base,J.Bb,F,q⟩
 cases fl with
 |ret u=>
  obtain⟨v,d,g,J,F,q⟩:=j;exact fin J F q
 |next=>
  obtain⟨d,g,J,q⟩:=j;exact fin (v:=V.As) (u:=Value.none) J rfl q
 |brk=>
  obtain⟨_,_,_,q⟩:=j;exact False.elim q
 |cont=>
  obtain⟨_,_,_,q⟩:=j;exact False.elim q
section
variable{X:Cx} {x:Str} {p pos:Pos} {e:Expr} {es:List Expr} {t:TA} {id T:String} {r:List V->Hp->VK->Prop}
def ke(r:List V->Hp->VK->Prop)(t:TA):TE:=fun a H Q=>t a H fun b c=>r b c Q
theorem Aa(d:CW X (.builtin id) r)(f:Gl X x)(g:X.mg x=none)(i:bootBuiltins x=some (.builtin id))(j:PA X (e::es) t)(k:x≠"__name__":=by decide)(a:(x==("__debug__":Str))=false:=by decide)(l:starEach (e::es) X.env=(false,eval e X.env)::starEach es X.env:=by rfl)(b:(backTo pos (starEach es X.env)).any (·.1)=false:=by rfl):PE X (.Call (.Name x p) (e::es) [] pos) (ke r t):=by
 intro pins s c H Q I h;refine wpAny_Call_Name_kw (Gn I f g i ?_ k a);exact PyProof.Rows.callWith_builtin1 (Bl (j pos pins s c H _ I h) fun m n o=>o.elim fun q u v w y=>d pins n c u q m Q v w y) l b
theorem Cq(d:CW X (.type T) r)(f:Gl X x)(g:X.mg x=none)(i:bootBuiltins x=some (.type T))(j:PA X (e::es) t)(k:x≠"__name__":=by decide)(a:(x==("__debug__":Str))=false:=by decide)(l:starEach (e::es) X.env=(false,eval e X.env)::starEach es X.env:=by rfl)(b:(backTo pos (starEach es X.env)).any (·.1)=false:=by rfl):PE X (.Call (.Name x p) (e::es) [] pos) (ke r t):=by
 intro pins s c H Q I h;refine wpAny_Call_Name_kw (Gn I f g i ?_ k a);exact PyProof.Rows.callWith_type1 (Bl (j pos pins s c H _ I h) fun m n o=>o.elim fun q u v w y=>d pins n c u q m Q v w y) l b
end
end L2
namespace HT
open PySem PyProof.Rows
section
open PySem.SeqAt
open PySem.AutoSeq1 (wpAny_loadPart')
open PySem.MeetsSeq PySem.MeetsSeq2 PySem.MeetsSeq3
end
variable{Q:Value->Shared->Prop}
section
variable{prog:Program} {w:World} {A:Around} {E:Value->Shared->Prop} {s:Shared}
theorem Yn{t b:Addr}{c ws:List Value}(u:IsTup s.heap t c.toArray)(v:IsTup s.heap b ws.toArray)(k:c≠[])(x:ws=[]->Q (.ref t) s)(y:ws≠[]->Q (.ref s.heap.objs.size) {s with heap:=s.heap.push {cls:=.type "tuple",data:=.seq (c++ws).toArray}})(j:c.length+ws.length<=sizeLine):wpAny (model prog w) A (binaryOp .Add (.ref t) (.ref b)) Q E s:=by
 obtain⟨⟨cls,l,data,m⟩,i,o,n,p⟩:=id u;obtain⟨⟨q,d,data2,f⟩,a,g,r,h⟩:=id v;simp only at o p g h;subst o p g h;have e:c.toArray++ws.toArray=(c++ws).toArray:=by simp
 by_cases hw:ws=[]
 ·exact concat_meets ⟨_,i,rfl⟩ ⟨_,a,rfl⟩ noFill_tuple_add seq_tuple_add PySem.F.slot_tuple_add PySem.F.entry_tuple_add (PySem.F.args_tuple_add_2 _ _) (tuple_addW1 t b c.toArray ws.toArray n r l d m f (by simpa using k) (by simp[hw])) ⟨i,a,x hw⟩
 ·refine concat_meets ⟨_,i,rfl⟩ ⟨_,a,rfl⟩ noFill_tuple_add seq_tuple_add PySem.F.slot_tuple_add PySem.F.entry_tuple_add (PySem.F.args_tuple_add_2 _ _) (tuple_addW2 t b c.toArray ws.toArray n r l d m f (by simpa using k) (by simpa using hw) (by rw[List.size_toArray,List.size_toArray];exact j)) ⟨i,a,?_⟩;rw[e];exact y hw
noncomputable def CY(n d:Nat):Option Int->Nat
 |none=>d
 |some v=>if v<0 then(v+(n:Int)).toNat else min v.toNat n
theorem Oe(n d:Nat):CY n d none=d:=rfl
theorem SU(n d k:Nat):CY n d (some (k:Int))=min k n:=by
 show(if(k:Int)<0 then((k:Int)+(n:Int)).toNat else min (k:Int).toNat n)=min k n;rw[if_neg (by lia),Int.toNat_natCast]
theorem cD(n d:Nat)(b:d<=n)(o:Option Int):CY n d o<=n:=by
 cases o with
 |none=>exact b
 |some v=>
  show(if v<0 then(v+(n:Int)).toNat else min v.toNat n)<=n;by_cases a:v<0
  ·rw[if_pos a];lia
  ·rw[if_neg a];exact Nat.min_le_right _ _
theorem SV(v:Int)(n d:Nat):(if v<0 then max (v+(n:Int)) 0 else min v (n:Int))=((CY n d (some v):Nat):Int):=by
 show(if v<0 then max (v+(n:Int)) 0 else min v (n:Int))=(((if v<0 then(v+(n:Int)).toNat else min v.toNat n):Nat):Int);by_cases a:v<0
 ·simp only[if_pos a];exact(Int.toNat_eq_max _).symm
 ·simp only[if_neg a];obtain⟨m,rfl⟩:=Int.eq_ofNat_of_zero_le (Int.not_lt.mp a);show min (m:Int) (n:Int)=((min m n:Nat):Int);by_cases h:m<=n
  ·rw[Nat.min_eq_left h,Int.min_eq_left (Int.ofNat_le.mpr h)]
  ·rw[Nat.min_eq_right (Nat.le_of_not_le h),Int.min_eq_right (Int.ofNat_le.mpr (Nat.le_of_not_le h))]
theorem Qi(lo a:Option Int)(n:Nat):Builtin.Slice.sliceAdjust lo a 1 (n:Int)=(((CY n 0 lo:Nat):Int),((CY n n a:Nat):Int)):=by
 have b:¬((1:Int)<0):=by lia
 unfold Builtin.Slice.sliceAdjust;simp only[b,if_false];refine Prod.ext ?_ ?_
 ·cases lo with
  |none=>rfl
  |some v=>exact SV v n 0
 ·cases a with
  |none=>rfl
  |some v=>exact SV v n n
theorem Qj(i j:Nat):Builtin.Slice.slicePlaces (i:Int) (j:Int) 1=j-i:=by
 unfold Builtin.Slice.slicePlaces;have a:(1:Int)>0:=by lia
 simp only[a,if_true,Int.ediv_one];split<;>lia
theorem KN{v:Value}{o:Option Int}{Q:Option Int->Shared->Prop}(p:IsPart v o)(h:Q o s):wpAny (model prog w) A (Builtin.Slice.slicePartIndex v) Q E s:=by
 cases p with
 |none=>exact slicePart_none h
 |int i t=>exact slicePart_int h
theorem Ez{f:Addr}{d e:Value}{lo a:Option Int}{n:Nat}{Q:Int×Int×Nat->Shared->Prop}(g:s.heap.IsSliceOf f d e .none)(i:IsPart d lo)(j:IsPart e a)(h:Q (((CY n 0 lo:Nat):Int),1,CY n n a-CY n 0 lo) s):wpAny (model prog w) A (Builtin.Slice.sliceApplied (.ref f) (pure (n:Int))) Q E s:=by
 obtain⟨os,b,k,c⟩:=id g;unfold Builtin.Slice.sliceApplied Builtin.Slice.sliceFields;refine wpAny_bind (wpAny_bind (wpAny_field b c (x:=d) rfl (wpAny_bind (wpAny_field b c (x:=e) rfl (wpAny_bind (wpAny_field b c (x:=.none) rfl (wpAny_pure ?_)))))));refine wpAny_bind (slicePart_none ?_);show wpAny _ _ (if((1:Int)==0)=true then _ else _) _ _ s;rw[if_neg (by decide)];refine wpAny_bind (KN i (wpAny_bind (KN j (wpAny_bind (wpAny_pure ?_)))));show wpAny _ _ (match Builtin.Slice.sliceAdjust lo a 1 (n:Int)with|(lo,a)=>pure (lo,(1:Int),Builtin.Slice.slicePlaces lo a 1)) _ _ s;rw[Qi lo a n];show wpAny _ _ (pure (((CY n 0 lo:Nat):Int),(1:Int),Builtin.Slice.slicePlaces ((CY n 0 lo:Nat):Int) ((CY n n a:Nat):Int) 1)) _ _ s;rw[Qj];exact wpAny_pure h
theorem Vh(xs:Array Value)(i k:Nat):((List.range k).filterMap fun(m:Nat)=>xs[((i:Int)+(m:Int)*1).toNat]?).toArray=((xs.toList.drop i).take k).toArray:=by
 have e:(fun(m:Nat)=>xs[((i:Int)+(m:Int)*1).toNat]?)=fun m=>xs[i+m]?:=by
  funext m;have:((i:Int)+(m:Int)*1).toNat=i+m:=by lia
  rw[this]
 rw[e];have:=pick_run xs i k;rw[List.filterMap_map]at this;have a:((fun x=>xs[x]?)∘fun x=>i+x)=fun m=>xs[i+m]?:=rfl;rw[a]at this;rw[this]
theorem HV{t d:Addr}{items:Array Value}{j k:Value}{lo b:Option Int}(c:IsTup s.heap t items)(l:s.heap.IsSliceOf d j k .none)(n:IsPart j lo)(o:IsPart k b)(hw:¬(CY items.size 0 lo=0/\CY items.size items.size b=items.size))(h:Q (.ref s.heap.objs.size) {s with heap:=s.heap.push {cls:=.type "tuple",data:=.seq ((items.toList.drop (CY items.size 0 lo)).take (CY items.size items.size b-CY items.size 0 lo)).toArray}})(p:items.size<=sizeLine):wpAny (model prog w) A (getItem (.ref t) (.ref d)) Q E s:=by
 have a:sizeOk (.seq ((items.toList.drop (CY items.size 0 lo)).take (CY items.size items.size b-CY items.size 0 lo)).toArray):=by
  show((items.toList.drop (CY items.size 0 lo)).take (CY items.size items.size b-CY items.size 0 lo)).toArray.size<=sizeLine;rw[List.size_toArray,List.length_take,List.length_drop,Array.length_toList];lia
 have u:CY items.size items.size b<=items.size:=cD _ _ (Nat.le_refl _) b;obtain⟨os,e,f,r⟩:=id l;have g:s.TypeIs (.ref d) "slice":=⟨os,e,f⟩;unfold getItem
 try with_reducible refine wpAny_holding ?_
 first|refine wpAny_bind (wpAny_pure ?_)|skip
 refine wpAny_bind (wpAny_sequenceKey c.typeIs (by decide) ?_);refine wpAny_bind (wpAny_callSpecial?_slot (name:=Str.ofString "__getitem__") c.typeIs PyProof.Rows.slot_tuple_getitem (wpAny_call_entry PyProof.Rows.slot_tuple_getitem c.typeIs entry_tuple_getitem ?_ (args_tuple_getitem _ _)));show wpAny _ _ (Builtin.Tuple.tupleItemsOf (.ref t)>>=_) _ _ s;refine wpAny_bind (tupleItemsOf_ c ?_);refine wpAny_bind (wpAny_typeOf g ?_);rw[if_pos (by decide)];refine wpAny_bind (Ez l n o ?_);have i:¬((((CY items.size 0 lo:Nat):Int)==0&&(1:Int)==1&&(CY items.size items.size b-CY items.size 0 lo)==items.size)=true):=by
  intro q;rw[Bool.and_eq_true,Bool.and_eq_true]at q;have v:((CY items.size 0 lo:Nat):Int)=0:=eq_of_beq q.1.1;have x:CY items.size items.size b-CY items.size 0 lo=items.size:=eq_of_beq q.2;exact hw ⟨by lia,by lia⟩
 show wpAny _ _ (if(((CY items.size 0 lo:Nat):Int)==0&&(1:Int)==1&&(CY items.size items.size b-CY items.size 0 lo)==items.size)=true then _ else _) _ _ s;rw[if_neg i,Vh]
 first
  |exact wpAny_bind (m:=Builtin.Tuple.tupleExact _) (wpAny_newObj_type (wpAny_pure ⟨_,rfl,wpAny_pure h⟩) a)
  |exact wpAny_bind (m:=Builtin.Tuple.tupleExact _) (wpAny_newObj_type (wpAny_bind (wpAny_pure (wpAny_pure ⟨_,rfl,wpAny_pure h⟩))) a)
  |exact wpAny_bind (wpAny_bind (m:=Builtin.Tuple.tupleExact _) (wpAny_newObj_type (wpAny_pure (wpAny_pure ⟨_,rfl,wpAny_pure h⟩)) a))
  |exact wpAny_bind (wpAny_bind (m:=Builtin.Tuple.tupleExact _) (wpAny_newObj_type (wpAny_pure ⟨_,rfl,wpAny_pure h⟩) a))
end
end HT
namespace L2
open PySem PySem.Spec PyProof.Rows
abbrev TO:=St->Hp->(Option Int->Hp->Prop)->Prop
def PO(X:Cx)(e:Option Expr)(t:TO):Prop:=
 ∀(pins:List (Addr×Obj))(s:Shared)(a:St)(H:Hp)(Q:Option Int->Hp->Prop),Inv X pins a H s->t a H Q->
  wpAny (model X.prog X.w) X.A (evalPart e X.env) (fun u c=>∃o b,Inv X pins a b c/\IsPart u o/\Q o b) X.xe s
def Yo:TO:=fun _ H Q=>Q none H
def gF(t:TE):TO:=fun a H Q=>t a H fun x b=>qW x b Q
variable{a:List Value}
section
variable{X:Cx} {e:Expr} {te:TE} {lo hi:Option Expr} {tl th:TO} {pos p2:Pos}
theorem Ax:PO X none Yo:=by
 intro pins s a H Q I h;rw[evalPart_none];exact wpAny_pure ⟨none,H,I,.none,h⟩
theorem Au(h:PE X e te):PO X (some e) (gF te):=by
 intro pins s a H Q I hw;rw[evalPart_some];refine Bl (h pins s a H _ I hw) fun u j b=>b.elim fun x c d f g=>?_;obtain⟨i,rfl,q⟩:=g;obtain⟨t,rfl⟩:=f;exact⟨some i,c,d,.int i t,q⟩
def gG(X:Cx)(r:V->Option Int->Option Int->Hp->VK->Prop):Prop:=
 ∀(pins:List (Addr×Obj))(s:Shared)(a:St)(H:Hp)(x:V)(v b c:Value)(lo hi:Option Int)(d:Addr)(Q:VK),Inv X pins a H s->RelV x v->s.heap.IsSliceOf d b c .none->IsPart b lo->IsPart c hi->r x lo hi H Q->
  ∃T id,typeLookup (.type T) "__getitem__"=pure (some (.builtin id))/\s.TypeIs v T/\wpAny (model X.prog X.w) X.A (getItem v (.ref d)) (EP X pins a Q) X.xe s
def qk(r:V->Option Int->Option Int->Hp->VK->Prop)(te:TE)(tl th:TO):TE:=fun a H Q=>te a H fun x b=>tl a b fun l c=>th a c fun u d=>r x l u d Q
theorem Ai{r:V->Option Int->Option Int->Hp->VK->Prop}(i:gG X r)(j:PE X e te)(k:PO X lo tl)(m:PO X hi th):PE X (.Subscript e (.Slice lo hi none p2) pos) (qk r te tl th):=by
 intro pins s c H Q I h;refine Subscript_ (Bl (j pins s c H _ I h) fun v n o=>o.elim fun x p t y z=>?_);refine wpAny_Slice (Bl (k pins n c p _ t z) fun d B ⟨l,C,D,E,F⟩=>Bl (m pins B c C _ D F) fun f a ⟨u,g,G,J,K⟩=>?_);rw[evalPart_none];refine wpAny_pure ?_;have L:Inv X pins c g {a with heap:=a.heap.push {cls:=.type "slice",data:=.fields #[d,f,.none]}}:=G.kept (t':=a.toks) fun b P q=>Heap.get?_push_of_some _ q;obtain⟨T,id,M,N,O⟩:=i pins {a with heap:=a.heap.push {cls:=.type "slice",data:=.fields #[d,f,.none]}} c g x v d f l u a.heap.objs.size Q L y (Heap.IsSliceOf.new ..) E J K;show wpAny (model X.prog X.w) X.A (subscriptTail e (.Slice lo hi none p2) v (.ref a.heap.objs.size)) (EP X pins c Q) X.xe {a with heap:=a.heap.push {cls:=.type "slice",data:=.fields #[d,f,.none]}};exact tail_any (ops:=[.ref a.heap.objs.size,v]) N M O (by with_unfolding_all rfl)
def FQ(xs:List V)(lo hi:Option Int):List V:=(xs.drop (HT.CY xs.length 0 lo)).take (HT.CY xs.length xs.length hi-HT.CY xs.length 0 lo)
theorem JK(xs:List V)(lo hi:Option Int):(FQ xs lo hi).length<=xs.length:=by
 unfold FQ;rw[List.length_take,List.length_drop];lia
inductive gH(K:vA)(x:V)(lo hi:Option Int)(H:Hp)(Q:VK):Prop
 |mk(a xs:_)(b:x=.ref a)(c:Ah K H a xs)(d:¬(HT.CY xs.length 0 lo=0/\HT.CY xs.length xs.length hi=xs.length))(f:∀p,H p=none->Q (.ref p) (upd H p (.tup (FQ xs lo hi))))
def kf(K:vA):V->Option Int->Option Int->Hp->VK->Prop:=fun x lo hi H Q=>gH K x lo hi H Q
theorem cE:gG X (kf X.K):=by
 intro pins s n H x v p t lo hi u Q I i j k l h;obtain⟨a,c,rfl,m,hw,q⟩:=h;cases i;obtain⟨d,r,f,g⟩:=I.tuple m;have hlen:d.toArray.size=c.length:=by rw[List.size_toArray];exact r.length.symm
 refine⟨"tuple",_,PyProof.Rows.slot_tuple_getitem.lookup,f.typeIs,?_⟩;refine HT.HV f j k l (by rw[hlen];exact hw) ?_ (by rw[hlen];exact g);rw[hlen];refine⟨.ref s.heap.objs.size,_,I.laid (t':=s.toks) (o:=.tup (FQ c lo hi)) (fun b w q=>Heap.get?_push_of_some _ q) (Nat.le_refl _) ?_,rfl,q _ (I.Bb.fresh (Nat.le_refl _))⟩;exact⟨Nat.le_trans (JK c lo hi) g,_,(r.drop (HT.CY c.length 0 lo)).take (HT.CY c.length c.length hi-HT.CY c.length 0 lo),IsTup.new _ _⟩
inductive cF(K:vA)(x y:V)(H:Hp)(Q:VK):Prop
 |mk(a b xs ys:_)(c:x=.ref a)(d:y=.ref b)(f:Ah K H a xs)(g:Ah K H b ys)(h:xs≠[])(i:xs.length+ys.length<=sizeLine)(j:(ys=[]->Q (.ref a) H))(k:(ys≠[]->∀p,H p=none->Q (.ref p) (upd H p (.tup (xs++ys)))))
def gI(K:vA):R2:=fun x y H Q=>cF K x y H Q
theorem Vals.Jo{xs:List V}(r:Vals xs a):a=[]↔xs=[]:=by
 cases r with
 |nil=>simp
 |cons _ _=>simp
theorem Yp:Dg X (binaryOp .Add) (gI X.K):=by
 intro pins s C H x y v u Q I i j h;obtain⟨a,b,k,l,rfl,rfl,m,n,p,f,r,t⟩:=h;cases i;cases j;obtain⟨A,d,B,_⟩:=I.tuple m;obtain⟨g,c,p2,_⟩:=I.tuple n;refine HT.Yn B p2 (fun z=>p (d.Jo.mp z)) (fun z=>⟨.ref a,H,I,rfl,r (c.Jo.mp z)⟩) (fun z=>?_) (by rw[<-d.length,<-c.length];exact f);refine⟨.ref s.heap.objs.size,_,I.laid (t':=s.toks) (o:=.tup (k++l)) (fun b D q=>Heap.get?_push_of_some _ q) (Nat.le_refl _) ?_,rfl,t (fun w=>z (c.Jo.mpr w)) _ (I.Bb.fresh (Nat.le_refl _))⟩;exact⟨by rw[List.length_append];exact f,_,d.append c,IsTup.new _ _⟩
end
def Qk(n:Nat)(i:Int):Option Nat:=if 0<=i then(if i<n then some i.toNat else none)else if-(n:Int)<=i then some (i+n).toNat else none
def Of{a:Type}(xs:List a)(i:Int):Option a:=(Qk xs.length i).bind fun j=>xs[j]?
variable{n:Nat}
theorem Jp{i:Int}{j:Nat}(h:Qk n i=some j):seqIndex? i n=some j/\j<n/\ -(n:Int)<=i/\i<n:=by
 unfold Qk at h;by_cases b:0<=i
 ·rw[if_pos b]at h;by_cases a:i<n
  ·rw[if_pos a]at h;have e:i.toNat=j:=uz h;exact⟨by rw[seqIndex_of b a,e],by lia,by lia,a⟩
  ·rw[if_neg a]at h;cases h
 ·rw[if_neg b]at h;by_cases a: -(n:Int)<=i
  ·rw[if_pos a]at h;have e:(i+n).toNat=j:=uz h;exact⟨by rw[seqIndex_neg (by lia) a,e],by lia,a,by lia⟩
  ·rw[if_neg a]at h;cases h
theorem HW{a:Type}{xs:List a}{i:Int}{v:a}(h:Of xs i=some v):∃j,seqIndex? i xs.length=some j/\xs[j]?=some v/\j<xs.length/\ -(xs.length:Int)<=i/\i<xs.length:=by
 unfold Of at h;cases e:Qk xs.length i with
 |none=>rw[e]at h;cases h
 |some j=>
  rw[e]at h;obtain⟨b,c,d,f⟩:=Jp e;exact⟨j,b,h,c,d,f⟩
theorem BV{a:Type}{xs:List a}{j:Nat}{v:a}(h:xs[j]?=some v):Of xs (j:Int)=some v:=by
 have b:j<xs.length:=(uy h).1;have e:Qk xs.length (j:Int)=some j:=by
  unfold Qk;rw[if_pos (by lia),if_pos (by lia)];simp
 unfold Of;rw[e];exact h
theorem BW{a:Type}(xs:List a)(v:a):Of (xs++[v]) (-1)=some v:=by
 have b:(xs++[v]).length=xs.length+1:=by simp
 have e:Qk (xs++[v]).length (-1)=some xs.length:=by
  unfold Qk;rw[b,if_neg (by decide),if_pos (by lia)];congr 1;lia
 unfold Of;rw[e];show(xs++[v])[xs.length]?=some v;simp
def SW(b:Expr):Prop:=∀o i,subscripted b false o i=operate [o,i] (getItem o i)
def ja(X:Cx)(r:R2):Prop:=
 ∀(value slice:Expr)(pins:List (Addr×Obj))(s:Shared)(a:St)(H:Hp)(x y:V)(v u:Value)(Q:VK),Inv X pins a H s->RelV x v->RelV y u->r x y H Q->
  subscripted slice false v u=operate [v,u] (getItem v u)->wpAny (model X.prog X.w) X.A (subscriptTail value slice v u) (EP X pins a Q) X.xe s
def kg(X:Cx)(id:String)(r:V->List V->Hp->VK->Prop):Prop:=
 ∀(pins:List (Addr×Obj))(s:Shared)(a:St)(H:Hp)(x:V)(b:List V)(v:Value)(c:List Value)(Q:VK),Inv X pins a H s->RelV x v->Vals b c->r x b H Q->
  wpAny (model X.prog X.w) X.A (call (.builtin id) (v::c)) (EP X pins a Q) X.xe s
variable{pins:List (Addr×Obj)}{s:Shared}{u:Value}{H:Hp}{y x:V}{its:List Value}{σ:St}{A:Around}
section
variable{X:Cx} {a b:Expr} {ta tb:TE} {pos:Pos}
theorem CN{r:R2}(c:ja X r)(d:PE X a ta)(e:PE X b tb)(f:SW b):PE X (.Subscript a b pos) (e_ r ta tb):=by
 intro pins s g H Q I h;exact Subscript_ (bt d e I h fun v u i x y j k l m q=>c a b pins i g j x y v u Q k l m q (f _ _))
inductive gJ(K:vA)(x y:V)(H:Hp)(Q:VK):Prop
 |mk(p xs i v:_)(c:x=.ref p)(d:y=.int i)(e:Ay K H p xs)(f:Of xs i=some v)(g:Q v H)
def gK(K:vA):R2:=fun x y H Q=>gJ K x y H Q
inductive gL(K:vA)(x y:V)(H:Hp)(Q:VK):Prop
 |mk(p xs i v:_)(c:x=.ref p)(d:y=.int i)(e:Ah K H p xs)(f:Of xs i=some v)(g:Q v H)
def EF(K:vA):R2:=fun x y H Q=>gL K x y H Q
inductive gM(x y:V)(H:Hp)(Q:VK):Prop
 |mk(z i c:_)(d:x=.str z)(e:y=.int i)(f:z.length<=sizeLine)(g:Of z.cps.toList i=some c)(h:Q (.str ⟨#[c]⟩) H)
def kh:R2:=fun x y H Q=>gM x y H Q
theorem Yq:ja X (gK X.K):=by
 intro value slice pins s k H x y v u Q I o A h l;obtain⟨p,L,i,z,rfl,rfl,B,C,q⟩:=h;cases o;obtain⟨t,rfl⟩:=A;obtain⟨d,r,e,M⟩:=I.list B;obtain⟨j,c,D,N,E,F⟩:=HW C;obtain⟨w,m,f⟩:=r.get D;have G:=r.length;have O:=Gp;have fin:EP X pins k Q w s:=⟨z,H,I,f,q⟩;by_cases n:0<=i
 ·have g:i.toNat=j:=by
   rw[seqIndex_of n F]at c;exact uz c
  exact item_listR e.isList n (by lia) (by rw[g];simpa using m) fin l
 ·have g:(i+(d.toArray.size:Int)).toNat=j:=by
   rw[seqIndex_neg (by lia) E]at c;rw[List.size_toArray,<-G];exact uz c
  exact subscriptTail_builtinR (x:=w) e.isList.typeIs slot_list_getitem.lookup (wpAny_getItem_list_neg (Q:=fun r J=>r=w/\EP X pins k Q r J) e.isList (by lia) (by rw[List.size_toArray]<;>lia) (by lia) (by rw[g];simpa using m) ⟨rfl,fin⟩) l
theorem By:ja X (EF X.K):=by
 intro value slice pins s d H x y v u Q I f g h k;obtain⟨p,E,i,z,rfl,rfl,l,m,q⟩:=h;cases f;obtain⟨t,rfl⟩:=g;obtain⟨n,r,e,F⟩:=I.tuple l;obtain⟨j,o,A,G,J,L⟩:=HW m;obtain⟨w,B,c⟩:=r.get A;have C:=r.length;have M:=Gp;have fin:EP X pins d Q w s:=⟨z,H,I,c,q⟩;exact subscriptTail_builtinR (x:=w) e.typeIs slot_tuple_getitem.lookup (getItem_tuple (j:=j) (Q:=fun r D=>r=w/\EP X pins d Q r D) e (by lia) (by lia) (by rw[List.size_toArray,<-C];exact o) (by simpa using B) ⟨rfl,fin⟩) k
theorem Vi:ja X kh:=by
 intro value slice pins s w H x y v u Q I e f h g;obtain⟨z,i,c,rfl,rfl,A,k,q⟩:=h;obtain⟨t,rfl⟩:=e;obtain⟨B,rfl⟩:=f;obtain⟨j,d,l,C,m,n⟩:=HW k;have o:z.cps.toList.length=z.length:=by simp[Str.length]
 rw[o]at d m n;have D:=Gp;exact tail_any (typeIs_str s z t) slot_str_getitem.lookup (getItem_str (c:=c) (by
  have p:decide (i< -(2 ^ 63:Int))=false:=decide_eq_false (by lia);have r:decide (i≥2 ^ 63)=false:=decide_eq_false (by lia);rw[p,r,Bool.or_false]) (by rw[d];simpa using l) ⟨.str ⟨#[c]⟩,H,I.tok _,⟨_,rfl⟩,q⟩) g
theorem Ql(its:List Value)(n j:Nat)(u:Value):Obj.mapSeq (·.setIfInBounds j u) {cls:=.type "list",data:=.seq its.toArray n}={cls:=.type "list",data:=.seq (its.set j u).toArray n}:=by
 simp[Obj.mapSeq]
theorem Inv.lst{pins:List (Addr×Obj)}{σ:St}{H:Hp}{s:Shared}{p:Addr}{xs:List V}(I:Inv X pins σ H s)(h:H p=some (.lst xs)):
  ∃(its:List Value)(n:Nat),Vals xs its/\s.heap.get? p=some {cls:=.type "list",data:=.seq its.toArray n}/\xs.length<=sizeLine:=by
 obtain⟨z,its,n,r,e⟩:=I.Bb p _ h;exact⟨its,n,r,e,z⟩
theorem Inv.cG{p:Addr}{xs ys:List V}{its':List Value}{c:Nat}{f:Obj->Obj}(I:Inv X pins σ H s)(h:H p=some (.lst xs))(g:s.heap.get? p=some {cls:=.type "list",data:=.seq its.toArray n})(d:f {cls:=.type "list",data:=.seq its.toArray n}={cls:=.type "list",data:=.seq its'.toArray c})(r:Vals ys its')(i:ys.length<=sizeLine)(t:Nat):
  Inv X pins σ (upd H p (.lst ys)) {s with heap:=s.heap.update p f,toks:=t}:=by
 have e:(s.heap.update p f).get? p=some {cls:=.type "list",data:=.seq its'.toArray c}:=by
  rw[Heap.get?_update_self f g (by rw[d]<;>rfl),d]
 refine I.write (x:=p) (e:=p) (by rw[h];trivial) (.inl rfl) (fun b u j q=>(Heap.get?_update_other _ _ (Ne.symm j)).trans q) ⟨_,e⟩ ?_;exact⟨i,its',c,r,e⟩
inductive cH(o i v:V)(H:Hp)(Q:(Hp->Prop)):Prop
 |mk(p xs k j:_)(c:o=.ref p)(d:i=.int k)(e:H p=some (.lst xs))(f:Qk xs.length k=some j)(g:Q (upd H p (.lst (xs.set j v))))
def gN:V->V->V->Hp->(Hp->Prop)->Prop:=fun o i v H Q=>cH o i v H Q
theorem set_list:fg X gN:=by
 intro pins s z H o i v ov G u Q I A B C h;obtain⟨p,D,k,j,rfl,rfl,l,E,q⟩:=h;cases A;obtain⟨t,rfl⟩:=B;obtain⟨c,n,r,e,F⟩:=I.lst l;obtain⟨d,J,m,w⟩:=Jp E;have f:=r.length;have K:=Gp;have x:Inv X pins z (upd H p (.lst (D.set j v))) {s with heap:=s.heap.update p (Obj.mapSeq (·.setIfInBounds j u))}:=
  I.cG l e (Ql c n j u) (r.set C j) (by rw[List.length_set];exact F) s.toks
 by_cases y:0<=k
 ·have g:k.toNat=j:=by
   rw[seqIndex_of y w]at d;exact uz d
  exact PySem.W.ki_setAt e y (by lia) (by rw[List.size_toArray,<-f];exact w) (by rw[g];exact⟨_,x,q⟩)
 ·have g:(k+(c.toArray.size:Int)).toNat=j:=by
   rw[seqIndex_neg (by lia) m]at d;rw[List.size_toArray,<-f];exact uz d
  exact PySem.W.ki_setBack e (by lia) (by rw[List.size_toArray,<-f];exact m) (by lia) (by rw[g];exact⟨_,x,q⟩)
theorem NF(lo c:Option Int)(n:Nat):(sliceBounds lo c none n).1=((HT.CY n 0 lo:Nat):Int)/\(sliceBounds lo c none n).2.1=((HT.CY n n c:Nat):Int)/\(sliceBounds lo c none n).2.2=1:=by
 refine⟨?_,?_,rfl⟩
 ·cases lo with
  |none=>simp[sliceBounds,HT.CY]
  |some i=>
   simp only[sliceBounds,HT.CY,Option.getD_none,show(1:Int)>0 by decide,if_true];by_cases h:i<0
   ·simp only[h,if_true]<;>lia
   ·simp only[h,if_false]<;>lia
 ·cases c with
  |none=>simp[sliceBounds,HT.CY]
  |some i=>
   simp only[sliceBounds,HT.CY,Option.getD_none,show(1:Int)>0 by decide,if_true];by_cases h:i<0
   ·simp only[h,if_true]<;>lia
   ·simp only[h,if_false]<;>lia
theorem Lb(its:List Value)(lo c:Option Int):slicePick its.toArray lo c none=((its.drop (HT.CY its.length 0 lo)).take (HT.CY its.length its.length c-HT.CY its.length 0 lo)).toArray:=by
 obtain⟨d,e,f⟩:=NF lo c its.toArray.size;unfold slicePick;rw[d,e,f];simp only[sliceRange_one,pick_run,List.size_toArray]<;>rfl
inductive gO(K:vA)(x:V)(lo c:Option Int)(H:Hp)(Q:VK):Prop
 |mk(a xs:_)(d:x=.ref a)(e:Ay K H a xs)(f:∀p,H p=none->Q (.ref p) (upd H p (.lst (FQ xs lo c))))
def cI(K:vA):V->Option Int->Option Int->Hp->VK->Prop:=fun x lo c H Q=>gO K x lo c H Q
theorem SX:gG X (cI X.K):=by
 intro pins s n H x v p t lo d u Q I f g i j h;obtain⟨a,c,rfl,k,q⟩:=h;cases f;obtain⟨l,r,e,m⟩:=I.list k;have hlen:=r.length;refine⟨"list",_,slot_list_getitem.lookup,e.isList.typeIs,?_⟩;refine wpAny_getItem_list_slice e.isList g i j .none (by simp) ?_ (by rw[List.size_toArray]<;>lia);rw[Lb,<-hlen];refine⟨.ref s.heap.objs.size,_,I.laid (t':=s.toks) (o:=.lst (FQ c lo d)) (fun b w q=>Heap.get?_push_of_some _ q) (Nat.le_refl _) ?_,rfl,q _ (I.Bb.fresh (Nat.le_refl _))⟩;exact⟨Nat.le_trans (JK c lo d) m,_,0,(r.drop (HT.CY c.length 0 lo)).take (HT.CY c.length c.length d-HT.CY c.length 0 lo),Heap.get?_push_size _ rfl⟩
noncomputable def CO:V->Bool
 | .As=>true
 | .bl _=>true
 | .int _=>true
 | .str _=>true
 |_=>false
noncomputable def JL:V->V->Bool
 | .As,.As=>true
 | .bl a,.bl b=>a==b
 | .bl a,.int b=>(if a then 1 else 0)==b
 | .int a,.bl b=>a==(if b then 1 else 0)
 | .int a,.int b=>a==b
 | .str a,.str b=>a==b
 |_,_=>false
theorem KO{v:Value}(e:RelV y u)(c:RelV x v)(g:CO y=true)(f:CO x=true):SeqAt.EqAt A s u v (JL y x):=by
 cases y with
 |As=>
  cases e;cases x with
  |As=>cases c;exact SeqAt.EqAt.same _
  |bl b=>cases c;exact SeqAt.EqAt.none_bool b
  |int b=>obtain⟨t,rfl⟩:=c;exact SeqAt.EqAt.none_int b t
  |str b=>obtain⟨t,rfl⟩:=c;exact SeqAt.EqAt.none_str b t
  |_=>exact absurd (show false=true from f) Bool.false_ne_true
 |bl a=>
  cases e;cases x with
  |As=>cases c;exact SeqAt.EqAt.bool_none a
  |bl b=>cases c;exact SeqAt.EqAt.bool_bool a b
  |int b=>obtain⟨t,rfl⟩:=c;exact SeqAt.EqAt.bool_int a b t
  |str b=>obtain⟨t,rfl⟩:=c;exact SeqAt.EqAt.bool_str a b t
  |_=>exact absurd (show false=true from f) Bool.false_ne_true
 |int a=>
  obtain⟨d,rfl⟩:=e;cases x with
  |As=>cases c;exact SeqAt.EqAt.int_none a d
  |bl b=>cases c;exact SeqAt.EqAt.int_bool a d b
  |int b=>obtain⟨t,rfl⟩:=c;exact SeqAt.EqAt.int_int a d b t
  |str b=>obtain⟨t,rfl⟩:=c;exact SeqAt.EqAt.int_str a d b t
  |_=>exact absurd (show false=true from f) Bool.false_ne_true
 |str a=>
  obtain⟨d,rfl⟩:=e;cases x with
  |As=>cases c;exact SeqAt.EqAt.str_none a d
  |bl b=>cases c;exact SeqAt.EqAt.str_bool a d b
  |int b=>obtain⟨t,rfl⟩:=c;exact SeqAt.EqAt.str_int a d b t
  |str b=>obtain⟨t,rfl⟩:=c;exact SeqAt.EqAt.str_str a d b t
  |_=>exact absurd (show false=true from f) Bool.false_ne_true
 |_=>exact absurd (show false=true from g) Bool.false_ne_true
def Qm(x:V)(u:Value):Bool:=match u with
 | .none=>JL .As x
 | .bool b=>JL (.bl b) x
 | .int i _=>JL (.int i) x
 | .str z _=>JL (.str z) x
 |_=>false
theorem Vj(r:RelV y u)(f:CO y=true):Qm x u=JL y x:=by
 cases y with
 |As=>cases r;rfl
 |bl b=>cases r;rfl
 |int i=>obtain⟨t,rfl⟩:=r;rfl
 |str z=>obtain⟨t,rfl⟩:=r;rfl
 |_=>exact absurd (show false=true from f) Bool.false_ne_true
theorem HX{x:V}:∀{xs:List V}{c:List Value},Vals xs c->xs.all CO=true->c.any (Qm x)=xs.any fun y=>JL y x
 |_,_,.nil,_=>rfl
 |y::xs,u::c,.cons r t,f=>by
  rw[List.all_cons,Bool.and_eq_true]at f;rw[List.any_cons,List.any_cons,Vj r f.1,HX t f.2]
theorem Fs{A:Around}{s:Shared}{x:V}{v:Value}(e:RelV x v)(g:CO x=true):∀{xs:List V}{d:List Value},Vals xs d->xs.all CO=true->∀u∈d,SeqAt.EqAt A s u v (Qm x u)
 |_,_,.nil,_=>fun u c=>by cases c
 |y::xs,u::d,.cons r t,f=>fun h c=>by
  rw[List.all_cons,Bool.and_eq_true]at f;rcases List.mem_cons.mp c with rfl|c
  ·rw[Vj r f.1];exact KO r e f.1 g
  ·exact Fs e g t f.2 h c
def Cm(x:V)(xs:List V):Bool:=xs.any fun y=>JL y x
inductive ki(K:vA)(c:Bool)(x y:V)(H:Hp)(Q:VK):Prop
 |mk(p xs:_)(d:y=.ref p)(e:(Ay K H p xs∨Ah K H p xs))(f:CO x=true)(g:xs.all CO=true)(h:Q (.bl (if c then !Cm x xs else Cm x xs)) H)
def OU(K:vA)(c:Bool):R2:=fun x y H Q=>ki K c x y H Q
theorem B':Dg X (compareOp .In) (OU X.K false):=by
 intro pins s k H x y v u Q I f i h;obtain⟨p,l,rfl,d,g,fs,q⟩:=h;cases i;rcases d with d|d
 ·obtain⟨c,r,e,j⟩:=I.list d;refine SeqAt.in_listAt (Qm x) e.isList (fun w hw=>Fs f g r fs w (by simpa using hw)) ⟨.bl _,H,I,rfl,?_⟩;rw[show c.toArray.any (Qm x)=c.any (Qm x)by simp,HX r fs];exact q
 ·obtain⟨c,r,e,j⟩:=I.tuple d;refine SeqAt.in_tupleAt (Qm x) e (fun w hw=>Fs f g r fs w (by simpa using hw)) ⟨.bl _,H,I,rfl,?_⟩;rw[show c.toArray.any (Qm x)=c.any (Qm x)by simp,HX r fs];exact q
theorem FR:Dg X (compareOp .NotIn) (OU X.K true):=by
 intro pins s k H x y v u Q I f i h;obtain⟨p,l,rfl,d,g,fs,q⟩:=h;cases i;rcases d with d|d
 ·obtain⟨c,r,e,j⟩:=I.list d;refine SeqAt.notIn_listAt (Qm x) e.isList (fun w hw=>Fs f g r fs w (by simpa using hw)) ⟨.bl _,H,I,rfl,?_⟩;rw[show c.toArray.any (Qm x)=c.any (Qm x)by simp,HX r fs];exact q
 ·obtain⟨c,r,e,j⟩:=I.tuple d;refine SeqAt.notIn_tupleAt (Qm x) e (fun w hw=>Fs f g r fs w (by simpa using hw)) ⟨.bl _,H,I,rfl,?_⟩;rw[show c.toArray.any (Qm x)=c.any (Qm x)by simp,HX r fs];exact q
inductive Je(K:vA)(xs:List V)(H:Hp)(Q:VK):Prop
 |mk(p ys:_)(c:xs=[.ref p])(d:(Ay K H p ys∨Ah K H p ys))(e:Q (.int ys.length) H)
def DN(K:vA):List V->Hp->VK->Prop:=fun c H Q=>Je K c H Q
theorem FT:CW X (.builtin "len") (DN X.K):=by
 intro pins s k H l m Q I r h;obtain⟨p,g,rfl,c,q⟩:=h;obtain⟨u,rfl,i⟩:=vals1 r;cases i;have n:=Gp;rcases c with c|c
 ·obtain⟨d,e,f,j⟩:=I.list c;have hlen:=e.length;exact Calls.call_len_list f.isList (by simp only[List.size_toArray]<;>lia) ⟨.int g.length,H,I.tok _,⟨s.toks+1,by rw[List.size_toArray,hlen]⟩,q⟩
 ·obtain⟨d,e,f,j⟩:=I.tuple c;have hlen:=e.length;exact len_tuple f (by simp only[List.size_toArray]<;>lia) ⟨.int g.length,H,I.tok _,⟨s.toks+1,by rw[List.size_toArray,hlen]⟩,q⟩
inductive Jf(K:vA)(xs:List V)(H:Hp)(Q:VK):Prop
 |mk(p ys:_)(c:xs=[.ref p])(d:(Ay K H p ys∨Ah K H p ys))(e:∀l,H l=none->Q (.ref l) (upd H l (.lst ys)))
def KP(K:vA):List V->Hp->VK->Prop:=fun c H Q=>Jf K c H Q
theorem HY:CW X (.type "list") (KP X.K):=by
 intro pins s z H B C Q I r h;obtain⟨p,l,rfl,i,q⟩:=h;obtain⟨u,rfl,A⟩:=vals1 r;cases A;have fin:∀(c:List Value),Vals l c->l.length<=sizeLine->∀(d:Heap)(f:Nat),(∀b y,s.heap.get? b=some y->d.get? b=some y)->
   d.get? s.heap.objs.size=some {cls:=.type "list",dict:=none,data:=.seq c.toArray f,slots:= #[]}->EP X pins z Q (.ref s.heap.objs.size) {s with heap:=d}:=fun c g j d f k e=>
  ⟨.ref s.heap.objs.size,_,I.laid (t':=s.toks) k (Nat.le_refl _) (show BJ X.prog X.w _ d _ (.lst l)from⟨j,c,f,g,e⟩),rfl,q _ (I.Bb.fresh (Nat.le_refl _))⟩
 rcases i with i|i
 ·obtain⟨c,g,m,j⟩:=I.list i;have hlen:=g.length;obtain⟨o,t,v,n,x⟩:=m.isList;exact call_list_seq p (.inl rfl) t v x (fun d f k e=>fin c g j d f k e) (by simp only[List.size_toArray]<;>lia)
 ·obtain⟨c,g,m,j⟩:=I.tuple i;have hlen:=g.length;obtain⟨o,t,v,n,x⟩:=m;exact call_list_seq p (.inr rfl) t v x (fun d f k e=>fin c g j d f k e) (by simp only[List.size_toArray]<;>lia)
inductive IZ(K:vA)(xs:List V)(H:Hp)(Q:VK):Prop
 |mk(p ys:_)(c:xs=[.ref p])(d:((Ay K H p ys/\∀l,H l=none->Q (.ref l) (upd H l (.tup ys)))∨(Ah K H p ys/\Q (.ref p) H)))
def Jg(K:vA):List V->Hp->VK->Prop:=fun c H Q=>IZ K c H Q
theorem Gi:CW X (.type "tuple") (Jg X.K):=by
 intro pins s j H x y Q I r h;obtain⟨p,k,rfl,h⟩:=h;obtain⟨u,rfl,n⟩:=vals1 r;cases n;rcases h with⟨f,q⟩|⟨f,q⟩
 ·obtain⟨c,g,i,l⟩:=I.list f;have hlen:=g.length;refine call_tuple_list i.isList (fun d t=>?_) (by simp only[List.size_toArray]<;>lia);have m:Inv X pins j H {s with heap:=d}:=I.kept (t':=s.toks) t;have v:Inv X pins j (upd H d.objs.size (.tup k)) {s with heap:=d.push {cls:=.type "tuple",data:=.seq c.toArray}}:=
   m.laid (t':=s.toks) (fun b o e=>Heap.get?_push_of_some _ e) (Nat.le_refl _) (show BJ X.prog X.w _ _ _ (.tup k)from⟨l,c,g,IsTup.new _ _⟩)
  exact⟨.ref d.objs.size,_,v,rfl,q _ (m.Bb.fresh (Nat.le_refl _))⟩
 ·obtain⟨c,g,i,l⟩:=I.tuple f;exact call_tuple_same i ⟨.ref p,H,I,rfl,q⟩
def kj(K:vA)(T:String)(x:V)(H:Hp):Prop:=match x with
 | .str _=>T="str"
 | .int _=>T="int"
 | .ref p=>(T="list"/\∃c,Ay K H p c)∨(T="tuple"/\∃o,K.lookup p=some o/\o.cls=.type "tuple"/\o.dict=none)∨ (T="dict"/\((∃kvs,H p=some (.dK kvs))∨∃kvs,H p=some (.dT kvs)))∨(T="set"/\∃S n,H p=some (.set S n))
 |_=>False
theorem Vk{T:String}{v:Value}(I:Inv X pins σ H s)(r:RelV x v)(ty:kj X.K T x H):
  s.TypeIs v T/\∀a,v=.ref a->∃ob,s.heap.get? a=some ob/\ob.dict=none:=by
 cases x with
 |str z=>
  obtain⟨t,rfl⟩:=r;cases(show T="str"from ty);exact⟨typeIs_str s z t,fun _ e=>nomatch e⟩
 |int i=>
  obtain⟨t,rfl⟩:=r;cases(show T="int"from ty);exact⟨typeIs_int s i t,fun _ e=>nomatch e⟩
 |ref p=>
  cases r;rcases ty with⟨rfl,q,k⟩|⟨rfl,o,d,l,g⟩|⟨rfl,d⟩|⟨rfl,S,n,d⟩
  ·obtain⟨m,_,j,_⟩:=I.list k;refine⟨j.isList.typeIs,fun a e=>?_⟩;cases e;obtain⟨o,n,e,c,g,_⟩:=j;exact⟨o,e,g⟩
  ·refine⟨⟨o,I.Fl p o d,l⟩,fun a e=>?_⟩;cases e;exact⟨o,I.Fl _ o d,g⟩
  ·have z:∃o,s.heap.get? p=some o/\o.ExactDict:=by
    rcases d with⟨kvs,d⟩|⟨kvs,d⟩
    ·obtain⟨_,_,_,_,o,_,_,e,f,_⟩:=I.Bb p _ d;exact⟨o,e,f⟩
    ·obtain⟨_,_,_,_,o,_,_,e,f,_⟩:=I.Bb p _ d;exact⟨o,e,f⟩
   obtain⟨o,e,f⟩:=z;refine⟨⟨o,e,f.1⟩,fun a h=>?_⟩;cases h;exact⟨o,e,f.2.1⟩
  ·obtain⟨o,_,_,_,e,f,_⟩:=I.Bb p _ d;refine⟨⟨o,e,f.1⟩,fun a h=>?_⟩;cases h;exact⟨o,e,f.2.1⟩
 |_=>exact False.elim ty
def km(K:vA)(T:String)(r:V->List V->Hp->VK->Prop)(d:TE):TE:=fun e H Q=>d e H fun x c=>kj K T x c/\r x [] c Q
def ql(K:vA)(T:String)(r:V->List V->Hp->VK->Prop)(e:TE)(t:TA):TE:=fun c H Q=>e c H fun x d=>kj K T x d/\t c d fun f g=>r x f g Q
variable{o e:Expr} {es:List Expr} {to:TE} {t:TA} {name:Str} {apos Ft:Pos} {T id:String} {r:V->List V->Hp->VK->Prop}
theorem cJ(k:PlainAttrs T)(slot:Slot T name id)(f:typeOf (.builtin id)=pure (.type "method_descriptor"))(l:kg X id r)(m:PE X o to)(c:attributeBase o name X.env (eval o X.env)=eval o X.env:=by rfl)(d:(apos.endLine==Ft.line)=true:=by rfl):PE X (.Call (.Attribute o name apos) [] [] Ft) (km X.K T r to):=by
 intro pins s g H Q I h;refine wpAny_Call_method0_late c d (Bl (m pins s g H _ I h) fun v n ⟨x,p,i,j,ty,q⟩=>?_);obtain⟨u,w⟩:=Vk i j ty;exact⟨T,id,k,slot,f,u,w,Calls.callWith_builtin rfl (PySem.evalArgs_none (l pins n g p x [] v [] Q i j .nil q))⟩
theorem D'(n:PlainAttrs T)(slot:Slot T name id)(i:typeOf (.builtin id)=pure (.type "method_descriptor"))(p:kg X id r)(q:PE X o to)(u:PA X (e::es) t)(d:attributeBase o name X.env (eval o X.env)=eval o X.env:=by rfl)(g:((backTo Ft (starEach (e::es) X.env)).all (fun x=> !x.1)&&(backToKw Ft (keywordEach [] X.env)).all (fun x=>x.1.isSome)
   &&decide ((e::es).length+([]:List Keyword).length+(if([]:List Keyword).isEmpty then 0 else 1)<30))=true:=by rfl)(f:(apos.endLine==Ft.line)=true:=by rfl)(w:starEach (e::es) X.env=(false,eval e X.env)::starEach es X.env:=by rfl)(c:(backTo Ft (starEach es X.env)).any (·.1)=false:=by rfl):
  PE X (.Call (.Attribute o name apos) (e::es) [] Ft) (ql X.K T r to t):=by
 intro pins s j H Q I h;refine wpAny_Call_method_late d g f rfl (Bl (q pins s j H _ I h) fun v y ⟨x,z,k,l,ty,A⟩=>?_);obtain⟨B,C⟩:=Vk k l ty;refine⟨T,id,n,slot,i,B,C,?_⟩;have m:=u Ft pins y j z _ k A;rw[w]at m⊢;refine Calls.callWith_builtin (by show(false||(backTo Ft (starEach es X.env)).any (·.1))=false;rw[c]<;>rfl) (Calls.evalArgs_plain ?_);exact Bl m fun D E F=>F.elim fun G J L M N=>p pins E j J x G v D Q L l M N
end
def gP(X:Cx)(id:String)(r:V->List V->Hp->VK->Prop):Prop:=
 ∀(pins:List (Addr×Obj))(s:Shared)(a:St)(H:Hp)(x:V)(b:List V)(v:Value)(c:List Value)(Q:VK),Inv X pins a H s->RelV x v->Vals b c->r x b H Q->
  wpAny (model X.prog X.w) X.A (call (.builtin id) (v::c)) (EP X pins a Q) X.xe s
theorem Vals.zero(r:Vals [] a):a=[]:=List.eq_nil_of_length_eq_zero (Paired.length r).symm
theorem Vals.one(r:Vals [x] a):∃u,a=[u]/\RelV x u:=by
 obtain⟨u,b,rfl,h,t⟩:=r.inv;rw[t.zero];exact⟨u,rfl,h⟩
theorem Vals.two(r:Vals [x,y] a):∃u v,a=[u,v]/\RelV x u/\RelV y v:=by
 obtain⟨u,c,rfl,h,t⟩:=r.inv;obtain⟨v,rfl,b⟩:=t.one;exact⟨u,v,rfl,h,b⟩
theorem Vals.dropLast{xs:List V}(h:Vals xs a):Vals xs.dropLast a.dropLast:=by
 induction h with
 |nil=>exact .nil
 |cons r t b=>
  cases t with
  |nil=>exact .nil
  |cons q c=>exact .cons r b
theorem Vals.eraseIdx:∀{xs:List V}{a:List Value}(i:Nat),Vals xs a->Vals (xs.eraseIdx i) (a.eraseIdx i)
 |_,_,_,.nil=>.nil
 |_,_,0,.cons _ t=>t
 |_,_,i+1,.cons r t=>.cons r (Vals.eraseIdx i t)
theorem Qn{a:Type}(l:List a):l.eraseIdx (l.length-1)=l.dropLast:=List.eraseIdx_length_sub_one
theorem L_{a:Type}:∀(l:List a)(i:Nat),(l.eraseIdx i).length<=l.length
 |[],_=>Nat.le_refl _
 |_::_,0=>Nat.le_succ _
 |_::r,i+1=>Nat.succ_le_succ (L_ r i)
variable{t':Nat}
section
variable{X:Cx} {pins:List (Addr×Obj)} {σ:St} {H:Hp} {s:Shared} {l b:Addr} {xs ys zs:List V}
theorem Inv.Vl{its':List Value}{f:Array Value->Array Value}(I:Inv X pins σ H s)(a:H l=some (.lst xs))(e:s.heap.get? l=some {cls:=.type "list",data:=.seq its.toArray n})(c:f its.toArray=its'.toArray)(d:Vals ys its')(g:ys.length<=sizeLine):
  Inv X pins σ (upd H l (.lst ys)) {s with heap:=s.heap.update l (Obj.mapSeq f),toks:=t'}:=by
 have q:=PySem.IsL.update e f;rw[c]at q;refine I.write (x:=l) (e:=l) (by rw[a];exact trivial) (.inl rfl) (fun j u h i=>(Heap.get?_update_other s.heap (Obj.mapSeq f) (Ne.symm h)).trans i) ⟨_,q⟩ ?_;exact⟨g,its',_,d,q⟩
theorem Inv.cK(I:Inv X pins σ H s)(a:Vals ys its)(c:ys.length<=sizeLine):
  Inv X pins σ (upd H s.heap.objs.size (.lst ys)) {s with heap:=s.heap.push {cls:=.type "list",data:=.seq its.toArray},toks:=t'}:=
 I.laid (fun _ _ q=>Heap.get?_push_of_some _ q) (Nat.le_refl _) ⟨c,its,0,a,Heap.get?_push_size _ rfl⟩
theorem Inv.fresh(I:Inv X pins σ H s):H s.heap.objs.size=none:=I.Bb.fresh (Nat.le_refl _)
theorem Inv.Og(I:Inv X pins σ H s)(a:H l=some (.lst xs)):xs.length<=sizeLine/\∃(its:List Value)(n:Nat),Vals xs its/\xs.length=its.length/\s.heap.get? l=some {cls:=.type "list",data:=.seq its.toArray n}:=by
 obtain⟨z,its,n,r,e⟩:=I.Bb l _ a;exact⟨z,its,n,r,r.length,e⟩
theorem Vm(h:n<=sizeLine):Builtin.List.listTooLong n=false:=by
 unfold Builtin.List.listTooLong;exact decide_eq_false (by lia)
end
section
variable{X:Cx}
inductive Vn(x:V)(a:List V)(H:Hp)(Q:VK):Prop
 |mk(l xs y:_)(b:x=.ref l)(c:a=[y])(d:H l=some (.lst xs))(e:xs.length<sizeLine)(f:Q .As (upd H l (.lst (xs++[y]))))
def Yr:V->List V->Hp->VK->Prop:=fun x a H Q=>Vn x a H Q
theorem CI:gP X "list.append" Yr:=by
 intro pins s g H x i v j Q I c d h;obtain⟨l,k,y,rfl,rfl,b,m,q⟩:=h;cases c;obtain⟨u,rfl,f⟩:=d.one;obtain⟨z,a,n,r,o,e⟩:=I.Og b;refine call_meets F.slot_list_append ⟨_,e,rfl⟩ F.entry_list_append (F.args_list_append_2 _ _) (PySem.list_append l a.toArray n u (by rw[List.size_toArray];lia)) ⟨e,?_⟩;refine⟨.As,_,I.Vl (its':=a++[u]) b e (by simp) (r.append (.cons f .nil)) ?_,rfl,q⟩;rw[List.length_append,List.length_singleton];lia
inductive Vo(x:V)(c:List V)(H:Hp)(Q:VK):Prop
 |mk(l b xs a:_)(d:x=.ref l)(e:c=[.ref b])(f:H l=some (.lst xs))(g:H b=some (.lst a))(h:xs.length+a.length<=sizeLine)(i:Q .As (upd H l (.lst (xs++a))))
def Ys:V->List V->Hp->VK->Prop:=fun x a H Q=>Vo x a H Q
theorem GZ:gP X "list.extend" Ys:=by
 intro pins s y H x A v B Q I i j h;obtain⟨l,b,C,D,rfl,rfl,g,k,E,q⟩:=h;cases i;obtain⟨u,rfl,m⟩:=j.one;cases m;obtain⟨z,c,n,r,G,e⟩:=I.Og g;obtain⟨z2,a,o,p,t,w⟩:=I.Og k;have f:c.toArray.size+a.toArray.size<=sizeLine:=by rw[List.size_toArray,List.size_toArray];lia
 have d:¬(!c.toArray.isEmpty&&Builtin.List.listTooLong (c.toArray.size+a.toArray.size))=true:=by
  rw[Vm f,Bool.and_false];exact Bool.false_ne_true
 refine call_meets F.slot_list_extend ⟨_,e,rfl⟩ F.entry_list_extend (F.args_list_extend_2 _ _) (AutoSeq1.list_extend_list_list_0 l c.toArray n b a.toArray o d (by rw[List.size_toArray];lia) (by lia)) ⟨e,w,?_⟩;refine⟨.As,_,I.Vl (its':=c++a) g e (by simp) (r.append p) ?_,rfl,q⟩;rw[List.length_append];lia
inductive gQ(x:V)(a:List V)(H:Hp)(Q:VK):Prop
 |mk(l xs y:_)(b:x=.ref l)(c:a=[])(d:H l=some (.lst xs))(e:xs[xs.length-1]?=some y)(f:Q y (upd H l (.lst xs.dropLast)))
def ko:V->List V->Hp->VK->Prop:=fun x a H Q=>gQ x a H Q
theorem cM:gP X "list.pop" ko:=by
 intro pins s o H x p v t Q I f g h;obtain⟨l,w,y,rfl,rfl,d,i,q⟩:=h;cases f;have b:=g.zero;subst b;obtain⟨z,a,n,r,j,e⟩:=I.Og d;obtain⟨u,k,m⟩:=r.get i;have c:a.toArray[a.toArray.size-1]?=some u:=by
  show a.toArray[a.length-1]?=some u;rw[<-Array.getElem?_toList,<-j];exact k
 refine call_meets F.slot_list_pop ⟨_,e,rfl⟩ F.entry_list_pop (F.args_list_pop_1 _) (MeetsSeq.list_pop_last l a.toArray n u c (by rw[List.size_toArray];lia)) ⟨e,?_⟩;refine⟨y,_,I.Vl (its':=a.dropLast) d e ?_ r.dropLast ?_,m,q⟩
 ·show a.toArray.eraseIdxIfInBounds (a.toArray.size-1)=a.dropLast.toArray;rw[List.size_toArray,List.eraseIdxIfInBounds_toArray,Qn]
 ·rw[List.length_dropLast];lia
inductive Yt(x:V)(a:List V)(H:Hp)(Q:VK):Prop
 |mk(l xs i k y:_)(b:x=.ref l)(c:a=[.int i])(d:H l=some (.lst xs))(e: -(2 ^ 63)<=i)(f:i<2 ^ 63)(g:seqIndex? i xs.length=some k)(h:xs[k]?=some y)(j:Q y (upd H l (.lst (xs.eraseIdx k))))
def cN:V->List V->Hp->VK->Prop:=fun x a H Q=>Yt x a H Q
theorem Vp:gP X "list.pop" cN:=by
 intro pins s C H x D v E Q I d f h;obtain⟨l,g,i,k,y,rfl,rfl,c,j,m,o,p,q⟩:=h;cases d;obtain⟨u,rfl,A⟩:=f.one;obtain⟨t,rfl⟩:=A;obtain⟨z,a,n,r,B,e⟩:=I.Og c;obtain⟨w,hw,b⟩:=r.get p;refine call_meets F.slot_list_pop ⟨_,e,rfl⟩ F.entry_list_pop (F.args_list_pop_2 _ _) (MeetsSeq.list_pop_at l a.toArray n i t k w (fitsIndex_both j m) (by rw[List.size_toArray,<-B];exact o) (by rw[<-Array.getElem?_toList];exact hw) (by rw[List.size_toArray];lia)) ⟨e,?_⟩;refine⟨y,_,I.Vl (its':=a.eraseIdx k) c e ?_ (r.eraseIdx k) ?_,b,q⟩
 ·show a.toArray.eraseIdxIfInBounds k=(a.eraseIdx k).toArray;rw[List.eraseIdxIfInBounds_toArray]
 ·have:=L_ g k;lia
inductive gR(x y:V)(H:Hp)(Q:VK):Prop
 |mk(l b xs a:_)(c:x=.ref l)(d:y=.ref b)(e:H l=some (.lst xs))(f:H b=some (.lst a))(g:xs.length+a.length<=sizeLine)(h:∀p,H p=none->Q (.ref p) (upd H p (.lst (xs++a))))
def kq:R2:=fun x y H Q=>gR x y H Q
theorem Vq:Dg X (binaryOp .Add) kq:=by
 intro pins s p H x y v u Q I d f h;obtain⟨l,b,t,w,rfl,rfl,g,i,A,q⟩:=h;cases d;cases f;obtain⟨z,c,n,r,B,e⟩:=I.Og g;obtain⟨z2,a,C,j,k,m⟩:=I.Og i;refine PySem.P.add_list e m ?_ (by rw[List.size_toArray,List.size_toArray];lia);have o:c.toArray++a.toArray=(c++a).toArray:=by simp
 rw[o];exact⟨.ref _,_,I.cK (t':=s.toks) (r.append j) (by rw[List.length_append];lia),rfl,q _ I.fresh⟩
end
section
variable{prog:Program} {w:World} {A:Around} {E:Value->Shared->Prop} {s:Shared}
end
section
variable{X:Cx}
end
variable{o:Option V}
section
variable{κ:Type} [DecidableEq κ]
def Cw(kvs:List (κ×V))(k:κ):Option V:=(kvs.find? fun a=>decide (a.1=k)).map (·.2)
def putK(kvs:List (κ×V))(k:κ)(v:V):List (κ×V):=
 if(kvs.any fun a=>decide (a.1=k))=true then kvs.map (fun a=>if a.1=k then(a.1,v)else a)else kvs++[(k,v)]
def Ee(kvs:List (κ×V))(k:κ):List (κ×V):=kvs.filter fun a=>decide (a.1≠k)
theorem Vr{k:κ}:Cw ([]:List (κ×V)) k=none:=rfl
theorem Fu{p:κ×V}{r:List (κ×V)}{k:κ}(e:p.1=k):Cw (p::r) k=some p.2:=by simp[Cw,List.find?_cons,e]
theorem Fw{p:κ×V}{r:List (κ×V)}{k:κ}(e:¬p.1=k):Cw (p::r) k=Cw r k:=by simp[Cw,List.find?_cons,e]
theorem E_(k:κ):∀kvs:List (κ×V),(kvs.any fun kv=>decide (kv.1=k))=(Cw kvs k).isSome
 |[]=>rfl
 |p::r=>by
  rw[List.any_cons];by_cases e:p.1=k
  ·simp only[Fu e,decide_eq_true e,Bool.true_or,Option.isSome_some]
  ·rw[Fw e,decide_eq_false e,Bool.false_or];exact E_ k r
theorem Fx(kvs:List (κ×V))(k:κ)(v:V):(putK kvs k v).length<=kvs.length+1:=by
 unfold putK;split
 ·rw[List.length_map];lia
 ·rw[List.length_append,List.length_cons,List.length_nil];lia
theorem Oh{kvs:List (κ×V)}{k:κ}(v:V)(h:Cw kvs k=none):putK kvs k v=kvs++[(k,v)]:=by
 unfold putK;rw[E_,h];exact if_neg (by decide)
theorem Gk.Ia{u:Option Value}(r:Gk o u):o.isSome=u.isSome:=by
 cases o with
 |none=>cases u with
  |none=>rfl
  |some _=>exact(show False from r).elim
 |some _=>cases u with
  |none=>exact(show False from r).elim
  |some _=>rfl
theorem KV.val{kvs:List (κ×V)}{d:List (κ×Value)}(r:KV kvs d)(k:κ):Gk (Cw kvs k) (valueAt d k):=by
 unfold KV at r
 induction r with
 |nil=>exact True.intro
 |@cons p q j a h t g=>
  obtain⟨f,i⟩:=h;by_cases e:p.1=k
  ·have c:q.1=k:=f.symm.trans e;have b:valueAt (q::a) k=some q.2:=by simp[valueAt,List.find?_cons,c]
   rw[Fu e,b];exact i
  ·have c:¬q.1=k:=fun z=>e (f.trans z);have b:valueAt (q::a) k=valueAt a k:=by simp[valueAt,List.find?_cons,c]
   rw[Fw e,b];exact g
theorem KV.any{kvs:List (κ×V)}{a:List (κ×Value)}(r:KV kvs a)(k:κ):(kvs.any fun kv=>decide (kv.1=k))=a.any fun kv=>decide (kv.1=k):=by
 unfold KV at r
 induction r with
 |nil=>rfl
 |cons h t b=>rw[List.any_cons,List.any_cons,b,h.1]
theorem KV.cO{kvs:List (κ×V)}{b:List (κ×Value)}(r:KV kvs b)(k:κ)(c:RelV y u):
  KV (kvs.map fun kv=>if kv.1=k then(kv.1,y)else kv) (b.map fun kv=>if kv.1=k then(kv.1,u)else kv):=by
 unfold KV at r⊢
 induction r with
 |nil=>exact .nil
 |@cons p q g i h t d=>
  rw[List.map_cons,List.map_cons];refine .cons ?_ d;obtain⟨a,f⟩:=h;by_cases e:p.1=k
  ·rw[if_pos e,if_pos (a.symm.trans e)];exact⟨a,c⟩
  ·rw[if_neg e,if_neg (fun z=>e (a.trans z))];exact⟨a,f⟩
theorem KV.put{kvs:List (κ×V)}{a:List (κ×Value)}(r:KV kvs a)(k:κ)(b:RelV y u):KV (putK kvs k y) (stored a k u):=by
 unfold putK stored;rw[r.any k];by_cases e:(a.any fun c=>decide (c.1=k))=true
 ·rw[if_pos e,if_pos e];exact r.cO k b
 ·rw[if_neg e,if_neg e];exact Paired.snoc r ⟨rfl,b⟩
theorem KV.drop{kvs:List (κ×V)}{d:List (κ×Value)}(r:KV kvs d)(k:κ):KV (Ee kvs k) (without d k):=by
 unfold KV at r⊢;unfold Ee without
 induction r with
 |nil=>exact .nil
 |@cons p q j l h t f=>
  obtain⟨c,g⟩:=h;rw[List.filter_cons,List.filter_cons];by_cases e:p.1=k
  ·have a:¬decide (p.1≠k)=true:=by simp[e]
   have b:¬decide (q.1≠k)=true:=by simp[c.symm.trans e]
   rw[if_neg a,if_neg b];exact f
  ·have i:¬q.1=k:=fun z=>e (c.trans z);have a:decide (p.1≠k)=true:=by simp[e]
   have b:decide (q.1≠k)=true:=by simp[i]
   rw[if_pos a,if_pos b];exact .cons ⟨c,g⟩ f
theorem KV.keys{kvs:List (κ×V)}{a:List (κ×Value)}(r:KV kvs a):kvs.map (·.1)=a.map (·.1):=by
 unfold KV at r
 induction r with
 |nil=>rfl
 |cons h t b=>rw[List.map_cons,List.map_cons,b,h.1]
theorem KV.length{kvs:List (κ×V)}{a:List (κ×Value)}(r:KV kvs a):kvs.length=a.length:=Paired.length r
theorem Vs(kvs:List (κ×V))(k:κ):(Ee kvs k).length<=kvs.length:=List.length_filter_le _ _
end
variable{w:World}{P:Program}
theorem KQ{k:Key}(r:RelV (kV k) u):(BE P w).is k u=true:=by
 cases k with
 |inl i=>obtain⟨t,e⟩:=(show∃t,u=Value.int i t from r);subst e;exact OW P w i t
 |inr x=>obtain⟨t,e⟩:=(show∃t,u=Value.str x t from r);subst e;exact OX P w x t
theorem L'{P:Program}{w:World}:∀{ks:List Key}{a:List Value},Vals (ks.map kV) a->ItemsAre (BE P w) ks a
 |[],_,r=>by rw[List.map_nil]at r;cases r;exact .nil
 |k::ks,_,r=>by
  rw[List.map_cons]at r;cases r with
  |cons h t=>exact .cons (KQ h) (L' t)
abbrev KT(H:Hp):List (List Key×V)->List (List Key×Addr×Value)->Prop:=Paired fun p q=>p.1=q.1/\H q.2.1=some (.tup (p.1.map kV))/\RelV p.2 q.2.2
variable{xs:List (List Key×Addr×Value)}
theorem KT.val{kvs:List (List Key×V)}(r:KT H kvs xs)(k:List Key):Gk (Cw kvs k) ((atKey xs k).map (·.2)):=by
 induction r with
 |nil=>exact True.intro
 |@cons p q i a h t f=>
  obtain⟨d,_,g⟩:=h;by_cases e:p.1=k
  ·have c:q.1=k:=d.symm.trans e;have b:atKey (q::a) k=some q.2:=by simp[atKey,List.find?_cons,c]
   rw[Fu e,b];exact g
  ·have c:¬q.1=k:=fun z=>e (d.trans z);have b:atKey (q::a) k=atKey a k:=by simp[atKey,List.find?_cons,c]
   rw[Fw e,b];exact f
theorem KT.cO{kvs:List (List Key×V)}(r:KT H kvs xs)(k:List Key)(c:RelV y u):
  KT H (kvs.map fun kv=>if kv.1=k then(kv.1,y)else kv) (xs.map (putAt k u)):=by
 induction r with
 |nil=>exact .nil
 |@cons p q g i h t d=>
  rw[List.map_cons,List.map_cons];refine .cons ?_ d;obtain⟨a,b,f⟩:=h;unfold putAt;by_cases e:p.1=k
  ·rw[if_pos e,if_pos (a.symm.trans e)];exact⟨a,b,c⟩
  ·rw[if_neg e,if_neg (fun z=>e (a.trans z))];exact⟨a,b,f⟩
theorem KT.put{kvs:List (List Key×V)}(r:KT H kvs xs)(k:List Key){b:Addr}(c:H b=some (.tup (k.map kV)))(a:RelV y u):
  KT H (putK kvs k y) (storedH xs k b u):=by
 have e:(kvs.any fun d=>decide (d.1=k))=(atKey xs k).isSome:=by
  rw[E_,(r.val k).Ia,Option.isSome_map]
 unfold putK storedH;rw[e];by_cases q:(atKey xs k).isSome=true
 ·rw[if_pos q,if_pos q];exact r.cO k a
 ·rw[if_neg q,if_neg q];exact Paired.snoc r ⟨rfl,c,a⟩
variable{H':Hp}
theorem KT.keeps{kvs:List (List Key×V)}(r:KT H kvs xs)(a:∀b ys,H b=some (.tup ys)->H' b=some (.tup ys)):KT H' kvs xs:=
 Paired.fS r fun _ _ z=>⟨z.1,a _ _ z.2.1,z.2.2⟩
section
variable{P:Program} {w:World} {H:Hp} {h:Heap} {a:Addr}
theorem SY{u:HO}(ok:Et P w H h)(e:Rd H a u):BJ P w H h a u:=e.ok ok
theorem KR{kvs:List (Key×V)}(ok:Et P w H h)(e:Rd H a (.dK kvs)):kvs.length<=sizeLine/\(a==sysModules)=false/\∃b,KV kvs b/\h.DictOf (BE P w) a b:=
 show BJ P w H h a (.dK kvs)from SY ok e
theorem Vt{kvs:List (Key×V)}(ok:Et P w H h)(e:H a=some (.dK kvs)):kvs.length<=sizeLine/\(a==sysModules)=false/\∃b,KV kvs b/\h.DictOf (BE P w) a b:=KR ok (.inl e)
theorem NG{ks:List Key}(ok:Et P w H h)(e:H a=some (.tup (ks.map kV))):(tupleKind (BE P w)).is h ks a:=by
 obtain⟨_,b,r,o,c,d,n,f⟩:=(show BJ P w H h a (.tup (ks.map kV))from ok a _ e);exact⟨o,b.toArray,n,c,d,f,by simpa using L' r⟩
theorem Oi{kvs:List (List Key×V)}(ok:Et P w H h)(e:Rd H a (.dT kvs)):kvs.length<=sizeLine/\(a==sysModules)=false/\
  ∃xs,KT H kvs xs/\h.DictOfH (tupleKind (BE P w)) a xs:=by
 obtain⟨z,y,xs,r,o,d,f,g,i,j,k,n⟩:=(show BJ P w H h a (.dT kvs)from SY ok e);refine⟨z,y,xs,r,o,d,f,g,i,j,k,fun x b=>?_,n⟩;have all:∀{l:List (List Key×V)}{m:List (List Key×Addr×Value)},KT H l m->∀x∈m,(tupleKind (BE P w)).is h x.1 x.2.1:=by
  intro l m q
  induction q with
  |nil=>intro x b;exact nomatch b
  |@cons p q u v c t s=>
   intro x b;rcases List.mem_cons.mp b with e|b
   ·subst e;exact NG ok (by rw[<-c.1];exact c.2.1)
   ·exact s x b
 exact all r x b
theorem gS{kvs:List (List Key×V)}(ok:Et P w H h)(e:H a=some (.dT kvs)):kvs.length<=sizeLine/\(a==sysModules)=false/\
  ∃xs,KT H kvs xs/\h.DictOfH (tupleKind (BE P w)) a xs:=Oi ok (.inl e)
end
def NH(H:Hp)(a:Addr)(y:V)(r:Option V):Prop:= (∃kvs k,Rd H a (.dK kvs)/\y=kV k/\r=Cw kvs k)∨∃kvs k b,Rd H a (.dT kvs)/\y=.ref b/\H b=some (.tup (k.map kV))/\r=Cw kvs k
def Tw(H:Hp)(a:Addr)(y v:V)(H':Hp):Prop:= (∃kvs k,H a=some (.dK kvs)/\y=kV k/\kvs.length<sizeLine/\H'=upd H a (.dK (putK kvs k v)))∨
 ∃kvs k b,H a=some (.dT kvs)/\y=.ref b/\H b=some (.tup (k.map kV))/\kvs.length<sizeLine/\H'=upd H a (.dT (putK kvs k v))
theorem NH.k{H:Hp}{a:Addr}{kvs:List (Key×V)}{k:Key}(e:H a=some (.dK kvs)):NH H a (kV k) (Cw kvs k):=.inl ⟨kvs,k,.inl e,rfl,rfl⟩
theorem Tw.k{H:Hp}{a:Addr}{kvs:List (Key×V)}{k:Key}{v:V}(e:H a=some (.dK kvs))(b:kvs.length<sizeLine):Tw H a (kV k) v (upd H a (.dK (putK kvs k v))):=.inl ⟨kvs,k,e,rfl,b,rfl⟩
variable{Q:Value->Shared->Prop}{h':Heap}
section
variable{X:Cx} {pins:List (Addr×Obj)} {σ:St} {H:Hp} {s:Shared} {a:Addr} {y v:V} {u r:Value} {o:Option V} {A:Around} {E:Value->Shared->Prop}
theorem Inv.big(I:Inv X pins σ H s):sysModules<s.heap.objs.size:=by
 have h:mainGlobals<s.heap.objs.size:=(I.mod.glob.keeps I.bk).lt;exact Nat.lt_trans (by decide) h
theorem Tx(q:A.units+1<cLine)(I:Inv X pins σ H s)(g:NH H a y (some v))(n:RelV y u)(h:∀f s',Inv X pins σ H s'->RelV v f->Q f s'):
  wpAny (model X.prog X.w) A (getItem (.ref a) u) Q E s:=by
 rcases g with⟨kvs,k,e,i,l⟩|⟨kvs,k,b,e,i,t,l⟩
 ·subst i;obtain⟨z,x,B,c,j⟩:=KR I.Bb e;obtain⟨f,hw,d⟩:=Gk.some_of (v:=v) (o:=valueAt B k) (by rw[l];exact c.val k);exact wpAny_getItem_of (KQ n) j.mapOf hw (h f _ (I.tok _) d)
 ·subst i;cases(show u=Value.ref b from n);obtain⟨z,x,C,c,j⟩:=Oi I.Bb e;obtain⟨f,hw,d⟩:=Gk.some_of (v:=v) (o:=(atKey C k).map (·.2)) (by rw[l];exact c.val k);obtain⟨p,D,m⟩:=Option.map_eq_some_iff.mp hw;refine wpAny_getItem_heap (tupleKind_room_in1 q) (NG I.Bb t) j D ?_;rw[m];exact h f _ (I.tok _) d
theorem Yu(m:A.units+1<cLine)(I:Inv X pins σ H s)(g:NH H a y o)(j:RelV y u)(h:∀s',Inv X pins σ H s'->Q (.bool (!o.isSome)) s'):
  wpAny (model X.prog X.w) A (compareOp .NotIn u (.ref a)) Q E s:=by
 rcases g with⟨kvs,k,e,d,l⟩|⟨kvs,k,b,e,d,n,l⟩
 ·subst d;obtain⟨z,f,p,c,i⟩:=KR I.Bb e;refine wpAny_notIn_of (KQ j) f i.mapOf ?_;rw[<-(c.val k).Ia,<-l];exact h _ (I.tok _)
 ·subst d;cases(show u=Value.ref b from j);obtain⟨z,f,t,c,i⟩:=Oi I.Bb e;refine wpAny_notIn_heap (tupleKind_room_in1 m) (NG I.Bb n) f i ?_;have q:=(c.val k).Ia;rw[Option.isSome_map]at q;rw[<-q,<-l];exact h _ (I.tok _)
theorem Jq{ob:HO}(I:Inv X pins σ H s)(c:fT (H a))(d:Heap.SameBut a s.heap h')(f:∃q,h'.get? a=some q)(new:BJ X.prog X.w (upd H a ob) h' a ob):
  Inv X pins σ (upd H a ob) {s with heap:=h',toks:=t'}:=
 I.write (x:=a) (e:=a) c (.inl rfl) (fun b q g z=>(d.2 b g).trans z) f new
theorem KS{kvs:List (Key×V)}{b:List (Key×Value)}(z:kvs.length<=sizeLine)(d:(a==sysModules)=false)(c:KV kvs b)(dd:h'.DictOf (BE P w) a b):
  BJ P w H' h' a (.dK kvs):=⟨z,d,b,c,dd⟩
theorem Tz{Q:Unit->Shared->Prop}(K:A.units+1<cLine)(I:Inv X pins σ H s)(g:Tw H a y v H')(C:RelV y u)(D:RelV v r)(h:∀s',Inv X pins σ H' s'->Q () s'):
  wpAny (model X.prog X.w) A (setItem (.ref a) u r) Q E s:=by
 rcases g with⟨kvs,k,e,j,l,m⟩|⟨kvs,k,b,e,j,F,l,m⟩
 ·subst j m;obtain⟨z,n,L,d,p⟩:=Vt I.Bb e;have t:L.length<=sizeLine:=by rw[<-d.length];exact z
  have x:(putK kvs k v).length<=sizeLine:=by have:=Fx kvs k v;lia
  refine wpAny_setItem_pairs (hsz:=t) (KQ C) p fun G f B=>h _ ?_;have M:∃q,G.get? a=some q:=let⟨q,_,_,i,_⟩:=f;⟨q,i⟩;exact Jq I (by rw[e];exact True.intro) B M (KS x n (d.put k D) f)
 ·subst j m;cases(show u=Value.ref b from C);obtain⟨z,n,N,d,p⟩:=gS I.Bb e;have t:N.length<=sizeLine:=by rw[<-Paired.length d];exact z
  have x:(putK kvs k v).length<=sizeLine:=by have:=Fx kvs k v;lia
  refine wpAny_setItem_heap (hsz:=t) (tupleKind_room_in1 K) (NG I.Bb F) p fun G f B=>h _ ?_;obtain⟨q,O,P,i,R,S,T,_,U⟩:=f;refine Jq I (by rw[e];exact True.intro) B ⟨q,i⟩ ⟨x,n,_,(d.put k F D).keeps fun c W J=>?_,q,O,P,i,R,S,T,U⟩;rw[AN (Es J e (fun z=>nomatch z))];exact J
end
section
variable{X:Cx} {pins:List (Addr×Obj)} {σ:St} {H:Hp} {s:Shared} {a:Addr} {kvs:List (Key×V)} {k:Key} {u:Value} {A:Around} {E:Value->Shared->Prop}
theorem gT{v:V}{more:List Value}(I:Inv X pins σ H s)(e:H a=some (.dK kvs))(f:RelV (kV k) u)(l:Cw kvs k=some v)(j:more=[]∨∃x,more=[x])(h:∀c s',Inv X pins σ (upd H a (.dK (Ee kvs k))) s'->RelV v c->Q c s'):wpAny (model X.prog X.w) A (call (.builtin "dict.pop") (.ref a::u::more)) Q E s:=by
 obtain⟨z,p,m,b,n⟩:=Vt I.Bb e;obtain⟨c,hw,g⟩:=Gk.some_of (v:=v) (o:=valueAt m k) (by rw[<-l];exact b.val k);have r:(keyPart u).isSome=true:=by
  cases k with
  |inl i=>obtain⟨t,q⟩:=(show∃t,u=Value.int i t from f);subst q;rfl
  |inr x=>obtain⟨t,q⟩:=(show∃t,u=Value.str x t from f);subst q;rfl
 have y:argsOk "dict.pop" ⟨.ref a::u::more,[]⟩:=by
  rcases j with q|⟨x,q⟩
  ·subst q;exact PySem.F.args_dict_pop_2 _ _
  ·subst q;exact PySem.F.args_dict_pop_3 _ _ _
 refine call_meetsIn PySem.F.slot_dict_pop n.typeIs PySem.F.entry_dict_pop y (meets_dict_pop_there (BE X.prog X.w) a (KQ f) more j r)
  ⟨m,c,n,by rw[<-b.length];exact z,hw,fun B d C=>h c _ ?_ g⟩
 have D:∃q,B.get? a=some q:=let⟨q,_,_,G,_⟩:=d;⟨q,G⟩;exact Jq I (by rw[e];exact True.intro) C D (KS (Nat.le_trans (Vs kvs k) z) p (b.drop k) d)
end
def cP(i:Expr):Prop:=∀ov a,subscripted i false ov a=operate [ov,a] (getItem ov a)
variable{pos:Pos}
theorem Yv{prog:Program}{E:Value->Shared->Prop}{env:Env}{value slice:Expr}{T id:String}(j:typeLookup (.type T) "__getitem__"=pure (some (.builtin id)))(k:cP slice)(h:wpAny (model prog w) A (eval value env) (fun o c=>wpAny (model prog w) A (eval slice env) (fun i a=>a.TypeIs o T/\wpAny (model prog w) A (getItem o i) Q E a) E c) E s):
  wpAny (model prog w) A (eval (.Subscript value slice pos) env) Q E s:=by
 refine Subscript_ (wpAny_mono h (fun o c e=>wpAny_mono e (fun i a b=>?_) fun _ _ x=>x) fun _ _ x=>x);obtain⟨g,b⟩:=b;unfold subscriptTail;refine wpAny_bind ?_;rw[getitemInPython_of_ne g.not_modules];refine wpAny_bind (wpAny_specialOf g j ?_);have fin:wpAny (model prog w) A (subscripted slice false o i) (fun r d=>wpAny (model prog w) A (letTemporaryGo value o r>>=fun _=>pure r) Q E d) E a:=by
  rw[k o i];exact wpAny_operating (wpAny_mono b (fun r d f=>wpAny_bind (wpAny_letTemporaryGo (wpAny_pure f))) fun _ _ x=>x)
 first
  |exact wpAny_pure (wpAny_bind fin)
  |exact wpAny_bind (wpAny_pure (wpAny_bind fin))
  |exact wpAny_bind fin
variable{X:Cx}
theorem Oj{a:Addr}(I:Inv X pins σ H s)(g:NH H a y o):s.TypeIs (.ref a) "dict":=by
 rcases g with⟨kvs,k,e,_,_⟩|⟨kvs,k,b,e,_,_,_⟩
 ·obtain⟨_,_,d,_,c⟩:=KR I.Bb e;exact c.typeIs
 ·obtain⟨_,_,f,_,c⟩:=Oi I.Bb e;exact c.typeIs
inductive qm(x y:V)(H:Hp)(Q:VK):Prop
 |mk(a:Addr)(v:V)(e:x=.ref a)(g:NH H a y (some v))(q:Q v H)
inductive qo(x y:V)(H:Hp)(Q:VK):Prop
 |mk(a:Addr)(o:Option V)(e:x=.ref a)(g:NH H a y o)(q:Q (.bl (!o.isSome)) H)
def ay(b ty:TE):TE:=fun a H Q=>b a H fun x c=>ty a c fun y d=>qm x y d Q
def Yw(ty b:TE):TE:=fun a H Q=>ty a H fun y c=>b a c fun x d=>qo x y d Q
def gU(d ty e:TE):TS:=fun D b H=>e b H fun v f=>d b f fun x g=>ty b g fun y h=>∃a c,x=.ref a/\Tw h a y v c/\D.nx b c
section
variable{X:Cx} {o i e value:Expr} {pos pos' kb:Pos} {td ty tv:TE}
theorem Yx(f:X.A.units+1<cLine)(j:PE X o td)(k:PE X i ty)(l:cP i):PE X (.Subscript o i pos) (ay td ty):=by
 intro pins s c H Q I h;refine Yv PySem.F.slot_dict_getitem.lookup l (Bl (j pins s c H _ I h) fun u m n=>n.elim fun x p q r t=>Bl (k pins m c p _ q t) fun E G ⟨y,w,d,z,a,v,B,g,C⟩=>?_);subst B;obtain rfl:u=Value.ref a:=r;exact⟨Oj d g,Tx f d g z fun J K D b=>⟨v,w,D,b,C⟩⟩
theorem Ib(c:X.A.units+1<cLine)(d:PE X i ty)(f:PE X o td):PC X .NotIn i o (Yw ty td):=by
 intro pins s b H Q I h;refine Bl (d pins s b H _ I h) fun B j k=>k.elim fun y l m n p=>Bl (f pins j b l _ m p) fun u C ⟨x,q,r,t,a,ov,v,g,w⟩=>?_;subst v;obtain rfl:u=Value.ref a:=t;exact Yu c r g n fun D z=>⟨.bl (!ov.isSome),q,z,rfl,w⟩
theorem Sa(d:X.A.units+1<cLine)(f:PE X o td)(j:PE X i ty)(k:PE X value tv)(l:swapsWith value (some (.Subscript o i pos')) pos.line X.env=pure false):
  PS X (.Assign [.Subscript o i pos'] value pos) (gU td ty tv):=by
 intro pins s b H D I h;refine wpAny_Assign_Subscript (Bl (k pins s b H _ I h) fun r m c=>c.elim fun v n p q t=>Bl (f pins m b n _ p t) fun u w c=>c.elim fun x z B C E=>Bl (j pins w b z _ B E) fun N O ⟨y,P,F,G,a,J,K,g,L⟩=>?_) l;subst K;obtain rfl:u=Value.ref a:=C;exact Tz d F g G q fun Q M=>⟨b,J,M,L⟩
end
theorem Ol(h:Heap)(a:sysModules<h.objs.size):BJ P w H (h.push {cls:=.type "dict",data:=.dict #[]}) h.objs.size (.dK []):=
 ⟨Nat.zero_le _,beq_eq_false_iff_ne.mpr (Ne.symm (Nat.ne_of_lt a)),[],.nil,Heap.DictOf.new h⟩
def cQ:TE:=fun _ H Q=>∀p,H p=none->Q (.ref p) (upd H p (.dK []))
section
variable{X:Cx} {pos:Pos}
theorem KU:PE X (.Dict [] [] pos) cQ:=fun pins s b H Q I h=>
 wpAny_Dict_empty ⟨.ref s.heap.objs.size,_,I.laid (a:=s.heap.objs.size) (o:=.dK []) (t':=s.toks) (fun _ _ q=>Heap.get?_push_of_some _ q) (Nat.le_refl _) (Ol s.heap I.big),rfl,h _ (I.Bb.fresh (Nat.le_refl _))⟩
end
def Qo:List (TE×TE)->St->Hp->(List (V×V)->Hp->Prop)->Prop
 |[],_,H,Q=>Q [] H
 |(tk,a)::r,σ,H,Q=>tk σ H fun x b=>a σ b fun y H2=>Qo r σ H2 fun ps c=>Q ((x,y)::ps) c
abbrev VV:List (V×V)->List (Value×Value)->Prop:=Paired fun p q=>RelV p.1 q.1/\RelV p.2 q.2
def jb(X:Cx)(pos:Pos)(keys:List (Option Expr))(values:List Expr)(a:List (TE×TE)):Prop:=
 ∀(pins:List (Addr×Obj))(s:Shared)(b:St)(H:Hp)(Q:List (V×V)->Hp->Prop),Inv X pins b H s->Qo a b H Q->
  wpAny (model X.prog X.w) X.A (evalPairs (pairTrees keys values X.env pos)) (fun e f=>∃c d,Inv X pins b d f/\VV c e/\Q c d) X.xe s
theorem Yy:jb X pos [] [] []:=fun pins s a H Q I h=>pairTrees_nil_walk ⟨[],H,I,.nil,h⟩
theorem Vu{k v:Expr}{ks:List (Option Expr)}{d:List Expr}{tk e:TE}{a:List (TE×TE)}(f:PE X k tk)(g:PE X v e)(i:jb X pos ks d a):
  jb X pos (some k::ks) (v::d) ((tk,e)::a):=fun pins s b H Q I h=>
 pairTrees_cons_walk (Bl (f pins s b H _ I h) fun u j l=>l.elim fun x m n o p=>Bl (g pins j b m _ n p) fun E q ⟨y,r,t,w,z⟩=>
  Bl (i pins q b r _ t z) fun F G ⟨A,B,C,c,D⟩=>⟨(x,y)::A,B,C,.cons ⟨o,w⟩ c,D⟩)
def EG(kvs more:List (Key×V)):List (Key×V):=more.foldl (fun a b=>putK a b.1 b.2) kvs
theorem KV.merge:∀{more:List (Key×V)}{b:List (Key×Value)}{kvs:List (Key×V)}{a:List (Key×Value)},KV more b->KV kvs a->KV (EG kvs more) (merged a b):=by
 intro more b kvs a r;unfold KV at r
 induction r generalizing kvs a with
 |nil=>intro q;exact q
 |@cons p q f g h t c=>
  intro d;have e:KV (putK kvs p.1 p.2) (stored a q.1 q.2):=by
   have:=d.put p.1 h.2;rw[<-h.1];exact this
  exact c e
theorem Em:∀(more kvs:List (Key×V)),(EG kvs more).length<=kvs.length+more.length
 |[],kvs=>by show kvs.length<=kvs.length+0;lia
 |p::r,kvs=>by
  have a:=Em r (putK kvs p.1 p.2);have b:=Fx kvs p.1 p.2;show(EG (putK kvs p.1 p.2) r).length<=_;rw[List.length_cons];lia
theorem KW{P:Program}{w:World}:∀{kvs:List (Key×V)}{ws:List (Value×Value)},VV (kvs.map fun kv=>(kV kv.1,kv.2)) ws->∃d,Carries (BE P w) ws d/\KV kvs d
 |[],_,r=>by rw[List.map_nil]at r;cases r;exact⟨[],True.intro,.nil⟩
 |p::kvs,_,r=>by
  rw[List.map_cons]at r;cases r with
  |@cons a b f bs h t=>
   obtain⟨d,c,q⟩:=KW (P:=P) (w:=w) t;obtain⟨g,e⟩:=b;exact⟨(p.1,e)::d,⟨KQ h.1,rfl,c⟩,.cons ⟨rfl,h.2⟩ q⟩
def gW(a:List (TE×TE)):TE:=fun d H Q=>∀p,H p=none->Qo a d (upd H p (.dK [])) fun e b=>b p=some (.dK [])/\∃kvs:List (Key×V),e=kvs.map (fun c=>(kV c.1,c.2))/\kvs.length<=15/\Q (.ref p) (upd b p (.dK (EG [] kvs)))
theorem Yz{keys:List (Option Expr)}{values:List Expr}{b:List (TE×TE)}(h:jb X pos keys values b)(d:keys.all (·.isSome)=true)(k:keys.length=values.length)(l:keys≠[])(g:keys.length<=15):PE X (.Dict keys values pos) (gW b):=by
 intro pins s m H Q I q;have n:=I.Bb.fresh (Nat.le_refl s.heap.objs.size);have p:=I.laid (a:=s.heap.objs.size) (o:=.dK []) (h':=s.heap.push {cls:=.type "dict",data:=.dict #[]}) (t':=s.toks) (fun _ _ q=>Heap.get?_push_of_some _ q) (Nat.le_refl _) (Ol s.heap I.big);refine wpAny_Dict_walk (knd:=BE X.prog X.w) d k l g (Bl (h pins _ m _ _ p (q _ n)) fun J K ⟨L,M,j,i,e,kvs,r,lk,t⟩=>?_);subst r;obtain⟨u,c,v⟩:=KW (P:=X.prog) (w:=X.w) i;obtain⟨z,x,y,A,B⟩:=Vt j.Bb e;cases A;refine⟨u,c,B,fun h' f C=>⟨.ref s.heap.objs.size,_,?_,rfl,t⟩⟩;have D:(EG [] kvs).length<=sizeLine:=by
  have E:=Em kvs [];rw[List.length_nil]at E;rw[sizeLine_eq];lia
 have F:∃q,h'.get? s.heap.objs.size=some q:=let⟨q,_,_,G,_⟩:=f;⟨q,G⟩;exact Jq j (by rw[e];exact True.intro) C F (KS D x (v.merge .nil) f)
structure M1(X:Cx)(o:Expr)(m:Str)(apos:Pos)(e:Expr)(Ft:Pos):Prop where
 base:attributeBase o m X.env (eval o X.env)=eval o X.env
 kr:((backTo Ft (starEach [e] X.env)).all (fun x=> !x.1)&&(backToKw Ft (keywordEach [] X.env)).all (fun x=>x.1.isSome)
  &&decide (([e]:List Expr).length+([]:List Keyword).length+(if([]:List Keyword).isEmpty then 0 else 1)<30))=true
 line:(apos.endLine==Ft.line)=true
 trees:backTo Ft (starEach [e] X.env)=[(false,eval e X.env)]
def oE(H:Hp)(a:Addr):Prop:=(∃kvs,Rd H a (.dK kvs))∨∃kvs,Rd H a (.dT kvs)
theorem cR{a:Addr}(I:Inv X pins σ H s)(d:oE H a):
  s.TypeIs (.ref a) "dict"/\(∀b,Value.ref a=.ref b->∃ob,s.heap.get? b=some ob/\ob.dict=none)/\(a==sysModules)=false:=by
 rcases d with⟨kvs,e⟩|⟨kvs,e⟩
 ·obtain⟨_,f,i,_,c⟩:=KR I.Bb e;refine⟨c.typeIs,fun b q=>?_,f⟩;cases q;obtain⟨ob,_,_,g,h,_⟩:=c;exact⟨ob,g,h.2.1⟩
 ·obtain⟨_,f,j,_,c⟩:=Oi I.Bb e;refine⟨c.typeIs,fun b q=>?_,f⟩;cases q;obtain⟨ob,_,_,g,h,_⟩:=c;exact⟨ob,g,h.2.1⟩
section
variable{X:Cx} {pins:List (Addr×Obj)} {σ:St} {H:Hp} {s:Shared} {a:Addr} {y d:V} {u r:Value} {o:Option V} {A:Around} {E:Value->Shared->Prop}
end
def cS(e ty:TE):TE:=fun b H Q=>e b H fun x c=>∃a,x=.ref a/\oE c a/\ty b c fun y d=>∃kvs k v,d a=some (.dK kvs)/\y=kV k/\Cw kvs k=some v/\Q v (upd d a (.dK (Ee kvs k)))
section
variable{X:Cx} {o e f:Expr} {apos Ft:Pos} {td ty tx:TE}
theorem Vv(i:PE X o td)(j:PE X e ty)(m:M1 X o "pop" apos e Ft):PE X (.Call (.Attribute o "pop" apos) [e] [] Ft) (cS td ty):=by
 intro pins s c H Q I h;refine wpAny_Call_method m.base m.kr m.line PySem.F.plainAttrs_dict PySem.F.slot_dict_pop PySem.F.type_dict_pop (Bl (i pins s c H _ I h) fun u n ⟨x,p,g,q,a,r,d,t⟩=>?_);subst r;obtain rfl:u=Value.ref a:=q;obtain⟨w,z,_⟩:=cR g d;refine⟨w,z,?_⟩;rw[m.trees];refine Calls.callWith_builtin rfl (Calls.evalArgs_plain (Calls.spliced_cons (Bl (j pins n c p _ g t) fun J K ⟨y,L,A,B,kvs,k,v,C,D,l,E⟩=>Calls.spliced_nil ?_)));subst D;exact gT A C B l (.inl rfl) fun M N G b=>⟨v,_,G,b,E⟩
end
section
variable{X:Cx} {pins:List (Addr×Obj)} {σ:St} {H:Hp} {s:Shared} {a:Addr} {kvs:List (Key×V)} {A:Around} {E:Value->Shared->Prop}
theorem Vw(I:Inv X pins σ H s)(e:Rd H a (.dK kvs))(h:∀p s',H p=none->Inv X pins σ (upd H p (.dK kvs)) s'->Q (.ref p) s'):wpAny (model X.prog X.w) A (call (.type "dict") [.ref a]) Q E s:=by
 obtain⟨z,g,k,c,i⟩:=KR I.Bb e;refine kt_call_dict g i (by rw[<-c.length];exact z) fun l d j=>?_;refine h _ _ (I.Bb.fresh (Nat.le_refl _)) (I.laid (a:=s.heap.objs.size) (o:=.dK kvs) (t':=s.toks) (fun b q f=>?_) (Nat.le_refl _) (KS z (beq_eq_false_iff_ne.mpr (Ne.symm (Nat.ne_of_lt I.big))) c d));exact(j.2 b (Nat.ne_of_lt (Heap.lt_size f))).trans (Heap.get?_push_of_some _ f)
end
section
variable{X:Cx} {pins:List (Addr×Obj)} {σ:St} {H:Hp} {s:Shared} {a:Addr} {y:V} {u:Value} {A:Around} {E:Value->Shared->Prop}
end
end L2
namespace oF
open PySem PySem.W PySem.Calls PyProof.Rows
variable{P:Params}
theorem Jh{h:Heap}:∀(c:List Int)(d:List Value),WellAll P h d (c.map WData.int)->IntsAre d c:=by
 intro c
 induction c with
 |nil=>
  intro d w;rw[List.map_nil]at w;cases w;exact .nil
 |cons n c e=>
  intro d w;rw[List.map_cons]at w;cases w with
  |cons a b=>
   cases a;exact .cons _ _ (e _ b)
variable{l:OpenLaw}
theorem T_{n:Nat}(o:l.most=some n){h:Heap}{args:List WData}{vals:List Value}(c:l.row.toRowW.claim.pre args=true)(i:WellAll P h vals args):
  ∃a k b,vals=[Value.ref a]/\args=[WData.list (b.map WData.int)]/\h.get? a=some {cls:=.type "list",data:=.seq k.toArray}/\IntsAre k b/\b.length<=n:=by
 have j:WShape.hasAll [] args [.list .int]=true:=(pre_splitW c).1;have m:l.pre.holds [] {args:=args}=true:=(pre_splitW c).2;obtain⟨d,r,rfl,p,s⟩:=hasAllW_cons j;obtain rfl:=hasAllW_nil s;obtain⟨y,rfl,t⟩:=hasW_list p;obtain⟨b,rfl⟩:=items_int t;have hlen:b.length<=n:=by
  unfold OpenLaw.pre at m;have f:(WTm.not (.lt (.lit (.int (n:Int))) (.len (.arg 0)))).holds [] {args:=[.list (b.map .int)]}=true:=by
   have f:=(holds_andW m).1;rw[o]at f;exact f
  have g:=condW_of f (w_not (w_lt w_lit (w_len_list (w_arg rfl))));rw[List.length_map]at g;refine Nat.le_of_not_lt fun q=>?_;have u:(n:Int)<((b.length:Nat):Int):=by lia
  first
   |(rw[decide_eq_true u]at g;exact absurd g (by decide))
   |(simp at g;lia)
 cases i with
 |cons v w=>
  cases w;cases v with
  |list x e=>exact⟨_,_,b,rfl,rfl,x,Jh b _ e,hlen⟩
theorem T'(l:OpenLaw)(args:List WData):l.row.toRowW.claim.post args (.bool true) args=true:=
 postW_of (r:=l.row.toRowW) (X:=(true==true)) (show WShape.has [] (.bool true) .bool=true by first|rfl|decide|simp[WShape.has,WShape.arms,WShape.armsAll]) (show(WTm.eq .res (.lit (.bool true))).value [] {args:=args,res:=some (.bool true),after:=args}=some (.bool (true==true))from w_eq_bool (w_res rfl) w_lit) rfl
theorem Om{n:Nat}{q:Program}{loose:List Str}{v:(Str->Option Value)->Heap->Prop}{YP:World->Heap->Prop}{d:DefRec}(z:l.most=some n)(k:d.params.defaults=[])(call:∀(w:World) (s₀ b:Shared) (mg m:Str->Option Value) (fa:Addr) (o:Obj) (p h doc:Value) (a:Addr) (c:List Value) (i:List Int),
   Ground q loose [] v w s₀ mg m b.heap->YP w b.heap->
   b.heap.get? fa=some o->o.data=.func (docDef d.name d.params d.body d.scope p h doc)->b.heap.CodeRec h d.name->mg d.name=some (.ref fa)->
   b.heap.get? a=some {cls:=.type "list",data:=.seq c.toArray}->IntsAre c i->i.length<=n->b.gens= #[]->
   codeAny (model l.prog w) callerA (.call (.ref fa) ⟨[.ref a],[]⟩) (fun r j=>r=.ok (.ret (.bool true))/\OldK b.heap j.heap/\j.os=b.os/\AllBare j.gens) b):
  WalkO q loose v YP l.row.toRowW d [] (fun f c=>PySem.call f c):=by
 intro w s₀ b mg m G Y fa o p h doc A kV B C s x t D args vals M e y E u F;obtain rfl:A=.none:=Dflts.none x k;obtain rfl:kV=.none:=Dflts.noKw x;obtain⟨a,c,i,rfl,rfl,g,hints,hlen⟩:=T_ z e u;refine enter_call (codeAny_mono (call w s₀ b mg m fa o p h doc a c i G Y B (fd_plain C) s t g hints hlen D) fun r j H=>?_);obtain⟨rfl,I,J,K⟩:=H;exact⟨.inl ⟨.bool true,.bool true,[],rfl,fun _=>rfl,.bool true,T' l _,fun _=>⟨List.Pairwise.nil,fun _ L=>(nomatch L)⟩⟩,I,J,K⟩
section
variable{prog:Program} {w:World} {A:Around} {E:Value->Shared->Prop} {s:Shared} {K:Frag}
end
end oF
namespace L2
open PySem PySem.Spec PyProof.Rows
theorem UA{a:List Value}{b:List Int}(h:IntsAre a b):Vals (b.map V.int) a:=by
 induction h with
 |nil=>exact .nil
 |cons n t _ c=>exact .cons ⟨t,rfl⟩ c
def cT(H:Hp):Prop:=∀b,H b=none∨∃o a,H b=some (.DT o (.lst a))
variable{x:Str}{w:World}
theorem Vx{P:Program}{K:vA}{mg M:Str->Option Value}{CX:QU}{k:Nat}{fa a:Addr}{U:FuncData}{sp:Sp}{c:Shared}{l:List Value}{t:List Int}(X:K.In c.heap)(y:c.heap.Ns mainGlobals mg)(g:c.heap.Ns builtinsNs M)(N:∀x:Str,x≠"__name__"->M x=bootBuiltins x)(A:c.heap.NoLimit)(hg:c.gens= #[])(L:c.heap.get? a=some {cls:=.type "list",data:=.seq l.toArray})(Y:IntsAre l t)(Z:t.length<=sizeLine)(hr:BZ k callerA)(F:∀base:Heap,K.In base->base.Ns mainGlobals mg->Av P w K mg base CX k fa U [x] sp)(p:∀(s:Shared) (u:Value),BindsTo s U ⟨[u],[]⟩ [(x,u)])(O:∀H:Hp,cT H->Ay K H a (t.map V.int)->sp [.ref a] H (fun v _=>v=.bl true) fun _ _ _=>False)(Q:∀H e i,CX [] H c (fun _ _ _=>False) e i->False):
  codeAny (model P w) callerA (.call (.ref fa) ⟨[.ref a],[]⟩) (fun r i=>r=.ok (.ret (.bool true))/\OldK c.heap i.heap/\i.os=c.os/\AllBare i.gens) c:=by
 have rv:=UA Y;have B:=Y.length;have core:∀H:Hp,cT H->Ay K H a (t.map V.int)->Et P w H c.heap->(∀b,H b≠none->b=a)->(H a≠none->K.lookup a=none)->
   codeAny (model P w) callerA (.call (.ref fa) ⟨[.ref a],[]⟩) (fun r i=>r=.ok (.ret (.bool true))/\OldK c.heap i.heap/\i.os=c.os/\AllBare i.gens) c:=by
  intro H hO hS C hA hK;have f:∀{b:Addr}{o:Obj},c.heap.get? b=some o->H b=none->(M_ c.heap H).get? b=some o:=fun e n=>VT e n;have R:∀{b:Addr}{o:Obj}{D:Array DictEntry}{E:Nat},c.heap.get? b=some o->o.data=.dict D E->H b=none:=fun{b o D E} e d=>by
   cases q:H b with
   |none=>rfl
   |some u=>
    have S:b=a:=hA b (by rw[q];simp);subst S;rw[L]at e;cases e;have d':Data.seq l.toArray _=Data.dict D E:=d;cases d'
  have j:∀{b:Addr}{m:Str->Option Value},c.heap.Ns b m->(M_ c.heap H).Ns b m:=fun{b m} ⟨o,D,E,e,d,r⟩=>⟨o,D,E,f e (R e d),d,r⟩;have G:K.In (M_ c.heap H):=fun b o e=>f (X b o e) (by
   cases q:H b with
   |none=>rfl
   |some u=>
    have S:b=a:=hA b (by rw[q];simp);subst S;rw[hK (by rw[q];simp)]at e;cases e)
  have hM:Mod K mg (M_ c.heap H):=⟨G,j y,⟨M,j g,N⟩,let⟨mc,h1,h2⟩:=A;⟨mc,j h1,h2⟩⟩;have e0:Qh P w K mg (M_ c.heap H) callerA [] c H:=⟨rfl,hM,fun b o e=>Yd e,Nat.le_of_eq (To _ _),trivial,fun b g=>absurd (show b∈([]:List Addr)from g) (by simp),C,.of_eq hg⟩;refine codeAny_mono ((F _ G (j y)).run callerA [] c H ⟨[.ref a],[]⟩ [.ref a] [.ref a] _ _ hr e0 (p c (.ref a)) (.cons rfl .nil) (O H hO hS)) fun r i h=>?_;cases r with
  |error e=>exact(Q H e i h).elim
  |ok fl=>
   cases fl with
   |next=>exact False.elim h
   |brk=>exact False.elim h
   |cont=>exact False.elim h
   |ret u=>
    obtain⟨v,H',os,bare,un,I,r',q⟩:=h;have q':v=.bl true:=q;subst q';obtain rfl:u=Value.bool true:=r';refine⟨rfl,OldK.of_keep fun b o e=>?_,os,bare⟩;cases q:H b with
    |none=>exact un.keep b o e q (by intro z;exact absurd (show b∈([]:List Addr)from z) (by simp)) (by simp)
    |some u=>
     rcases hO b with z|⟨ob,xs,z⟩
     ·rw[q]at z;cases z
     ·have z2:=un.Gm b ob _ z;obtain⟨e1,_⟩:=C b _ z;obtain⟨e2,_⟩:=I b _ z2;rw[e]at e1;cases e1;exact e2
 cases T:K.lookup a with
 |some o=>
  have e:=X a o T;rw[L]at e;cases e;refine core (fun _=>none) (fun _=>.inl rfl) (.inr ⟨_,l.toArray,_,T,rfl,rfl,rfl,by rw[List.size_toArray,B];exact Z,by simpa using rv⟩) (fun b u z=>by have J:(none:Option HO)=some u:=z;cases J) (fun b z=>absurd rfl z) fun z=>absurd rfl z
 |none=>
  refine core (fun b=>if b=a then some (.DT {cls:=.type "list",data:=.seq l.toArray} (.lst (t.map V.int)))else none) (fun b=>?_) (.inl (.inr ⟨{cls:=.type "list",data:=.seq l.toArray},if_pos rfl⟩)) (fun b u z=>?_) (fun b z=>?_) fun _=>T
  ·by_cases g:b=a
   ·exact .inr ⟨_,_,if_pos g⟩
   ·exact .inl (if_neg g)
  ·by_cases g:b=a
   ·have J:=(if_pos g).symm.trans z;cases J;subst g;exact⟨L,by rw[List.length_map];exact Z,l,_,rv,L⟩
   ·have J:=(if_neg g).symm.trans z;cases J
  ·by_cases g:b=a
   ·exact g
   ·exact absurd (if_neg g) z
variable{n:Nat}
theorem Y_{l:PySem.W.OpenLaw}{k:Nat}{q:Program}{loose:List Str}{D:(Str->Option Value)->Heap->Prop}{YP:World->Heap->Prop}{d:DefRec}{K:Params->vA}{CX:World->QU}{sp:World->Sp}(E:l.most=some n)(m:n<=sizeLine)(p:d.params.defaults=[])(I:BZ k callerA)(J:∀(w:World) (h:Heap),YP w h->(K w.params).In h)(F:∀(w:World) (mg:Str->Option Value) (fa:Addr) (h:Heap),(K w.params).In h->h.Ns mainGlobals mg->mg d.name=some (.ref fa)->
   ∃r:FuncData,(∀(s:Shared) (u:Value),BindsTo s r ⟨[u],[]⟩ [(x,u)])/\
    ∀base:Heap,(K w.params).In base->base.Ns mainGlobals mg->Av l.prog w (K w.params) mg base (CX w) k fa r [x] (sp w))(t:∀(w:World) (H:Hp) (a:Addr) (j:List Int),j.length<=n->cT H->Ay (K w.params) H a (j.map V.int)->sp w [.ref a] H (fun v _=>v=.bl true) fun _ _ _=>False)(y:∀(w:World) (H:Hp) (s:Shared) (e:Value) (s':Shared),CX w [] H s (fun _ _ _=>False) e s'->False):
  PySem.W.WalkO q loose D YP l.row.toRowW d [] (fun f A=>PySem.call f A):=by
 refine oF.Om E p fun w B c mg R fa o S U doc a A j G Y X Z L z i hints hlen M=>?_;have C:=J w _ Y;obtain⟨r,N,O⟩:=F w mg fa _ C G.T.g z;exact Vx C G.T.g G.T.b G.T.builtins G.T.nolimit M i hints (Nat.le_trans hlen m) I O N (fun H P Q=>t w H a j hlen P Q) fun H e s'=>y w H c e s'
def inClass(s:Stmt)(j:Nat):Stmt:=match s with
 | .ClassDef _ _ _ body _ _ _ _ _ _ _=>body.getD j (.Pass ⟨0,0,0,0⟩)
 |_=>.Pass ⟨0,0,0,0⟩
def EK(s:Stmt):Arguments:=match s with
 | .FunctionDef _ a _ _ _ _ _ _ _ _=>a
 |_=>{posonlyargs:=[],args:=[],vararg:=none,kwonlyargs:=[],kw_defaults:=[],kwarg:=none,defaults:=[]}
def DC(s:Stmt):List Stmt:=match s with
 | .FunctionDef _ _ b _ _ _ _ _ _ _=>b
 |_=>[]
def AL(s:Stmt):Scope:=match s with
 | .FunctionDef _ _ _ _ _ _ a _ _ _=>a
 |_=>{kind:=.function,names:=[],isGenerator:=false,isCoroutine:=false}
abbrev CP:QU:=fun _ _ _ _ _ _=>False
abbrev E0:XK:=fun _ _ _=>False
variable{X:Cx}
theorem gX:Passes CP X E0:=fun _ _ _ _ _ _ _ h=>h.elim
structure CL(K:vA)(x qual:Str)(st:Stmt)(f:Addr)(fd:FuncData):Prop where
 ex:∃(oc:Value)(od:Option Addr)(kV doc pm:Value)(an:Option Addr)(Ic ct:Value)(qp:Array (Option Value)),
  fd=PySem.W.fnOf x qual (EK st) (DC st) (AL st) .none kV doc pm an Ic ct/\K.lookup f=some ⟨oc,od,.func fd,qp⟩/\PySem.W.codeIn K Ic qual=true
 kp:PySem.W.keepIn K (.ref f)=true
variable{qual:Str}{st:Stmt}{f:Addr}
section
variable{P:Program} {w:World} {K:vA} {mg:Str->Option Value} {base:Heap}
theorem CL.ok{g:FuncData}{N ps:List Str}{k:Nat}{sp:Sp}(F:CL K x qual st f g)(S:AU N ps (AL st))(len:∀b H Q E,sp b H Q E->b.length=ps.length)(c:∀(a:Value) (A:Around) (outer:List Env) (s:Shared) (H:Hp) (b:List V) (Q:VK) (E:XK),BZ k (A.deeper (envOfC qual (AL st) s.heap.objs.size f a))->sp b H Q E->
   ∃t,Lr (La CP P w K mg base N qual (AL st) f a A outer s H E).eg (DC st) t/\t {nx:=fun _ i=>Q .As i,rt:=Q} (start N b) H):Av P w K mg base CP (k+1) f g ps sp:=by
 obtain⟨m,n,kV,doc,o,p,a,r,j,rfl,lk,d⟩:=F.ex;refine ax lk d S len fun A outer s H b Q E l e=>?_;obtain⟨t,h,q⟩:=c a A outer s H b Q E l e;exact⟨t,h.eg,q⟩
theorem CL.binds{e:FuncData}{ps:List Str}(F:CL K x qual st f e)(h:∀(kV doc b:Value) (c:Option Addr) (a ct:Value) (d:List Value),d.length=ps.length->bindArgs (PySem.W.fnOf x qual (EK st) (DC st) (AL st) .none kV doc b c a ct) ⟨d,[]⟩=pure (ps.zip d)):Binds K e ps []:=by
 obtain⟨j,k,kV,doc,b,c,a,ct,g,rfl,lk,i⟩:=F.ex;exact .all (h kV doc b c a ct)
theorem Qp{g:Value}{od d:Option Addr}{b:Array (Option Value)}{kV doc e a ct:Value}(l:K.lookup f=some ⟨g,od,.func (PySem.W.fnOf x qual (EK st) (DC st) (AL st) .none kV doc e d a ct),b⟩)(c:PySem.W.codeIn K a qual=true)(k:PySem.W.keepIn K (.ref f)=true):CL K x qual st f (PySem.W.fnOf x qual (EK st) (DC st) (AL st) .none kV doc e d a ct):=⟨⟨g,od,kV,doc,e,d,a,ct,b,rfl,l,c⟩,k⟩
end
variable{A:Around}
theorem An{k:Nat}(a:BZ k A):A.units+1<cLine:=Nat.lt_of_le_of_lt (Nat.add_le_add_left (by decide:1<=64) _) a.units
theorem Aw(h:n<=1000):n<sizeLine:=Nat.lt_of_le_of_lt h (by decide)
variable{pos:Pos}
section
variable{X:Cx}
theorem pv(i:Nat)(b:X.N[i]?=some x:=by rfl)(c:fU X.env.scope x:=by first|exact Or.inl rfl|exact Or.inr (Or.inl rfl)|exact Or.inr (Or.inr rfl))(d:(x==("__debug__":Str))=false:=by decide)(a:(x==("__classdict__":Str))=false:=by decide):PE X (.Name x pos) (bc i):=bf b c d a
end
theorem Ae{A B:Prop}(h:B):if false=true then A else B:=by
 rw[if_neg Bool.false_ne_true];exact h
theorem Aj{A B:Prop}(h:A):if true=true then A else B:=by
 rw[if_pos rfl];exact h
theorem Bs{c A B:Prop}[Decidable c](a:c->A)(b:¬c->B):if c then A else B:=by
 by_cases h:c
 ·rw[if_pos h];exact a h
 ·rw[if_neg h];exact b h
def AF(H H':Hp):Prop:=∀b o,H b=some o->H' b=some o
theorem AF.refl(H:Hp):AF H H:=fun _ _ h=>h
variable{H:Hp}
theorem AF.trans{d H2:Hp}(a:AF H d)(b:AF d H2):AF H H2:=fun c o h=>b c o (a c o h)
theorem AF.free{H':Hp}(e:AF H H'){l:Addr}(h:H' l=Option.none):H l=Option.none:=by
 cases q:H l with
 |none=>rfl
 |some o=>
  rw[e l o q]at h;cases h
theorem AF.seq{K:vA}{H':Hp}{a:Addr}{xs:List V}(e:AF H H')(h:Ay K H a xs):Ay K H' a xs:=by
 rcases h with(h|⟨o,h⟩)|h
 ·exact .inl (.inl (e _ _ h))
 ·exact .inl (.inr ⟨o,e _ _ h⟩)
 ·exact .inr h
section
variable{κ:Type} [DecidableEq κ]
theorem Vy{kvs:List (κ×V)}{k:κ}(h:Cw kvs k=none):¬k∈kvs.map (·.1):=by
 intro m;obtain⟨p,a,e⟩:=List.mem_map.mp m;have q:(kvs.any fun b=>decide (b.1=k))=true:=List.any_eq_true.mpr ⟨p,a,decide_eq_true e⟩;rw[E_,h]at q;exact absurd q (by simp)
theorem Y'{kvs:List (κ×V)}{k:κ}{v:V}(h:Cw kvs k=some v):k∈kvs.map (·.1):=by
 have q:(kvs.any fun a=>decide (a.1=k))=true:=by
  rw[E_,h]
  all_goals rfl
 obtain⟨p,b,e⟩:=List.any_eq_true.mp q;exact List.mem_map.mpr ⟨p,b,of_decide_eq_true e⟩
theorem UB{p:κ×V}{r:List (κ×V)}{k:κ}(e:p.1=k):Ee (p::r) k=Ee r k:=by
 unfold Ee;rw[List.filter_cons,if_neg (by simp[e])]
theorem MA{p:κ×V}{r:List (κ×V)}{k:κ}(e:¬p.1=k):Ee (p::r) k=p::Ee r k:=by
 unfold Ee;rw[List.filter_cons,if_pos (by simp[e])]
theorem Oo:∀{kvs:List (κ×V)}{k:κ},¬k∈kvs.map (·.1)->Ee kvs k=kvs
 |[],_,_=>rfl
 |p::r,k,h=>by
  have h':¬k∈r.map (·.1):=fun m=>by
   obtain⟨q,a,e⟩:=List.mem_map.mp m;exact h (List.mem_map.mpr ⟨q,List.mem_cons.mpr (Or.inr a),e⟩)
  rw[MA fun e=>h (List.mem_map.mpr ⟨p,List.mem_cons.mpr (Or.inl rfl),e⟩),Oo h']
end
variable{scope:Scope}{s:Shared}{env:Env}
theorem KX{prog:Program}{R:Result->Shared->Prop}{a f iter:Expr}{d:List Expr}{it b:Value}(e:Nat->Shared->Prop)(step:∀n s,e n s->wpAny (model prog w) A (pyNext it) (fun r o=>match r with
   |none=>R (.ok .next) o
   |some v=>wpAny (model prog w) A (letOwnedTupleGo f it v) (fun _ p=>wpAny (model prog w) A (assign f env v) (fun _ u=>
     wpAny (model prog w) A (forIn d true fun c r=>if r=true then do let ok<-isTrue c env (eval c env);pure (ForInStep.yield ok)else pure (ForInStep.yield r)) (fun ok g=>
      if ok=true then wpAny (model prog w) A (eval a env) (fun y i=>wpAny (model prog w) A (call (.builtin "list.append") [b,y]) (fun _ j=>∃m,m<n/\e m j) (fun _ _=>False) i) (fun _ _=>False) g
      else∃m,m<n/\e m g) (fun _ _=>False) u) (fun _ _=>False) p) (fun _ _=>False) o) (fun _ _=>False) s)(n:Nat)(h:e n s):codeAny (model prog w) A (.compLoop (.ListComp a [⟨f,iter,d,0⟩] scope pos) 0 it b env) R s:=by
 have up:∀{B:Type}{t:Sem B}{Q:B->Shared->Prop}{E:Value->Shared->Prop}{s:Shared},wpAny (model prog w) A t Q (fun _ _=>False) s->wpAny (model prog w) A t Q E s:=
  fun h=>wpAny_mono h (fun _ _ q=>q) fun _ _ z=>z.elim
 refine codeAny_loop rfl e (fun k s D=>?_) n h;show wpAny _ A ((compTurn (.ListComp a [⟨f,iter,d,0⟩] scope pos) 0 it b env).onRaise (fun x=>do noteFrame x env;theTreesLotGoes x)) _ _ s;refine wpAny_noted ?_;rw[compTurn_list];refine wpAny_bind (wpAny_standAt (wpAny_bind (wpAny_mono (up (step k s D)) (fun r o C=>?_) fun _ _ z=>z)));cases r with
 |none=>exact wpAny_pure C
 |some v=>
  refine wpAny_bind (wpAny_mono (up C) (fun _ p F=>?_) fun _ _ z=>z);refine wpAny_bind (wpAny_mono (up F) (fun _ u G=>?_) fun _ _ z=>z);refine wpAny_bind (wpAny_mono (up G) (fun ok g l=>?_) fun _ _ z=>z);cases ok with
  |false=>exact wpAny_pure ⟨rfl,l⟩
  |true=>
   have l:wpAny (model prog w) A (eval a env) (fun y i=>wpAny (model prog w) A (call (.builtin "list.append") [b,y]) (fun _ j=>∃m,m<k/\e m j) (fun _ _=>False) i) (fun _ _=>False) g:=l;exact wpAny_bind (wpAny_bind (wpAny_mono (up l) (fun y i H=>wpAny_bind (wpAny_mono (up H) (fun _ j I=>wpAny_pure (wpAny_pure ⟨rfl,I⟩)) fun _ _ z=>z)) fun _ _ z=>z))
noncomputable def DL(cells:List (Str×Addr)):List (Str×NameKind)->List (Str×Addr)->List (Str×Addr)
 |[],a=>a
 |(n,k)::r,a=>if k==.free then DL cells r ((n,(cells.lookup n).getD 0)::a)else DL cells r a
theorem EL{cells:List (Str×Addr)}{x:Str}{c:Addr}:∀(names:List (Str×NameKind))(a:List (Str×Addr)),(∀p∈names,p.2=.free->∃c,cells.lookup p.1=some c)-> (∀y d,a.lookup y=some d->cells.lookup y=some d)->(DL cells names a).lookup x=some c->cells.lookup x=some c
 |[],a=>fun _ g h=>g x c h
 |(n,k)::r,a=>fun i g h=>by
  unfold DL at h;by_cases j:(k==NameKind.free)=true
  ·rw[if_pos j]at h;have o:k=.free:=by simpa using j
   obtain⟨d,q⟩:=i (n,k) List.mem_cons_self o;refine EL r _ (fun p l=>i p (List.mem_cons_of_mem _ l)) (fun y e f=>?_) h;rw[List.lookup_cons]at f;cases b:y==n with
   |true=>
    rw[b]at f;have:y=n:=by simpa using b
    subst this;have m:List.lookup y cells=some d:=q;rw[m]at f⊢;exact f
   |false=>
    rw[b]at f;exact g y e f
  ·rw[if_neg j]at h;exact EL r a (fun p l=>i p (List.mem_cons_of_mem _ l)) g h
theorem EN{cells:List (Str×Addr)}{x:Str}:∀(names:List (Str×NameKind))(a:List (Str×Addr)),((a.lookup x).isSome=true∨(x,NameKind.free)∈names)->((DL cells names a).lookup x).isSome=true
 |[],a,h=>h.elim (fun z=>z) fun z=>nomatch z
 |(n,k)::r,a,h=>by
  unfold DL;by_cases b:(k==NameKind.free)=true
  ·rw[if_pos b];refine EN r _ ?_;rcases h with h|h
   ·refine .inl ?_;rw[List.lookup_cons];cases x==n<;>simp[h]
   ·rcases List.mem_cons.mp h with e|e
    ·refine .inl ?_;have:x=n:=congrArg Prod.fst e;subst this;rw[List.lookup_cons];simp
    ·exact .inr e
  ·rw[if_neg b];refine EN r _ ?_;rcases h with h|h
   ·exact .inl h
   ·rcases List.mem_cons.mp h with e|e
    ·have:NameKind.free=k:=congrArg Prod.snd e;subst this;exact absurd rfl b
    ·exact .inr e
theorem Dh(h:∀p∈scope.names,p.2=.free->∃c,env.cells.lookup p.1=some c):closureFor scope env=pure (DL env.cells scope.names []):=by
 have go:∀(names:List (Str×NameKind))(b:List (Str×Addr)),(∀p∈names,p.2=.free->∃c,env.cells.lookup p.1=some c)-> (forIn names b (fun(x:Str×NameKind) r=>if(x.2==NameKind.free)=true then do let a<-cellOf env x.1;pure (ForInStep.yield ((x.1,a)::r))else pure (ForInStep.yield r)):Sem (List (Str×Addr)))=pure (DL env.cells names b):=by
  intro names
  induction names with
  |nil=>intro b _;rfl
  |cons p r j=>
   intro b f;obtain⟨n,k⟩:=p;rw[List.forIn_cons];unfold DL;by_cases g:(k==NameKind.free)=true
   ·have l:k=.free:=by simpa using g
    obtain⟨c,d⟩:=f (n,k) List.mem_cons_self l;have d:List.lookup n env.cells=some c:=d;have e:cellOf env n=pure c:=by unfold cellOf;rw[d]
    simp only[g,if_true,e,d,Option.getD_some];exact j _ fun p i=>f p (List.mem_cons_of_mem _ i)
   ·simp only[g,if_false];exact j _ fun p i=>f p (List.mem_cons_of_mem _ i)
 unfold closureFor;exact Eq.trans (congrArg (fun t:Sem (List (Str×Addr))=>t>>=fun m=>pure m) (go scope.names [] h)) rfl
def HZ(env:Env)(n:Str)(k:NameKind):NameKind:=if(k==.free&&env.scope.kind==.function&&env.kindOf n==some .cell)=true then .cell else k
theorem Ha{g:Str->NameKind->NameKind}(y:Str):∀names:List (Str×NameKind),(names.map fun p=>(p.1,g p.1 p.2)).lookup y=(names.lookup y).map (g y)
 |[]=>rfl
 |(n,k)::r=>by
  rw[List.map_cons,List.lookup_cons,List.lookup_cons];cases e:y==n with
  |true=>
   have:y=n:=by simpa using e
   subst this;rfl
  |false=>exact Ha y r
theorem Cn(scope:Scope)(env:Env)(y:Str):(relabel scope env).names.lookup y=(scope.names.lookup y).map (HZ env y):=by
 have e:(relabel scope env).names=scope.names.map fun p=>(p.1,HZ env p.1 p.2):=by
  unfold relabel;refine List.map_congr_left fun p _=>?_;obtain⟨n,k⟩:=p;show(if(k==NameKind.free&&env.scope.kind==.function&&env.kindOf n==some .cell)=true then(n,NameKind.cell)else(n,k))=(n,if(k==NameKind.free&&env.scope.kind==.function&&env.kindOf n==some .cell)=true then NameKind.cell else k);by_cases h:(k==NameKind.free&&env.scope.kind==.function&&env.kindOf n==some .cell)=true
  ·rw[if_pos h,if_pos h]
  ·rw[if_neg h,if_neg h]
 rw[e];exact Ha y _
def Cf(σ:St)(fs:List Nat):St:=fs.map fun i=>(σ[i]?).join
variable{σ:St}
theorem MB{fs:List Nat}{j:Nat}{v:V}(h:(Cf σ fs)[j]?=some (some v)):∃i,fs[j]?=some i/\σ[i]?=some (some v):=by
 unfold Cf at h;rw[List.getElem?_map]at h;cases e:fs[j]? with
 |none=>rw[e]at h;cases h
 |some i=>
  rw[e]at h;refine⟨i,rfl,?_⟩;have a:(σ[i]?).join=some v:=uz h;cases b:σ[i]? with
  |none=>rw[b]at a;cases a
  |some o=>
   rw[b]at a;have a:o=some v:=a;rw[a]
noncomputable def kindB:Bool->NameKind
 |true=>.cell
 |false=>.local
noncomputable def cU:Bool->Str->List (Str×NameKind)
 |true,x=>[(x,.cell)]
 |false,_=>[]
noncomputable def Ie:Bool->Str->Addr->List (Str×Addr)
 |true,x,C=>[(x,C+1)]
 |false,_,_=>[]
theorem Gq:∀(names:List (Str×NameKind))(n:Nat)(a:List (Str×Addr))(h:Heap),names.filter (fun p=>p.2==.cell)=[]->cellsFrom n names a=a/\pushCells h names=h
 |[],_,_,_,_=>⟨rfl,rfl⟩
 |(y,k)::r,n,a,h,e=>by
  rw[List.filter_cons]at e;cases b:k==NameKind.cell with
  |true=>rw[b]at e;simp at e
  |false=>
   rw[b]at e;unfold cellsFrom pushCells;rw[b];exact Gq r n a h (by simpa using e)
theorem MC{x:Str}:∀(names:List (Str×NameKind))(n:Nat)(a:List (Str×Addr))(h:Heap),names.filter (fun p=>p.2==.cell)=[(x,.cell)]->cellsFrom n names a=(x,n)::a/\pushCells h names=h.push {cls:=.type "cell",data:=.cell none}
 |[],_,_,_,e=>by simp at e
 |(y,k)::r,n,a,h,e=>by
  rw[List.filter_cons]at e;cases b:k==NameKind.cell with
  |true=>
   rw[b]at e;simp only[if_true,List.cons.injEq,Prod.mk.injEq]at e;unfold cellsFrom pushCells;rw[b];simp only[if_true];obtain⟨c,d⟩:=Gq r (n+1) ((y,n)::a) (h.push {cls:=.type "cell",data:=.cell none}) e.2;rw[c,d,e.1.1];exact⟨rfl,rfl⟩
  |false=>
   rw[b]at e;unfold cellsFrom pushCells;rw[b];exact MC r n a h (by simpa using e)
variable{E:Value->Shared->Prop}{b:Bool}
theorem KY{M:Model}{globals:Addr}{cl:List (Str×Addr)}{outer:Env}{Q:Env->Shared->Prop}(g:scope.names.filter (fun p=>p.2==.cell)=cU b x)(h:∀h':Heap,h'.Ns s.heap.objs.size (fun _=>none)->(∀a o,s.heap.get? a=some o->h'.get? a=some o)->(b=true->h'.IsCell (s.heap.objs.size+1) none)->
   Q {scope,locals:=s.heap.objs.size,globals,cells:=Ie b x s.heap.objs.size++cl,qual,func:=none,code:=outer.code,frame:=outer.frame,builtins:=outer.builtins} {s with heap:=h'}):
  wpAny M A (newFunctionEnv scope globals cl [] qual none .none (some outer)) Q E s:=by
 simp only[newFunctionEnv,Option.isSome_some,if_true];refine wpAny_bind (wpAny_alloc ?_);refine wpAny_bind (wpAny_layCells _ (fun name kind cells=>by cases c:kind==NameKind.cell<;>simp[c]) _ _ _ _ ?_);rw[List.forIn_nil];refine wpAny_bind (wpAny_pure (wpAny_pure ?_));have sz:(s.heap.push {cls:=.type "dict",data:=.dict #[]}).objs.size=s.heap.objs.size+1:=Heap.size_push ..;cases b with
 |false=>
  obtain⟨d,f⟩:=Gq scope.names (s.heap.push {cls:=.type "dict",data:=.dict #[]}).objs.size cl (s.heap.push {cls:=.type "dict",data:=.dict #[]}) g;show Q {scope:=_,locals:=_,globals:=_,cells:=cellsFrom (s.heap.push {cls:=.type "dict",data:=.dict #[]}).objs.size scope.names cl,qual:=_,func:=_,code:=_,frame:=_,builtins:=_} {s with heap:=pushCells (s.heap.push {cls:=.type "dict",data:=.dict #[]}) scope.names};rw[d,f];exact h _ (Heap.Ns.new s.heap (.type "dict")) (fun a o e=>Heap.get?_push_of_some _ e) (fun z=>nomatch z)
 |true=>
  obtain⟨d,f⟩:=MC scope.names (s.heap.push {cls:=.type "dict",data:=.dict #[]}).objs.size cl (s.heap.push {cls:=.type "dict",data:=.dict #[]}) g;show Q {scope:=_,locals:=_,globals:=_,cells:=cellsFrom (s.heap.push {cls:=.type "dict",data:=.dict #[]}).objs.size scope.names cl,qual:=_,func:=_,code:=_,frame:=_,builtins:=_} {s with heap:=pushCells (s.heap.push {cls:=.type "dict",data:=.dict #[]}) scope.names};rw[d,f,sz];exact h _ ((Heap.Ns.new s.heap (.type "dict")).push _) (fun a o e=>Heap.get?_push_of_some _ (Heap.get?_push_of_some _ e)) (fun _=>⟨_,by rw[<-sz];exact Heap.get?_push_size _ rfl,rfl⟩)
structure Di(X:Cx)(scope:Scope)(x:Str)(fv:List Str)(fs:List Nat)(b:Bool:=false):Prop where
 kind:scope.kind=.function
 oG:scope.names.filter (fun p=>p.2==.cell)=cU b x
 names:∀p∈scope.names,p.2=.local->scope.names.lookup p.1=some .local
 tg:scope.names.lookup x=some (kindB b)
 free:∀p∈scope.names,p.2=.free->X.env.scope.names.lookup p.1=some .cell
 nd:(x::fv).Nodup
 ku:∀(j:Nat) y,fv[j]?=some y->∃i,fs[j]?=some i/\X.N[i]?=some y/\scope.names.lookup y=some .free
 len:fv.length=fs.length
def Sb(a:Scope)(N:List Str)(scope:Scope)(x:Str)(fv:List Str)(fs:List Nat)(b:Bool:=false):Bool:=
 scope.kind==.function&&scope.names.filter (fun p=>p.2==.cell)==cU b x&&(scope.names.all fun p=>p.2 !=.local||scope.names.lookup p.1==some .local)&&scope.names.lookup x==some (kindB b)&&
 (scope.names.all fun p=>p.2 !=.free||a.names.lookup p.1==some .cell)&&decide (x::fv).Nodup&&fs.map (N[·]?)==fv.map some&&(fv.all fun y=>scope.names.lookup y==some .free)
theorem Di.of{fv:List Str}{fs:List Nat}(h:Sb X.env.scope X.N scope x fv fs b=true):Di X scope x fv fs b:=by
 unfold Sb at h;simp only[Bool.and_eq_true,List.all_eq_true,Bool.or_eq_true,bne_iff_ne,beq_iff_eq,decide_eq_true_eq]at h;obtain⟨⟨⟨⟨⟨⟨⟨i,k⟩,m⟩,n⟩,o⟩,q⟩,g⟩,r⟩:=h;have hlen:fs.length=fv.length:=by
  have:=congrArg List.length g;simpa using this
 refine⟨i,k,fun p c d=>(m p c).resolve_left fun z=>z d,n,fun p c d=>(o p c).resolve_left fun z=>z d,q,fun j y e=>?_,hlen.symm⟩;have s:j<fv.length:=(uy e).1;have f:=congrArg (fun l=>l[j]?) g;simp only[List.getElem?_map,e]at f;have a:j<fs.length:=by lia
 rw[ux a]at f;refine⟨fs[j],ux a,?_,r y (u_ e)⟩;simpa using f
abbrev DE(X:Cx)(ex:List (Str×Addr))(N':List Str)(scope:Scope)(C:Addr)(s0:Shared)(H0:Hp)(fp:List Addr):Cx where
 prog:=X.prog
 w:=X.w
 K:=X.K
 mg:=X.mg
 base:=X.base
 A:=X.A
 N:=N'
 s₀:=s0
 H₀:=H0
 env:=compEnvC scope (ex++DL X.env.cells scope.names []) C X.env
 outer:=X.stack
 stack:=X.stack
 ex:=fp
 fn:=fun y=>(ex.lookup y).isSome
 calm:=X.calm
 pn:=[]
 xe:=fun _ _=>False
abbrev EJ(X:Cx)(a:List Str)(scope:Scope)(C:Addr)(b:Shared)(c:Hp)(d:List Addr):Cx:=DE X [] a scope C b c d
variable{y:Str}{C:Addr}
section
variable{X:Cx} {pins:List (Addr×Obj)} {σ:St} {H H':Hp} {s s':Shared} {scope:Scope} {x:Str} {fv:List Str} {fs:List Nat} {fp:List Addr} {b:Bool}
theorem Di.cells(ok:Di X scope x fv fs b)(I:Inv X pins σ H s):∀p∈scope.names,p.2=.free->∃c,X.env.cells.lookup p.1=some c:=fun p a d=>I.ok.has p.1 (.inl (ok.free p a d))
theorem Di.look(ok:Di X scope x fv fs b)(I:Inv X pins σ H s){c:Addr}(h:(DL X.env.cells scope.names []).lookup y=some c):X.env.cells.lookup y=some c:=
 EL scope.names [] (ok.cells I) (fun _ _ z=>by cases z) h
theorem KZ{c:Addr}(h:(Ie b x C).lookup y=some c):b=true/\y=x/\c=C+1:=by
 cases b with
 |false=>cases h
 |true=>
  have h:(List.lookup y [(x,C+1)])=some c:=h;rw[List.lookup_cons]at h;cases e:y==x with
  |true=>rw[e]at h;cases h;exact⟨rfl,eq_of_beq e,rfl⟩
  |false=>rw[e]at h;cases h
theorem Qq(ok:Di X scope x fv fs b)(I:Inv X pins σ H s)(E:∀b∈fp,El X pins H b)(A:∀b∈fp,∃o,s.heap.get? b=some o){w:Heap}{m:Str->Option Value}{tk:Nat}(R:w.Ns s.heap.objs.size m)(kept:∀b o,s.heap.get? b=some o->w.get? b=some o)(B:b=true->w.IsCell (s.heap.objs.size+1) none):Inv (DE X (Ie b x s.heap.objs.size) (x::fv) scope s.heap.objs.size s H fp) [] (none::Cf σ fs) H {s with heap:=w,toks:=tk}:=by
 have C:∀{y c},(Ie b x s.heap.objs.size++DL X.env.cells scope.names []).lookup y=some c->X.env.cells.lookup y=some c∨(b=true/\y=x/\c=s.heap.objs.size+1):=fun{y c} h=>by
  rw[List.lookup_append]at h;cases e:(Ie b x s.heap.objs.size).lookup y with
  |some d=>rw[e]at h;cases h;exact .inr (KZ e)
  |none=>rw[e]at h;exact .inl (ok.look I (by simpa using h))
 have lt:∀{y c},X.env.cells.lookup y=some c->c<s.heap.objs.size:=fun h=>by obtain⟨_,o,n,_⟩:=I.cell _ _ h;exact Heap.lt_size n
 have G:X.env.scope.kind=.function:=I.ok.kind;refine⟨⟨I.ok.mod,ok.kind,I.ok.glob,I.ok.blt,Nat.le_refl _,fun y z c w S=>?_,fun y f=>?_,fun y c t h=>?_,I.ok.hd,I.ok.frames,.inl rfl,fun b g=>⟨?_,fun y c e z=>?_⟩,I.bs,
  Nat.le_trans I.ok.VP I.sz,fun b o e g=>?_,fun b g J=>?_,I.stack,I.HS⟩,rfl,I.bare,Un.kept kept,⟨m,R,fun i y v F q e3=>?_⟩,fun y c e=>?_,I.fresh,fun y c e=>?_,fun p T=>absurd (show p∈([]:List (Addr×Obj))from T) (by simp),I.Bb.kept kept,?_⟩
 ·rcases C w with a|⟨_,a1,a2⟩<;>rcases C S with d|⟨_,U,d2⟩
  ·exact I.ok.inj y z c a d
  ·have:=lt a;lia
  ·have:=lt d;lia
  ·rw[a1,U]
 ·have f:(relabel scope X.env).names.lookup y=some .cell∨(relabel scope X.env).names.lookup y=some .free:=f;rw[Cn]at f;cases e:scope.names.lookup y with
  |none=>rw[e]at f;rcases f with z|z<;>cases z
  |some k=>
   show∃c,(Ie b x s.heap.objs.size++DL X.env.cells scope.names []).lookup y=some c;rw[List.lookup_append];rw[e]at f;have f:HZ X.env y k=.cell∨HZ X.env y k=.free:=f.elim (fun z=>.inl (uz z)) fun z=>.inr (uz z);by_cases K:k=.free
   ·subst K;have:=EN (cells:=X.env.cells) scope.names [] (.inr (PySem.mem_of_lookup e));obtain⟨c,W⟩:=Option.isSome_iff_exists.mp this;rw[W];cases(Ie b x s.heap.objs.size).lookup y<;>exact⟨_,rfl⟩
   ·have q:HZ X.env y k=k:=by
     unfold HZ;have:(k==NameKind.free)=false:=by simpa using K
     rw[this];rfl
    rw[q]at f;rcases f with z|z
    ·subst z;have L:(y,NameKind.cell)∈scope.names.filter (fun p=>p.2==.cell):=List.mem_filter.mpr ⟨PySem.mem_of_lookup e,rfl⟩;rw[ok.oG]at L;cases b with
     |false=>cases L
     |true=>
      have:y=x:=congrArg Prod.fst (List.mem_singleton.mp L);subst this;exact⟨s.heap.objs.size+1,by show(List.lookup y [(y,s.heap.objs.size+1)]).or _=_;rw[List.lookup_cons];simp⟩
    ·exact absurd z K
 ·have t:((Ie b x s.heap.objs.size).lookup y).isSome=true:=t;obtain⟨d,hd⟩:=Option.isSome_iff_exists.mp t;have h:(Ie b x s.heap.objs.size++DL X.env.cells scope.names []).lookup y=some c:=h;rw[List.lookup_append,hd]at h;cases h;obtain⟨_,_,rfl⟩:=KZ hd;exact Nat.le_succ _
 ·obtain⟨o,n⟩:=A b g;exact Nat.ne_of_lt (Heap.lt_size n)
 ·rcases C e with a|⟨_,_,a2⟩
  ·exact(E b g).2.2.2.2.1 y c a z
  ·obtain⟨o,n⟩:=A b g;have:=Heap.lt_size n;lia
 ·rcases(E b g).2.2.2.1 with z|z
  ·exact I.ok.QX b o e z
  ·exact absurd (Nat.lt_of_lt_of_le (Heap.lt_size e) (Nat.le_trans I.ok.VP z)) (Nat.lt_irrefl _)
 ·rcases List.mem_cons.mp (I.J' b J)with z|z
  ·exact(E b g).2.1 z
  ·exact(E b g).2.2.1 z
 ·cases i with
  |zero=>
   have q:(some none:Option (Option V))=some (some v):=q;cases q
  |succ j=>
   have F:fv[j]?=some y:=F;have q:(Cf σ fs)[j]?=some (some v):=q;obtain⟨i,Y,Z⟩:=MB q;obtain⟨i',Q,g4,M⟩:=ok.ku j y F;rw[Y]at Q;cases Q;have N:X.env.scope.names.lookup y=some .cell:=ok.free (y,.free) (PySem.mem_of_lookup M) rfl;obtain⟨m0,_,O⟩:=I.loc;obtain⟨u,r,l⟩:=O i y v g4 Z (.inr (.inl N));refine⟨u,r,?_⟩;rcases l with⟨k,_⟩|⟨_,c,e,o,n,hd⟩
   ·have k:X.env.scope.names.lookup y=some .local:=k;rw[N]at k;cases k
   ·obtain⟨c',D⟩:=Option.isSome_iff_exists.mp (EN (cells:=X.env.cells) scope.names [] (.inr (PySem.mem_of_lookup M)));have:=ok.look I D;rw[e]at this;cases this;have ny:(Ie b x s.heap.objs.size).lookup y=none:=by
     cases ey:(Ie b x s.heap.objs.size).lookup y with
     |none=>rfl
     |some d=>
      obtain⟨_,z,_⟩:=KZ ey;exact absurd (show x∈fv from z▸u_ (l:=fv) (show fv[j]?=some y from F)) (List.nodup_cons.mp ok.nd).1
    refine .inr ⟨.inl ?_,c,by show(Ie b x s.heap.objs.size++DL X.env.cells scope.names []).lookup y=some c;rw[List.lookup_append,ny];exact D,o,kept _ _ n,hd⟩;show(relabel scope X.env).names.lookup y=some .cell;rw[Cn,M];show some (HZ X.env y .free)=_;have P:X.env.kindOf y=some .cell:=N;unfold HZ;rw[G,P];rfl
 ·rcases C e with a|⟨g,_,rfl⟩
  ·obtain⟨v,o,n,hd⟩:=I.cell y c a;exact⟨v,o,kept _ _ n,hd⟩
  ·exact⟨none,B g⟩
 ·rcases C e with a|⟨_,_,rfl⟩
  ·exact I.DV y c a
  ·exact I.Bb.fresh (Nat.le_succ _)
 ·show(none::Cf σ fs).length=(x::fv).length;simp[Cf,ok.len]
theorem Ka{e:St}{f:List Str}{ex:List (Str×Addr)}(I:Inv X pins σ H s)(a:∀b∈fp,El X pins H b)(c:Inv (DE X ex f scope C s H fp) [] e H' s'):Inv X pins σ H' s':=
 I.SN (ch:=fp) c.os c.base c.Bb c.bare fun b d=>⟨(a b d).2.2.2.1,(a b d).2.1,(a b d).2.2.2.2.1,(a b d).2.2.2.2.2⟩
theorem Inv.off{h':Heap}(I:Inv X pins σ H s)(f:El X pins H C)(a:Heap.SameBut C s.heap h'):Inv X pins σ H {s with heap:=h'}:=
 I.turned (t':=s.toks) (fun b o c e=>a.extBut b o c e) f.1 (fun z=>f.2.1 z) f.2.2.2.1 f.2.2.2.2.1 f.2.2.2.2.2
end
def ZA(X:Cx)(a:List Expr)(t:TT):Prop:=
 ∀(pins:List (Addr×Obj))(s:Shared)(b:St)(H:Hp)(Q:Bool->Hp->Prop),Inv X pins b H s->t b H Q->
  wpAny (model X.prog X.w) X.A (forIn a true fun c r=>if r=true then do let ok<-isTrue c X.env (eval c X.env);pure (ForInStep.yield ok)else pure (ForInStep.yield r)) (TP X pins b Q) X.xe s
def UC:TT:=fun _ H Q=>Q true H
theorem Sd:ZA X [] UC:=fun _ _ _ H _ I h=>wpAny_tests_nil ⟨H,I,h⟩
theorem Hb{c:Expr}{t:TT}(h:PT X c t):ZA X [c] t:=fun pins s a H Q I q=>wpAny_tests_one (h pins s a H Q I q)
def Ig(J:It)(g:TT)(h:TE)(fs:List Nat)(σ:St)(H:Hp)(Q:VK):Prop:=∀D,H D=none->∃W:Nat->Nat->Hp->Prop,(∃m,W 0 m (upd H D (.lst [])))/\∀i m a,W i m a-> (J.stop i a/\Q (.ref D) a)∨(J.go i a/\∀v d,J.Vb i a v d->g (some v::Cf σ fs) d fun ok e=>
  if ok=true then h (some v::Cf σ fs) e fun y f=>∃c,f D=some (.lst c)/\c.length<sizeLine/\∃b,b<m/\W (i+1) b (upd f D (.lst (c++[y])))else∃b,b<m/\W (i+1) b e)
def Oq(b:TI)(c:TT)(d:TE)(fs:List Nat):TE:=fun a H Q=>b a H fun J e=>Ig J c d fs a e Q
variable{J:It}{Q:VK}
section
variable{X:Cx} {elt iter:Expr} {x:Str} {px pos:Pos} {ifs:List Expr} {scope:Scope} {fv:List Str} {fs:List Nat} {wi:TI} {te:TE} {tc:TT}
theorem Ot(hc:X.calm=true)(ok:Di X scope x fv fs b)(kx:∀C s0 H0 f,ZA (DE X (Ie b x C) (x::fv) scope C s0 H0 f) ifs tc)(he:∀C s0 H0 f,PE (DE X (Ie b x C) (x::fv) scope C s0 H0 f) elt te){pins:List (Addr×Obj)}{it:Addr}{f:List Addr}{B:Nat->Heap->Prop}(I:Inv X pins σ H s)(T:Turn X.prog X.w X.K (.Name x px) J f it B)(st:B 0 s.heap)(hf:∀b∈f,El X pins H b)(rd:Ig J tc te fs σ H Q){RR:Value->Addr->Result->Shared->Prop}(ky:∀D C s' H',Inv X pins σ H' s'->El X pins H' C->(∃m,s'.heap.Ns C m)->Q (.ref D) H'->RR (.ref D) C (.ok .next) s'):
  wpAny (model X.prog X.w) X.A (newList []) (fun F c=>wpAny (model X.prog X.w) X.A (newFunctionEnv scope X.env.globals (DL X.env.cells scope.names []) [] X.env.qual none .none (some X.env)) (fun h s4=>
   codeAny (model X.prog X.w) X.A (.compStart (.ListComp elt [⟨.Name x px,iter,ifs,0⟩] scope pos) 0 (.ref it) F {h with scope:=relabel scope X.env}) (RR F h.locals) s4) E c) E s:=by
 obtain⟨W,⟨m0,w0⟩,turn⟩:=rd s.heap.objs.size I.fresh;have V:Inv X pins σ (upd H s.heap.objs.size (.lst [])) {s with heap:=s.heap.push {cls:=.type "list",dict:=none,data:=.seq ([]:List Value).toArray}}:=I.cK (its:=[]) (ys:=[]) (t':=s.toks) .nil (Nat.zero_le _);refine wpAny_newObj_type ?_;show wpAny _ _ _ _ _ ({s with heap:=s.heap.push {cls:=.type "list",dict:=none,data:=.seq ([]:List Value).toArray}}:Shared);generalize kz:({s with heap:=s.heap.push {cls:=.type "list",dict:=none,data:=.seq ([]:List Value).toArray}}:Shared)=c at V⊢;refine KY ok.oG fun h1 k_ kept G=>?_;have eh:c.heap=s.heap.push {cls:=.type "list",dict:=none,data:=.seq ([]:List Value).toArray}:=by rw[<-kz]
 have L:∀b o,s.heap.get? b=some o->c.heap.get? b=some o:=fun b o e=>by rw[eh];exact Heap.get?_push_of_some _ e
 have lB:∀b∈f,∃o,c.heap.get? b=some o:=fun b d=>let⟨o,ho,_⟩:=T.obj 0 _ st b d;⟨o,L b o ho⟩;have fA:∀b∈f,b≠s.heap.objs.size:=fun b d=>let⟨o,ho,_⟩:=T.obj 0 _ st b d;Nat.ne_of_lt (Heap.lt_size ho);have j:∀b∈f,El X pins (upd H s.heap.objs.size (.lst [])) b:=fun b d=>⟨by rw[AN (fA b d)];exact(hf b d).1,(hf b d).2⟩;have Y:=Qq (tk:=c.toks) ok V j lB k_ kept G;have M:B 0 h1:=T.keep 0 _ _ st fun b d o e=>kept b o (L b o e);have g:∀{H':Hp},(∀b∈f,H' b=none)->∀a∈f,El (DE X (Ie b x c.heap.objs.size) (x::fv) scope c.heap.objs.size c (upd H s.heap.objs.size (.lst [])) f) [] H' a:=fun hn b d=>
  ⟨hn b d,(Y.ok.bb b d).1,Y.ok.QY b d,.inl d,(Y.ok.bb b d).2,fun p hp=>absurd hp (by simp)⟩
 have hg:PG (DE X (Ie b x c.heap.objs.size) (x::fv) scope c.heap.objs.size c (upd H s.heap.objs.size (.lst [])) f) (.Name x px) (Bm 0):=by
  have tg:=ok.tg;cases b with
  |false=>exact FP ok.nd rfl (.inl (lookup_relabel_local tg)) (.inr (lookup_relabel_local tg))
  |true=>exact FP ok.nd rfl (.inr (show(relabel scope X.env).names.lookup x=_ from by rw[Cn,tg];rfl)) (.inl (show(List.lookup x [(x,c.heap.objs.size+1)]).isSome=true from by rw[List.lookup_cons];simp))
 have loop:codeAny (model X.prog X.w) X.A (.compLoop (.ListComp elt [⟨.Name x px,iter,ifs,0⟩] scope pos) 0 (.ref it) (.ref s.heap.objs.size) (compEnvC scope (Ie b x c.heap.objs.size++DL X.env.cells scope.names []) c.heap.objs.size X.env)) (RR (.ref s.heap.objs.size) c.heap.objs.size)
   {c with heap:=h1}:=by
  refine KX (fun n s'=>∃i o H',Inv (DE X (Ie b x c.heap.objs.size) (x::fv) scope c.heap.objs.size c (upd H s.heap.objs.size (.lst [])) f) [] (o::Cf σ fs) H' s'/\B i s'.heap/\(∀b∈f,H' b=none)/\W i n H') ?_ m0
   ⟨0,none,_,Y,M,fun b d=>(j b d).1,w0⟩
  rintro n s5 ⟨i,o,Z,I5,N,O,w5⟩;rcases turn i n Z w5 with⟨stop,q⟩|⟨go,step⟩
  ·refine Bl (T.done (DE X (Ie b x c.heap.objs.size) (x::fv) scope c.heap.objs.size c (upd H s.heap.objs.size (.lst [])) f) rfl rfl rfl hc i [] s5 _ Z _ I5 (g O) N stop) fun r s6 ⟨hr,I6⟩=>?_;subst hr;obtain⟨m,hm,_⟩:=I6.loc;exact ky _ _ s6 Z (Ka V j I6) (V.Qb (Nat.le_refl _) I6.free) ⟨m,hm⟩ q
  ·refine Bl (T.item (DE X (Ie b x c.heap.objs.size) (x::fv) scope c.heap.objs.size c (upd H s.heap.objs.size (.lst [])) f) rfl rfl rfl hc i [] s5 _ Z _ I5 (g O) N go) fun r s6 ⟨u,hr,h6⟩=>?_;subst hr;refine Bl h6 fun _ s7 ⟨v,H7,I7,r7,y7,k,lC⟩=>?_;have lD:=I7.pinned (g lC) (T.obj _ _ k);have back:∀{P:St}{t:Hp}{R:Shared},Inv (DE X (Ie b x c.heap.objs.size) (x::fv) scope c.heap.objs.size c (upd H s.heap.objs.size (.lst [])) f) ([]++IY f s7.heap) P t R->B (i+1) R.heap/\∀b∈f,t b=none:=fun{P t R} z=>
    ⟨T.keep _ _ _ k fun b d o e=>(z.pin (b,o) (De d e)).1,fun b d=>by
     obtain⟨o,e,_⟩:=T.obj _ _ k b d;exact(z.pin (b,o) (De d e)).2.1⟩
   refine Bl (hg _ s7 _ H7 v u (fun σ2 H2=>σ2=some v::Cf σ fs/\H2=H7) lD r7 ⟨rfl,rfl⟩) fun _ s8 ⟨σ8,H8,I8,e8,lE⟩=>?_;subst e8 lE;refine Bl (kx _ _ _ _ _ s8 _ H8 _ I8 (step v H8 y7)) fun ok R ⟨t,z,q9⟩=>?_;cases ok with
   |false=>
    obtain⟨m',l,w9⟩:=q9;obtain⟨b1,b2⟩:=back z;exact⟨m',l,i+1,some v,t,z.ER,b1,b2,w9⟩
   |true=>
    refine Bl (he _ _ _ _ _ R _ t _ z q9) fun y s10 ⟨yv,S,lF,r10,ys,hD,hz,m',l,w10⟩=>?_;refine Bl (CI _ s10 _ S (.ref s.heap.objs.size) [yv] (.ref s.heap.objs.size) [y] (fun _ H'=>H'=upd S s.heap.objs.size (.lst (ys++[yv]))) lF rfl (.cons r10 .nil) ⟨_,ys,yv,rfl,rfl,hD,hz,rfl⟩) fun _ s11 ⟨_,gY,U,_,e11⟩=>?_;subst e11;obtain⟨b1,b2⟩:=back U;exact⟨m',l,i+1,some v,_,U.ER,b1,b2,w10⟩
 exact codeAny_compStart_list loop (T.self _ 0 _ _ _ M loop)
theorem Vz(b:Bool)(i:X.calm=true)(ok:Di X scope x fv fs b)(j:PI X (.Name x px) iter wi)(c:∀C d e a,ZA (DE X (Ie b x C) (x::fv) scope C d e a) ifs tc)(k:∀C d e a,PE (DE X (Ie b x C) (x::fv) scope C d e a) elt te)(l:∀x,foldedSetIterable iter X.env x=pure x:=by intro _;rfl):PE X (.ListComp elt [⟨.Name x px,iter,ifs,0⟩] scope pos) (Oq wi tc te fs):=by
 intro pins s n H Q I h;rw[eval_ListComp];refine wpAny_comprehension_free (use:=none) rfl l (Dh (ok.cells I)) ok.kind ok.names (Bl (j pins s n H _ I h) fun B E o=>Bl o fun p F r=>?_);obtain⟨G,a,K,J,L,rfl,t,T,f,u,v⟩:=r;exact Ot i ok c k t T f u v fun D C M w y z ⟨m,A⟩ q=>⟨m,A,fun N g=>⟨.ref D,w,y.off z g,rfl,q⟩⟩
theorem Se(e:X.calm=true)(ok:Di X scope x fv fs)(f:PI X (.Name x px) iter wi)(a:∀C b c d,ZA (EJ X (x::fv) scope C b c d) ifs tc)(g:∀C b c d,PE (EJ X (x::fv) scope C b c d) elt te)(h:∀x,foldedSetIterable iter X.env x=pure x:=by intro _;rfl):PE X (.ListComp elt [⟨.Name x px,iter,ifs,0⟩] scope pos) (Oq wi tc te fs):=Vz false e ok f a g h
theorem Ou(b:Bool){i:Nat}{d c:Pos}(L:X.calm=true)(ok:Di X scope x fv fs b)(M:X.N.Nodup)(l:X.N[i]?=some y)(O:Loc X.env.scope y)(P:PI X (.Name x px) iter wi)(n:∀C o p j,ZA (DE X (Ie b x C) (x::fv) scope C o p j) ifs tc)(R:∀C o p j,PE (DE X (Ie b x C) (x::fv) scope C o p j) elt te)(r:swapsWith (.ListComp elt [⟨.Name x px,iter,ifs,0⟩] scope pos) (some (.Name y d)) c.line X.env=pure true:=by rfl)(t:X.fn y=true∨X.env.scope.names.lookup y=some .local:=by first|exact .inl rfl|exact .inr rfl|assumption)(S:∀x,foldedSetIterable iter X.env x=pure x:=by intro _;rfl):PS X (.Assign [.Name y d] (.ListComp elt [⟨.Name x px,iter,ifs,0⟩] scope pos) c) (fun D f H=>Oq wi tc te fs f H fun v g=>D.nx (f.set i (some v)) g):=by
 intro pins s f H D I h;rw[exec_Assign_Name_used _ _ _ _ r];refine wpAny_bind (wpAny_standAt (wpAny_bind ?_));show wpAny _ X.A (comprehension (.ListComp elt [⟨.Name x px,iter,ifs,0⟩] scope pos) scope X.env _ (newList []) false (eval iter X.env) (some (assign (.Name y d) X.env))>>=fun _=>pure ()) _ _ s;refine wpAny_bind (Bl (wpAny_comprehension_free (use:=some (assign (.Name y d) X.env)) (Q:=fun _ k=>SP X pins D .next k) rfl S (Dh (ok.cells I)) ok.kind ok.names (Bl (P pins s f H _ I h) fun xv s1 U=>Bl U fun V s2 W=>?_)) fun _ k Y=>wpAny_pure (wpAny_pure Y));obtain⟨it,j,tn,J,H2,rfl,Z,T,u,f2,rd⟩:=W;refine Ot (Q:=fun v g=>D.nx (f.set i (some v)) g) L ok n R Z T u f2 rd fun K C k g I' w ⟨m,hm⟩ q=>?_;show wpAny _ X.A (assign (.Name y d) X.env (.ref K)) _ _ k;refine wpAny_assign_Name (Lq I' M l O (v:=.ref K) rfl (fun jZ B ⟨a,E,ha⟩=>?_) t);have F:C≠a:=by
  rcases ha with z|z
  ·rw[z];exact w.2.1
  ·exact fun e=>w.2.2.2.2.1 y a z e.symm
 exact⟨m,hm.sameBut E F,fun h' G=>⟨_,g,B.off w G,q⟩⟩
theorem FU{i:Nat}{j a:Pos}(l:X.calm=true)(ok:Di X scope x fv fs)(m:X.N.Nodup)(b:X.N[i]?=some y)(n:Loc X.env.scope y)(o:PI X (.Name x px) iter wi)(c:∀C d e f,ZA (EJ X (x::fv) scope C d e f) ifs tc)(p:∀C d e f,PE (EJ X (x::fv) scope C d e f) elt te)(g:swapsWith (.ListComp elt [⟨.Name x px,iter,ifs,0⟩] scope pos) (some (.Name y j)) a.line X.env=pure true:=by rfl)(h:X.fn y=true∨X.env.scope.names.lookup y=some .local:=by first|exact .inl rfl|exact .inr rfl|assumption)(q:∀x,foldedSetIterable iter X.env x=pure x:=by intro _;rfl):PS X (.Assign [.Name y j] (.ListComp elt [⟨.Name x px,iter,ifs,0⟩] scope pos) a) (fun D k H=>Oq wi tc te fs k H fun v r=>D.nx (k.set i (some v)) r):=Ou false l ok m b n o c p g h q
end
theorem MD{k:TT}{f:TE}{fs:List Nat}(item g:Nat->V)(p:Nat->Bool)(y:n<=sizeLine)(h:∀i D ys,i<n->H D=none->J.go i (upd H D (.lst ys)))(q:∀i D ys v H',i<n->H D=none->J.Vb i (upd H D (.lst ys)) v H'->v=item i/\H'=upd H D (.lst ys))(j:∀D ys,H D=none->J.stop n (upd H D (.lst ys)))(r:∀i D ys (R:Bool->Hp->Prop),i<n->H D=none->R (p i) (upd H D (.lst ys))->k (some (item i)::Cf σ fs) (upd H D (.lst ys)) R)(s:∀i D ys (R:VK),i<n->H D=none->p i=true->R (g i) (upd H D (.lst ys))->f (some (item i)::Cf σ fs) (upd H D (.lst ys)) R)(t:∀D,H D=none->Q (.ref D) (upd H D (.lst (((List.range n).filter p).map g)))):
  Ig J k f fs σ H Q:=by
 intro D c;refine⟨fun i m l=>m=n-i/\i<=n/\l=upd H D (.lst (((List.range i).filter p).map g)),⟨n,by simp⟩,?_⟩;rintro i m l ⟨rfl,z,rfl⟩;by_cases a:i<n
 ·refine .inr ⟨h i D _ a c,fun v u w=>?_⟩;obtain⟨rfl,rfl⟩:=q i D _ v u a c w;refine r i D _ _ a c ?_;have o:∀b,p i=b->((List.range (i+1)).filter p).map g=((List.range i).filter p).map g++(if b=true then[g i]else[]):=fun b d=>by
   rw[List.range_succ,List.filter_append,List.map_append];cases b with
   |true=>simp[d]
   |false=>simp[d]
  cases d:p i with
  |false=>
   show∃x,x<n-i/\_;refine⟨n-(i+1),by lia,rfl,a,?_⟩;rw[o false d];simp
  |true=>
   show f _ _ _;refine s i D _ _ a c d ⟨_,AB,?_,n-(i+1),by lia,rfl,a,?_⟩
   ·rw[List.length_map];have:=List.length_filter_le p (List.range i);rw[List.length_range]at this;lia
   ·rw[Yc,o true d];simp
 ·have e:i=n:=by lia
  subst e;exact .inl ⟨j D _ c,t D c⟩
theorem AF.put{H':Hp}{D:Addr}{o:HO}(s:AF H H')(h:H D=none):AF H (upd H' D o):=fun b u e=>by
 rw[AN (Am e h)];exact s b u e
theorem AF.new{D:Addr}{o:HO}(h:H D=none):AF H (upd H D o):=(AF.refl H).put h
theorem AF.tup{K:vA}{H H':Hp}{a:Addr}{xs:List V}(e:AF H H')(h:Ah K H a xs):Ah K H' a xs:=by
 rcases h with(h|⟨o,h⟩)|h
 ·exact .inl (.inl (e _ _ h))
 ·exact .inl (.inr ⟨o,e _ _ h⟩)
 ·exact .inr h
theorem V_{f:TE}{fs:List Nat}(item:Nat->V)(Ok:Nat->V->Prop)(B:n<=sizeLine)(g:∀i H2,i<n->AF H H2->J.go i H2)(t:∀i H2 v H',i<n->AF H H2->J.Vb i H2 v H'->v=item i/\H'=H2)(h:∀H2,AF H H2->J.stop n H2)(u:∀i H2 (R:VK),i<n->AF H H2->(∀y d,AF H2 d->Ok i y->R y d)->f (some (item i)::Cf σ fs) H2 R)(w:∀D H2 ys,H D=none->AF H H2->H2 D=some (.lst ys)->ys.length=n->(∀(i:Nat) y,ys[i]?=some y->Ok i y)->Q (.ref D) H2):
  Ig J UC f fs σ H Q:=by
 intro D k;refine⟨fun i m H2=>m=n-i/\i<=n/\AF H H2/\∃ys,H2 D=some (.lst ys)/\ys.length=i/\∀(j:Nat) y,ys[j]?=some y->Ok j y,⟨n,by simp,Nat.zero_le _,AF.new k,[],AB,rfl,fun j y z=>by simp at z⟩,?_⟩;rintro i m H2 ⟨rfl,C,c,ys,o,p,r⟩;by_cases a:i<n
 ·refine .inr ⟨g i H2 a c,fun v d x=>?_⟩;obtain⟨rfl,rfl⟩:=t i H2 v d a c x;show f _ _ _;refine u i _ _ a c fun y E s l=>⟨ys,s _ _ o,by lia,n-(i+1),by lia,rfl,a,(c.trans s).put k,ys++[y],AB,by simp[p],fun j z b=>?_⟩;by_cases A:j<ys.length
  ·rw[List.getElem?_append_left A]at b;exact r j z b
  ·rw[List.getElem?_append_right (by lia)]at b;have e:j-ys.length=0:=by
    cases q:j-ys.length with
    |zero=>rfl
    |succ F=>rw[q]at b;simp at b
   rw[e]at b;have:y=z:=by simpa using b
   subst this;have:j=i:=by lia
   subst this;exact l
 ·have e:i=n:=by lia
  subst e;exact .inl ⟨h H2 c,w D H2 ys k c o p r⟩
open Builtin Builtin.Str
theorem ZC(n m:Nat):max 0 (min (m:Int) (n:Int))=((min m n:Nat):Int):=by
 rw[Int.max_eq_right (Int.le_min.mpr ⟨Int.natCast_nonneg _,Int.natCast_nonneg _⟩)];by_cases h:m<=n
 ·rw[Nat.min_eq_left h,Int.min_eq_left (Int.ofNat_le.mpr h)]
 ·rw[Nat.min_eq_right (Nat.le_of_not_le h),Int.min_eq_right (Int.ofNat_le.mpr (Nat.le_of_not_le h))]
theorem V'(n:Nat){i:Int}(h:i<0):max 0 (min (i+(n:Int)) (n:Int))=(((i+(n:Int)).toNat:Nat):Int):=by
 rw[Int.min_eq_left (by lia),Int.toNat_eq_max,Int.max_comm]
theorem WA(l u:Option Int)(n:Nat):strSliceIndices l u 1 n=(List.range (HT.CY n n u-HT.CY n 0 l)).map (HT.CY n 0 l+·):=by
 have clip:∀(v:Option Int)(d:Nat),(match v with|none=>(d:Int)|some i=>max 0 (min (if i<0 then i+(n:Int)else i) (n:Int)))=((HT.CY n d v:Nat):Int):=by
  intro v d;cases v with
  |none=>rfl
  |some i=>
   show max 0 (min (if i<0 then i+(n:Int)else i) (n:Int))=(((if i<0 then(i+(n:Int)).toNat else min i.toNat n):Nat):Int);by_cases h:i<0
   ·simp only[if_pos h];exact V' n h
   ·simp only[if_neg h];obtain⟨m,rfl⟩:=Int.eq_ofNat_of_zero_le (Int.not_lt.mp h);exact ZC n m
 have c:=clip l 0;have e:=clip u n;unfold strSliceIndices sliceRange;simp only[show(1:Int)>0 by decide,if_true,Int.one_mul,Int.ediv_one];have f:((0:Nat):Int)=0:=rfl;rw[f]at c;have gen:∀(A B:Int)(a b:Nat),A=(a:Int)->B=(b:Int)->List.map (fun k:Nat=>(A+(k:Int)).toNat) (List.range (if A<B then B-A+1-1 else 0).toNat)=List.map (fun x=>a+x) (List.range (b-a)):=by
  intro A B a b g j;subst g j;have o:(if(a:Int)<(b:Int)then(b:Int)-(a:Int)+1-1 else 0).toNat=b-a:=by
   split<;>lia
  rw[o];refine List.map_congr_left fun k _=>?_;lia
 exact gen _ _ _ _ c e
def NI(xs:List Nat)(l u:Option Int):List Nat:=(xs.drop (HT.CY xs.length 0 l)).take (HT.CY xs.length xs.length u-HT.CY xs.length 0 l)
theorem Qr{c:Type}(xs:List c)(a k:Nat)(h:a+k<=xs.length):((List.range k).map (a+·)).filterMap (xs[·]?)=(xs.drop a).take k:=by
 rw[List.filterMap_map]
 induction k with
 |zero=>simp
 |succ k d=>
  rw[List.range_succ,List.filterMap_append,d (by lia)];have b:a+k<xs.length:=by lia
  have e:(xs.drop a)[k]?=some (xs[a+k]):=by
   rw[List.getElem?_drop];exact ux b
  rw[List.take_add_one,e];simp[b]
theorem Ov(x:Str)(l u:Option Int):(Txt.slice x l u).cps.toList=NI x.cps.toList l u:=by
 have hlen:x.cps.toList.length=x.length:=by rw[Array.length_toList];rfl
 have c:HT.CY x.length x.length u<=x.length:=by
  cases u with
  |none=>exact Nat.le_refl _
  |some v=>
   show(if v<0 then(v+(x.length:Int)).toNat else min v.toNat x.length)<=x.length;split<;>lia
 unfold Txt.slice NI;rw[hlen,WA];generalize k:HT.CY x.length 0 l=a;generalize d:HT.CY x.length x.length u=b at c;by_cases f:a<=b
 ·split
  ·rename_i h
   simp at h;have:b-a=x.length:=h;have g:a=0:=by lia
   have j:b=x.length:=by lia
   subst g;rw[j,<-hlen,List.drop_zero,Nat.sub_zero,List.take_length]
  ·show(List.filterMap (fun i=>x.cps[i]?) _).toArray.toList=_;rw[List.toList_toArray];have e:(fun i:Nat=>x.cps[i]?)=fun i:Nat=>x.cps.toList[i]?:=by
    funext i;exact(Array.getElem?_toList).symm
   rw[e];exact Qr _ a (b-a) (by lia)
 ·have z:b-a=0:=by lia
  rw[z];simp only[List.range_zero,List.map_nil,List.take_zero];split
  ·rename_i h
   simp at h;have:x.cps.toList=[]:=List.eq_nil_of_length_eq_zero (by rw[hlen];exact h.symm);exact this
  ·rfl
section
variable{X:Cx}
inductive gZ(x:V)(lo a:Option Int)(H:Hp)(Q:VK):Prop
 |mk(z:_)(b:x=.str z)(c:z.length<=sizeLine)(d:Q (.str (Txt.slice z lo a)) H)
def lG:V->Option Int->Option Int->Hp->VK->Prop:=fun x lo a H Q=>gZ x lo a H Q
theorem Kb:gG X lG:=by
 intro pins s g H x v p r lo m w Q I n a o e h;obtain⟨z,rfl,b,q⟩:=h;obtain⟨t,rfl⟩:=n;refine⟨"str",_,F.slot_str_getitem.lookup,typeIs_str _ _ _,?_⟩;have fin:∀c k,EP X pins g Q (.str (Txt.slice z lo m) c) {s with toks:=k}:=fun c k=>⟨.str _,H,I.tok k,⟨c,rfl⟩,q⟩;cases o with
 |none=>
  cases e with
  |none=>exact wpAny_getItem_str_slice (l:=none) (u:=none) (st:=none) a rfl (post_val_or_str ⟨Nat.le_trans (Txt.slice_le z _ _) b,fin⟩)
  |int j d=>exact wpAny_getItem_str_slice (l:=none) (u:=some (j,d)) (st:=none) a rfl (post_val_or_str ⟨Nat.le_trans (Txt.slice_le z _ _) b,fin⟩)
 |int i f=>
  cases e with
  |none=>exact wpAny_getItem_str_slice (l:=some (i,f)) (u:=none) (st:=none) a rfl (post_val_or_str ⟨Nat.le_trans (Txt.slice_le z _ _) b,fin⟩)
  |int j d=>exact wpAny_getItem_str_slice (l:=some (i,f)) (u:=some (j,d)) (st:=none) a rfl (post_val_or_str ⟨Nat.le_trans (Txt.slice_le z _ _) b,fin⟩)
end
section
variable{X:Cx} {tg:Expr}
theorem Qs{ys:List Str}:∀{a:List Value},Vals (ys.map V.str) a->StrsAre a ys:=by
 induction ys with
 |nil=>intro a r;rw[List.map_nil]at r;cases r;exact .nil
 |cons n f b=>
  intro a r;rw[List.map_cons]at r;cases r with
  |cons c d=>
   obtain⟨t,e⟩:=c;subst e;exact .cons n t (b d)
inductive cV(K:vA)(x:V)(a:List V)(H:Hp)(Q:VK):Prop
 |mk(z:Str)(p:Addr)(ys:List Str)(b:x=.str z)(c:a=[.ref p])(d:Ay K H p (ys.map V.str))(e:(ys.map (·.length)).sum+ys.length*z.length<=16777216)(f:Q (.str (Txt.join z ys)) H)
def rJoin(K:vA):V->List V->Hp->VK->Prop:=fun x a H Q=>cV K x a H Q
theorem ZD:kg X "str.join" (rJoin X.K):=by
 intro pins s j H x l v m Q I a b h;obtain⟨z,p,n,rfl,rfl,c,d,q⟩:=h;obtain⟨t,rfl⟩:=a;obtain⟨u,rfl,e⟩:=b.one;cases e;obtain⟨f,r,g,_⟩:=I.list c;exact join_list g.isList (by rw[List.toList_toArray];exact Qs r) d fun i k=>⟨.str _,H,I.tok k,⟨i,rfl⟩,q⟩
inductive WB(x:V)(a:List V)(H:Hp)(Q:VK):Prop
 |mk(l xs i y:_)(b:x=.ref l)(c:a=[.int ((i:Nat):Int),y])(d:H l=some (.lst xs))(e:i<=xs.length)(f:xs.length<sizeLine)(g:Q .As (upd H l (.lst (xs.take i++y::xs.drop i))))
def ZE:V->List V->Hp->VK->Prop:=fun x a H Q=>WB x a H Q
theorem UD:gP X "list.insert" ZE:=by
 intro pins s E H x G v J Q I o p h;obtain⟨l,K,i,y,rfl,rfl,f,g,j,q⟩:=h;cases o;obtain⟨L,c,rfl,⟨t,u⟩,w⟩:=p.two;subst u;obtain⟨z,a,n,r,k,e⟩:=I.Og f;have d:a.toArray.size<=sizeLine:=by rw[List.size_toArray,<-k];exact Nat.le_of_lt j
 have A:i<2 ^ 63:=Nat.lt_of_le_of_lt (Nat.le_trans g (Nat.le_of_lt j)) Gp;have B:i<=a.length:=by rw[<-k];exact g
 obtain⟨x,C⟩:∃x:Int,x=(i:Int):=⟨_,rfl⟩;rw[<-C];have b:¬(!Builtin.List.listFitsIndex x)=true:=by
  have:Builtin.List.listFitsIndex x=true:=by
   unfold Builtin.List.listFitsIndex;simp only[Bool.and_eq_true,decide_eq_true_eq];constructor<;>lia
  simp[this]
 have D:∀m:Nat,a.length=m->(if x<0 then(x+(m:Int)).toNat else min x.toNat m)=i:=fun m M=>by
  rw[if_neg (by lia)];lia
 refine call_meets PySem.F.slot_list_insert ⟨_,e,rfl⟩ PySem.F.entry_list_insert (PySem.F.args_list_insert_3 _ _ _) (PySem.AutoSeq1.list_insert_list_int_val_1 l a.toArray n x t c b d) ⟨e,?_⟩;refine⟨.As,_,I.Vl (its':=a.take i++c::a.drop i) f e ?_ ((r.take i).append (.cons w (r.drop i))) ?_,rfl,q⟩
 ·show(a.toArray.extract 0 (if x<0 then(x+(a.toArray.size:Int)).toNat else min x.toNat a.toArray.size)).push c++a.toArray.extract (if x<0 then(x+(a.toArray.size:Int)).toNat else min x.toNat a.toArray.size)=_;rw[D a.toArray.size (List.size_toArray ..).symm];apply Array.toList_inj.mp;simp[List.take_of_length_le]
 ·simp only[List.length_append,List.length_take,List.length_cons,List.length_drop];lia
end
section
variable{X:Cx}
inductive cW(x y:V)(H:Hp)(Q:VK):Prop
 |mk(a b xs ys:_)(c:x=.ref a)(d:y=.ref b)(e:H a=some (.tup xs))(f:H b=some (.tup ys))(g:xs.length+ys.length<=sizeLine)(h:∀p H',AF H H'->H' p=some (.tup (xs++ys))->Q (.ref p) H')
def gb:R2:=fun x y H Q=>cW x y H Q
theorem Bf:Dg X (binaryOp .Add) gb:=by
 intro pins s D H x y v u Q I r t h;obtain⟨a,b,w,E,rfl,rfl,j,k,G,q⟩:=h;by_cases l:w=[]
 ·cases r;cases t;obtain⟨c,J,K,_⟩:=I.tuple (Ah.of j);obtain⟨d,T,L,_⟩:=I.tuple (Ah.of k);obtain⟨⟨M,N,data,O⟩,z,A,n,B⟩:=id K;obtain⟨⟨C,m,data2,o⟩,f,g,P,i⟩:=id L;simp only at A B g i;subst A B g i;have R:c=[]:=J.Jo.mpr l;refine concat_meets ⟨_,z,rfl⟩ ⟨_,f,rfl⟩ noFill_tuple_add seq_tuple_add PySem.F.slot_tuple_add PySem.F.entry_tuple_add (PySem.F.args_tuple_add_2 _ _) (tuple_addW0 a b c.toArray d.toArray n P N m O o (by simp[R])) ⟨z,f,?_⟩;refine⟨.ref b,H,I.tok s.toks,rfl,q b H (AF.refl H) ?_⟩;rw[l];exact k
 ·refine Yp pins s D H (.ref a) (.ref b) v u Q I r t ⟨a,b,w,E,rfl,rfl,Ah.of j,Ah.of k,l,G,fun e=>?_,fun e p S=>q p _ (AF.new S) AB⟩;refine q a H (AF.refl H) ?_;rw[e,List.append_nil];exact j
end
end L2
namespace HT
open PySem PyProof.Rows
section
variable{prog:Program} {w:World} {A:Around} {E:Value->Shared->Prop} {s:Shared}
theorem Hd{t d:Addr}{items:Array Value}{i j:Value}{lo c:Option Int}{Q:Value->Shared->Prop}(a:IsTup s.heap t items)(k:s.heap.IsSliceOf d i j .none)(l:IsPart i lo)(n:IsPart j c)(hw:CY items.size 0 lo=0/\CY items.size items.size c=items.size)(h:Q (.ref t) s):wpAny (model prog w) A (getItem (.ref t) (.ref d)) Q E s:=by
 obtain⟨os,e,f,o⟩:=id k;have g:s.TypeIs (.ref d) "slice":=⟨os,e,f⟩;unfold getItem
 try with_reducible refine wpAny_holding ?_
 first|refine wpAny_bind (wpAny_pure ?_)|skip
 refine wpAny_bind (wpAny_sequenceKey a.typeIs (by decide) ?_);refine wpAny_bind (wpAny_callSpecial?_slot (name:=Str.ofString "__getitem__") a.typeIs PyProof.Rows.slot_tuple_getitem (wpAny_call_entry PyProof.Rows.slot_tuple_getitem a.typeIs entry_tuple_getitem ?_ (args_tuple_getitem _ _)));show wpAny _ _ (Builtin.Tuple.tupleItemsOf (.ref t)>>=_) _ _ s;refine wpAny_bind (tupleItemsOf_ a ?_);refine wpAny_bind (wpAny_typeOf g ?_);rw[if_pos (by decide)];refine wpAny_bind (Ez k l n ?_);have b:(((CY items.size 0 lo:Nat):Int)==0&&(1:Int)==1&&(CY items.size items.size c-CY items.size 0 lo)==items.size)=true:=by
  rw[hw.1,hw.2];simp
 show wpAny _ _ (if(((CY items.size 0 lo:Nat):Int)==0&&(1:Int)==1&&(CY items.size items.size c-CY items.size 0 lo)==items.size)=true then _ else _) _ _ s;rw[if_pos b];refine wpAny_bind (m:=Builtin.Tuple.tupleIsExact _) ?_;unfold Builtin.Tuple.tupleIsExact
 first
  |refine wpAny_bind (wpAny_typeOf a.typeIs (wpAny_pure ?_))
  |refine wpAny_typeOf a.typeIs ?_
 rw[if_pos (by decide)];exact wpAny_bind (wpAny_rule (wpAny_pure ⟨_,rfl,wpAny_pure h⟩))
end
end HT
namespace L2
open PySem PySem.Spec PyProof.Rows
section
variable{X:Cx}
inductive gc(x:V)(lo b:Option Int)(H:Hp)(Q:VK):Prop
 |mk(a xs:_)(c:x=.ref a)(d:H a=some (.tup xs))(e:∀p H',AF H H'->H' p=some (.tup (FQ xs lo b))->Q (.ref p) H')
def lH:V->Option Int->Option Int->Hp->VK->Prop:=fun x lo a H Q=>gc x lo a H Q
theorem BH:gG X lH:=by
 intro pins s l H x v m n lo e o Q I f g i j h;obtain⟨a,b,rfl,c,q⟩:=h;by_cases hw:HT.CY b.length 0 lo=0/\HT.CY b.length b.length e=b.length
 ·cases f;obtain⟨d,r,k,u⟩:=I.tuple (Ah.of c);have hlen:d.toArray.size=b.length:=by rw[List.size_toArray];exact r.length.symm
  refine⟨"tuple",_,PyProof.Rows.slot_tuple_getitem.lookup,k.typeIs,?_⟩;refine HT.Hd k g i j (by rw[hlen];exact hw) ⟨.ref a,H,I,rfl,q a H (AF.refl H) ?_⟩;unfold FQ;rw[hw.1,hw.2,List.drop_zero,Nat.sub_zero,List.take_length];exact c
 ·exact cE pins s l H (.ref a) v m n lo e o Q I f g i j ⟨a,b,rfl,Ah.of c,hw,fun p t=>q p _ (AF.new t) AB⟩
theorem DO(l:List V)(k:Nat):FQ l none (some (k:Int))=l.take k:=by
 unfold FQ;rw[HT.SU];show(l.drop 0).take (min k l.length-0)=_;rw[List.drop_zero,Nat.sub_zero,List.take_eq_take_min];simp
theorem Ga(l:List V)(k:Nat):FQ l (some (k:Int)) none=l.drop k:=by
 unfold FQ;rw[HT.SU];show(l.drop (min k l.length)).take (l.length-min k l.length)=_;have:(l.drop (min k l.length)).length=l.length-min k l.length:=List.length_drop;rw[<-this,List.take_length];by_cases h:k<=l.length
 ·rw[Nat.min_eq_left h]
 ·rw[Nat.min_eq_right (by lia),List.drop_eq_nil_of_le (by lia),List.drop_eq_nil_of_le (by lia)]
end
inductive Sf(H:Hp):V->String->Prop where
 |As:Sf H .As "NoneType"
 |bl (b:Bool):Sf H (.bl b) "bool"
 |int (i:Int):Sf H (.int i) "int"
 |str (x:Str):Sf H (.str x) "str"
 |lst {a:Addr} {xs:List V} (e:Rd H a (.lst xs)):Sf H (.ref a) "list"
 |tup {a:Addr} {xs:List V} (e:H a=some (.tup xs)):Sf H (.ref a) "tuple"
 |dK {a:Addr} {kvs:List (Key×V)} (e:Rd H a (.dK kvs)):Sf H (.ref a) "dict"
variable{H H':Hp}{a:Addr}
theorem Rd.up{u:HO}(h:Rd H a u)(s:∀o,H a=some o->H' a=some o):Rd H' a u:=by
 rcases h with h|⟨o,h⟩
 ·exact .inl (s _ h)
 ·exact .inr ⟨o,s _ h⟩
def cX(T c:String):Bool:=T==c||(T=="bool"&&c=="int")
def cY(c:String):Bool:=["int","bool","str","list","tuple","dict"].contains c
variable{T:String}{K:vA}{v:V}
theorem ZF{c:String}(h:Sf H v T)(a:cY c=true):PySem.W.kitOne K (.type T) (.type c)=some (cX T c):=by
 have a:c="int"∨c="bool"∨c="str"∨c="list"∨c="tuple"∨c="dict":=by
  unfold cY at a;simpa using a
 cases h<;>rcases a with rfl|rfl|rfl|rfl|rfl|rfl<;>kernel_rfl
variable{E Q:Value->Shared->Prop}{pins:List (Addr×Obj)}{u:Value}{s:Shared}{A:Around}{x:V}{σ:St}
section
variable{X:Cx}
inductive gf(xs:List V)(H:Hp)(Q:VK):Prop
 |mk(x c T:_)(a:xs=[x,.ty c])(b:cY c=true)(d:Sf H x T)(e:Q (.bl (cX T c)) H)
def lI:List V->Hp->VK->Prop:=fun a H Q=>gf a H Q
theorem WC{c:String}{b:Bool}(I:Inv X pins σ H s)(d:RelV x u)(ty:Sf H x T)(e:PySem.W.kitOne X.K (.type T) (.type c)=some b)(h:∀tk,Q (.bool b) {s with toks:=tk}):
  wpAny (model X.prog X.w) A (call (.builtin "isinstance") [u,.type c]) Q E s:=by
 cases ty with
 |As=>exact Ey I d .As e h
 |bl y=>exact Ey I d (.bl y) e h
 |int i=>exact Ey I d (.int i) e h
 |str y=>exact Ey I d (.str y) e h
 |tup f=>exact Ey I d (.tup f) e h
 |@lst a j f=>
  cases(show u=Value.ref a from d);obtain⟨_,_,n,_,g⟩:=(show BJ X.prog X.w H s.heap a (.lst j)from f.ok I.Bb);exact PySem.W.kia_one PySem.W.kitx_list I.Fl ⟨_,g,rfl⟩ e (fun z=>nomatch z) h
 |@dK a kvs f=>
  cases(show u=Value.ref a from d);obtain⟨_,_,l,_,p⟩:=(show BJ X.prog X.w H s.heap a (.dK kvs)from f.ok I.Bb);obtain⟨o,m,q,g,k,_⟩:=p;exact PySem.W.kia_one PySem.W.kitx_dict I.Fl ⟨o,g,k.1⟩ e (fun z=>nomatch z) h
theorem Ao:CW X (.builtin "isinstance") lI:=by
 intro pins s f H g i Q I r h;obtain⟨x,c,T,rfl,b,ty,q⟩:=h;obtain⟨u,j,rfl,d,a⟩:=vals2 r;cases a;exact WC I d ty (ZF ty b) fun e=>⟨.bl _,H,I.tok e,rfl,q⟩
end
open Builtin Builtin.Str
abbrev sgn(x:Str):List Nat:=x.cps.toList
def YY:List Nat:=sgn "abcdefghijklmnopqrstuvwxyz"
def Ow(c:Nat):Bool:=decide (c∈YY)
theorem Gr(x:Str):(sgn x).length=x.length:=by
 show x.cps.toList.length=x.cps.size;exact Array.length_toList
theorem Dj(x y:Str):sgn (x++y)=sgn x++sgn y:=by
 show(x.cps++y.cps).toList=_;exact Array.toList_append
theorem Dk(x:Str)(l u:Option Int):sgn (Txt.slice x l u)=NI (sgn x) l u:=Ov x l u
def JM(l:List Nat):Bool:=decide (1<=l.length)&&decide (l.length<=8)&&l.all Ow
def Bn(x:Str):Bool:=JM (sgn x)
theorem Ox(ys:List Str):sgn (Txt.join "" ys)=(ys.map sgn).flatten:=by
 have h:∀ys:List Str,sgn (Str.join "" ys)=(ys.map sgn).flatten:=by
  intro ys
  induction ys with
  |nil=>rfl
  |cons x r a=>
   cases r with
   |nil=>
    show sgn x=_;simp
   |cons y r=>
    show sgn (x++""++Str.join "" (y::r))=_;rw[Dj,Dj,a];have:sgn ("":Str)=[]:=by decide
    rw[this];simp
 show sgn (Builtin.Str.glued "" ys)=_;rw[StrLaws.glued_eq_join];exact h ys
theorem Sg(n d k:Nat):HT.CY n d (some (k:Int))=min k n:=by
 show(if(k:Int)<0 then((k:Int)+(n:Int)).toNat else min (k:Int).toNat n)=min k n;rw[if_neg (by lia),Int.toNat_natCast]
theorem Kd(l:List Nat)(k:Nat):NI l none (some (k:Int))=l.take k:=by
 unfold NI;have e:=Sg l.length l.length k;rw[e];show(l.drop 0).take (min k l.length-0)=_;rw[List.drop_zero,Nat.sub_zero,List.take_eq_take_min];simp
theorem WD(l:List Nat)(k:Nat):NI l (some (k:Int)) none=l.drop k:=by
 unfold NI;have e:=Sg l.length 0 k;rw[e];show(l.drop (min k l.length)).take (l.length-min k l.length)=_;have:(l.drop (min k l.length)).length=l.length-min k l.length:=List.length_drop;rw[<-this,List.take_length];by_cases h:k<=l.length
 ·rw[Nat.min_eq_left h]
 ·rw[Nat.min_eq_right (by lia),List.drop_eq_nil_of_le (by lia),List.drop_eq_nil_of_le (by lia)]
theorem ZG(l:List Nat)(a b:Nat)(c:a<=b)(d:b<=l.length):NI l (some (a:Int)) (some (b:Int))=(l.take b).drop a:=by
 unfold NI;have e:HT.CY l.length 0 (some (a:Int))=a:=(Sg _ _ a).trans (Nat.min_eq_left (by lia));have f:HT.CY l.length l.length (some (b:Int))=b:=(Sg _ _ b).trans (Nat.min_eq_left d);rw[e,f,List.drop_take]
variable{l:List Nat}{p:Nat->Bool}
theorem Hg(h:l.all p=true)(k:Nat):(l.take k).all p=true:=by
 rw[List.all_eq_true]at h⊢;exact fun x a=>h x (List.mem_of_mem_take a)
theorem Oy(h:l.all p=true)(k:Nat):(l.drop k).all p=true:=by
 rw[List.all_eq_true]at h⊢;exact fun x a=>h x (List.mem_of_mem_drop a)
theorem Ke{c:Nat}(h:c∈YY):Ow c=true:=decide_eq_true h
theorem UE(h:JM l=true):1<=l.length/\l.length<=8/\l.all Ow=true:=by
 unfold JM at h;simp only[Bool.and_eq_true,decide_eq_true_eq]at h;exact⟨h.1.1,h.1.2,h.2⟩
theorem Oz(a:1<=l.length)(b:l.length<=8)(c:l.all Ow=true):JM l=true:=by
 unfold JM;simp only[Bool.and_eq_true,decide_eq_true_eq];exact⟨⟨a,b⟩,c⟩
inductive Dc where
 |leaf (v:V)
 |row (a:Addr) (xs:List Dc)
 |tab (a:Addr) (ks:List Str) (xs:List Dc)
variable{xs:List Dc}{ks:List Str}{d:Dc}
namespace Dc
noncomputable def val:Dc->V
 |leaf v=>v
 |row a _=>.ref a
 |tab a _ _=>.ref a
mutual
noncomputable def addrs:Dc->List Addr
 |leaf _=>[]
 |row a xs=>a::AJ xs
 |tab a _ xs=>a::AJ xs
noncomputable def AJ:List Dc->List Addr
 |[]=>[]
 |x::r=>addrs x++AJ r
end
mutual
noncomputable def size:Dc->Nat
 |leaf _=>1
 |row _ xs=>1+AZ xs
 |tab _ _ xs=>1+AZ xs
noncomputable def AZ:List Dc->Nat
 |[]=>0
 |x::r=>size x+AZ r
end
def Lf(v:V):Prop:=(∃i,v=.int i)∨∃x:Str,v=.str x/\x.length<=100
def kvs(ks:List Str)(xs:List Dc):List (Key×V):=(ks.zip (xs.map val)).map fun p=>(Sum.inr p.1,p.2)
mutual
def At(H:Hp):Dc->Prop
 |leaf v=>Lf v
 |row a xs=>Rd H a (.lst (xs.map val))/\DP H xs
 |tab a ks xs=>Rd H a (.dK (kvs ks xs))/\ks.length=xs.length/\ks.Nodup/\DP H xs
def DP(H:Hp):List Dc->Prop
 |[]=>True
 |x::r=>At H x/\DP H r
end
mutual
noncomputable def put(b:Addr)(i:Nat)(k:Str)(p:Dc):Dc->Dc
 |leaf v=>leaf v
 |row a xs=>if a=b then row a (xs.take i++p::xs.drop i)else row a (putL b i k p xs)
 |tab a ks xs=>if a=b then tab a (ks++[k]) (xs++[p])else tab a ks (putL b i k p xs)
noncomputable def putL(b:Addr)(i:Nat)(k:Str)(p:Dc):List Dc->List Dc
 |[]=>[]
 |x::r=>put b i k p x::putL b i k p r
end
theorem size_pos(d:Dc):1<=d.size:=by
 cases d<;>simp only[size]<;>lia
theorem JN(b:Addr)(i:Nat)(k:Str)(p:Dc):∀xs,(putL b i k p xs).length=xs.length
 |[]=>rfl
 |x::r=>by simp only[putL,List.length_cons,JN b i k p r]
theorem Sh(b:Addr)(i:Nat)(k:Str)(p d:Dc):(put b i k p d).val=d.val:=by
 cases d with
 |leaf v=>rfl
 |row a c=>simp only[put];split<;>rfl
 |tab a e c=>simp only[put];split<;>rfl
theorem Kf(b:Addr)(i:Nat)(k:Str)(p:Dc):∀xs,(putL b i k p xs).map val=xs.map val
 |[]=>rfl
 |x::r=>by simp only[putL,List.map_cons,Sh,Kf b i k p r]
theorem AY:∀xs ys:List Dc,AJ (xs++ys)=AJ xs++AJ ys
 |[],_=>rfl
 |x::r,ys=>by simp only[List.cons_append,AJ,AY r ys,List.append_assoc]
theorem BP:∀xs ys:List Dc,AZ (xs++ys)=AZ xs+AZ ys
 |[],ys=>by simp[AZ]
 |x::r,ys=>by simp only[List.cons_append,AZ,BP r ys];lia
theorem Bt{H:Hp}:∀xs ys:List Dc,DP H (xs++ys)↔DP H xs/\DP H ys
 |[],ys=>by simp[DP]
 |x::r,ys=>by simp only[List.cons_append,DP,Bt r ys,and_assoc]
theorem Ca{H:Hp}:∀{xs:List Dc},DP H xs->∀x∈xs,At H x
 |[],_,x,a=>nomatch a
 |y::r,h,x,a=>by
  simp only[DP]at h;rcases List.mem_cons.mp a with rfl|a
  ·exact h.1
  ·exact Ca h.2 x a
theorem CQ:∀{xs:List Dc}{x:Dc},x∈xs->x.size<=AZ xs
 |[],_,h=>nomatch h
 |y::r,x,h=>by
  simp only[AZ];rcases List.mem_cons.mp h with rfl|h
  ·lia
  ·have:=CQ h;lia
theorem Gs:∀{xs:List Dc}{x:Dc}{a:Addr},x∈xs->a∈x.addrs->a∈AJ xs
 |[],_,_=>fun h _=>nomatch h
 |y::r,x,a=>fun h b=>by
  simp only[AJ];rcases List.mem_cons.mp h with rfl|h
  ·exact List.mem_append_left _ b
  ·exact List.mem_append_right _ (Gs h b)
mutual
theorem FC{H H':Hp}:∀d:Dc,(∀a∈d.addrs,∀o,H a=some o->H' a=some o)->d.At H->d.At H'
 |leaf v=>fun _ h=>h
 |row a xs=>fun f h=>by
  simp only[At]at h⊢;exact⟨h.1.up (f a (by simp[addrs])),Bg xs (fun c b=>f c (by simp only[addrs];exact List.mem_cons_of_mem _ b)) h.2⟩
 |tab a ks xs=>fun f h=>by
  simp only[At]at h⊢;exact⟨h.1.up (f a (by simp[addrs])),h.2.1,h.2.2.1,Bg xs (fun c b=>f c (by simp only[addrs];exact List.mem_cons_of_mem _ b)) h.2.2.2⟩
theorem Bg{H H':Hp}:∀xs:List Dc,(∀a∈AJ xs,∀o,H a=some o->H' a=some o)->DP H xs->DP H' xs
 |[]=>fun _ h=>h
 |x::r=>fun f h=>by
  simp only[DP]at h⊢;exact⟨FC x (fun c b=>f c (by simp only[AJ];exact List.mem_append_left _ b)) h.1,Bg r (fun c b=>f c (by simp only[AJ];exact List.mem_append_right _ b)) h.2⟩
end
mutual
theorem Sk{H H':Hp}:∀d:Dc,(∀a∈d.addrs,∀u,Rd H a u->Rd H' a u)->d.At H->d.At H'
 |leaf v=>fun _ h=>h
 |row a xs=>fun f h=>by
  simp only[At]at h⊢;exact⟨f a (by simp[addrs]) _ h.1,Kg xs (fun c b=>f c (by simp only[addrs];exact List.mem_cons_of_mem _ b)) h.2⟩
 |tab a ks xs=>fun f h=>by
  simp only[At]at h⊢;exact⟨f a (by simp[addrs]) _ h.1,h.2.1,h.2.2.1,Kg xs (fun c b=>f c (by simp only[addrs];exact List.mem_cons_of_mem _ b)) h.2.2.2⟩
theorem Kg{H H':Hp}:∀xs:List Dc,(∀a∈AJ xs,∀u,Rd H a u->Rd H' a u)->DP H xs->DP H' xs
 |[]=>fun _ h=>h
 |x::r=>fun f h=>by
  simp only[DP]at h⊢;exact⟨Sk x (fun c b=>f c (by simp only[AJ];exact List.mem_append_left _ b)) h.1,Kg r (fun c b=>f c (by simp only[AJ];exact List.mem_append_right _ b)) h.2⟩
end
theorem Ab(s:AF H H')(h:d.At H):d.At H':=FC d (fun a _ o e=>s a o e) h
mutual
theorem Sl{b:Addr}{i:Nat}{k:Str}{p:Dc}:∀d:Dc,b∉d.addrs->put b i k p d=d
 |leaf v,_=>rfl
 |row a xs,h=>by
  simp only[addrs,List.mem_cons,not_or]at h;simp only[put];rw[if_neg (fun e=>h.1 e.symm),Hh xs h.2]
 |tab a ks xs,h=>by
  simp only[addrs,List.mem_cons,not_or]at h;simp only[put];rw[if_neg (fun e=>h.1 e.symm),Hh xs h.2]
theorem Hh{b:Addr}{i:Nat}{k:Str}{p:Dc}:∀xs:List Dc,b∉AJ xs->putL b i k p xs=xs
 |[],_=>rfl
 |x::r,h=>by
  simp only[AJ,List.mem_append,not_or]at h;simp only[putL];rw[Sl x h.1,Hh r h.2]
end
theorem Fy(xs:List Dc)(i:Nat):AZ (xs.take i)+AZ (xs.drop i)=AZ xs:=by
 rw[<-BP,List.take_append_drop]
mutual
theorem O_{b:Addr}{i:Nat}{k:Str}{p:Dc}:∀d:Dc,b∈d.addrs->d.addrs.Nodup->(put b i k p d).size=d.size+p.size
 |leaf v=>fun h _=>by simp[addrs]at h
 |row a xs=>fun h n=>by
  simp only[addrs,List.mem_cons]at h;simp only[addrs,List.nodup_cons]at n;simp only[put];by_cases e:a=b
  ·rw[if_pos e];simp only[size,BP,AZ];have:=Fy xs i;lia
  ·rw[if_neg e];simp only[size];rw[Ih xs (h.resolve_left fun z=>e z.symm) n.2];lia
 |tab a c xs=>fun h n=>by
  simp only[addrs,List.mem_cons]at h;simp only[addrs,List.nodup_cons]at n;simp only[put];by_cases e:a=b
  ·rw[if_pos e];simp only[size,BP,AZ];lia
  ·rw[if_neg e];simp only[size];rw[Ih xs (h.resolve_left fun z=>e z.symm) n.2];lia
theorem Ih{b:Addr}{i:Nat}{k:Str}{p:Dc}:∀xs:List Dc,b∈AJ xs->(AJ xs).Nodup->AZ (putL b i k p xs)=AZ xs+p.size
 |[]=>fun h _=>by simp[AJ]at h
 |x::r=>fun h n=>by
  simp only[AJ]at h n;obtain⟨c,d,e⟩:=List.nodup_append.mp n;simp only[putL,AZ];by_cases a:b∈x.addrs
  ·have f:b∉AJ r:=fun z=>e b a b z rfl;rw[O_ x a c,Hh r f];lia
  ·rw[Sl x a,Ih r ((List.mem_append.mp h).resolve_left a) d];lia
end
mutual
theorem Dm{b:Addr}{i:Nat}{k:Str}{p:Dc}:∀(d:Dc)(c:Addr),(c∈(put b i k p d).addrs->c∈d.addrs∨(b∈d.addrs/\c∈p.addrs))/\(c∈d.addrs->c∈(put b i k p d).addrs)/\(b∈d.addrs->c∈p.addrs->c∈(put b i k p d).addrs)
 |leaf v,c=>by simp[put,addrs]
 |row a xs,c=>by
  have f:=DF (b:=b) (i:=i) (k:=k) (p:=p) xs c;simp only[put];by_cases e:a=b
  ·rw[if_pos e];have j:AJ xs=AJ (xs.take i)++AJ (xs.drop i):=by rw[<-AY,List.take_append_drop]
   simp only[addrs,AY,AJ,List.mem_cons,List.mem_append];rw[j];simp only[List.mem_append];subst e;refine⟨?_,?_,?_⟩
   ·rintro(h|h|h|h)
    ·exact .inl (.inl h)
    ·exact .inl (.inr (.inl h))
    ·exact .inr ⟨.inl rfl,h⟩
    ·exact .inl (.inr (.inr h))
   ·rintro(h|h|h)
    ·exact .inl h
    ·exact .inr (.inl h)
    ·exact .inr (.inr (.inr h))
   ·intro _ h;exact .inr (.inr (.inl h))
  ·rw[if_neg e];simp only[addrs,List.mem_cons];refine⟨?_,?_,?_⟩
   ·rintro(h|h)
    ·exact .inl (.inl h)
    ·exact(f.1 h).imp .inr fun z=>⟨.inr z.1,z.2⟩
   ·rintro(h|h)
    ·exact .inl h
    ·exact .inr (f.2.1 h)
   ·rintro(h|h) g
    ·exact absurd h.symm e
    ·exact .inr (f.2.2 h g)
 |tab a l xs,c=>by
  have f:=DF (b:=b) (i:=i) (k:=k) (p:=p) xs c;simp only[put];by_cases e:a=b
  ·rw[if_pos e];simp only[addrs,AY,AJ,List.mem_cons,List.mem_append,List.append_nil];subst e;refine⟨?_,?_,?_⟩
   ·rintro(h|h|h)
    ·exact .inl (.inl h)
    ·exact .inl (.inr h)
    ·exact .inr ⟨.inl rfl,h⟩
   ·rintro(h|h)
    ·exact .inl h
    ·exact .inr (.inl h)
   ·intro _ h;exact .inr (.inr h)
  ·rw[if_neg e];simp only[addrs,List.mem_cons];refine⟨?_,?_,?_⟩
   ·rintro(h|h)
    ·exact .inl (.inl h)
    ·exact(f.1 h).imp .inr fun z=>⟨.inr z.1,z.2⟩
   ·rintro(h|h)
    ·exact .inl h
    ·exact .inr (f.2.1 h)
   ·rintro(h|h) g
    ·exact absurd h.symm e
    ·exact .inr (f.2.2 h g)
theorem DF{b:Addr}{i:Nat}{k:Str}{p:Dc}:∀(xs:List Dc)(c:Addr),(c∈AJ (putL b i k p xs)->c∈AJ xs∨(b∈AJ xs/\c∈p.addrs))/\(c∈AJ xs->c∈AJ (putL b i k p xs))/\(b∈AJ xs->c∈p.addrs->c∈AJ (putL b i k p xs))
 |[],c=>by simp[putL,AJ]
 |x::r,c=>by
  have a:=Dm (b:=b) (i:=i) (k:=k) (p:=p) x c;have d:=DF (b:=b) (i:=i) (k:=k) (p:=p) r c;simp only[putL,AJ,List.mem_append];refine⟨?_,?_,?_⟩
  ·rintro(h|h)
   ·exact(a.1 h).imp .inl fun z=>⟨.inl z.1,z.2⟩
   ·exact(d.1 h).imp .inr fun z=>⟨.inr z.1,z.2⟩
  ·rintro(h|h)
   ·exact .inl (a.2.1 h)
   ·exact .inr (d.2.1 h)
  ·rintro(h|h) e
   ·exact .inl (a.2.2 h e)
   ·exact .inr (d.2.2 h e)
end
mutual
theorem ME{b:Addr}{i:Nat}{k:Str}{p:Dc}(o:p.addrs.Nodup):∀d:Dc,d.addrs.Nodup->(∀c∈d.addrs,c∉p.addrs)->(put b i k p d).addrs.Nodup
 |leaf v=>fun n _=>n
 |row a xs=>fun n j=>by
  simp only[addrs,List.nodup_cons]at n;simp only[put];by_cases e:a=b
  ·rw[if_pos e];simp only[addrs,AY,AJ];have q:AJ xs=AJ (xs.take i)++AJ (xs.drop i):=by rw[<-AY,List.take_append_drop]
   rw[q]at n;have m:∀c,c∈AJ (xs.take i)++AJ (xs.drop i)->c∉p.addrs:=fun c f=>j c (by simp only[addrs];rw[q];exact List.mem_cons_of_mem _ f);obtain⟨s,t,u⟩:=List.nodup_append.mp n.2;refine List.nodup_cons.mpr ⟨fun h=>?_,List.nodup_append.mpr ⟨s,List.nodup_append.mpr ⟨o,t,fun c f r l g=>?_⟩,fun c f r l g=>?_⟩⟩
   ·simp only[List.mem_append]at h;rcases h with h|h|h
    ·exact n.1 (List.mem_append_left _ h)
    ·exact j a (by simp[addrs]) h
    ·exact n.1 (List.mem_append_right _ h)
   ·subst g;exact m c (List.mem_append_right _ l) f
   ·subst g;rcases List.mem_append.mp l with l|l
    ·exact m c (List.mem_append_left _ f) l
    ·exact u c f c l rfl
  ·rw[if_neg e];simp only[addrs];refine List.nodup_cons.mpr ⟨fun h=>?_,Gu o xs n.2 fun c f=>j c (by simp only[addrs];exact List.mem_cons_of_mem _ f)⟩;rcases(DF xs a).1 h with h|h
   ·exact n.1 h
   ·exact j a (by simp[addrs]) h.2
 |tab a w xs=>fun n j=>by
  simp only[addrs,List.nodup_cons]at n;simp only[put];by_cases e:a=b
  ·rw[if_pos e];simp only[addrs,AY,AJ,List.append_nil];refine List.nodup_cons.mpr ⟨fun h=>?_,List.nodup_append.mpr ⟨n.2,o,fun c f r l g=>?_⟩⟩
   ·rcases List.mem_append.mp h with h|h
    ·exact n.1 h
    ·exact j a (by simp[addrs]) h
   ·subst g;exact j c (by simp only[addrs];exact List.mem_cons_of_mem _ f) l
  ·rw[if_neg e];simp only[addrs];refine List.nodup_cons.mpr ⟨fun h=>?_,Gu o xs n.2 fun c f=>j c (by simp only[addrs];exact List.mem_cons_of_mem _ f)⟩;rcases(DF xs a).1 h with h|h
   ·exact n.1 h
   ·exact j a (by simp[addrs]) h.2
theorem Gu{b:Addr}{i:Nat}{k:Str}{p:Dc}(l:p.addrs.Nodup):∀xs:List Dc,(AJ xs).Nodup->(∀c∈AJ xs,c∉p.addrs)->(AJ (putL b i k p xs)).Nodup
 |[]=>fun n _=>n
 |x::r=>fun n d=>by
  simp only[AJ]at n d;obtain⟨q,s,m⟩:=List.nodup_append.mp n;simp only[putL,AJ];have t:=ME (b:=b) (i:=i) (k:=k) l x q fun c f=>d c (List.mem_append_left _ f);have u:=Gu (b:=b) (i:=i) (k:=k) l r s fun c f=>d c (List.mem_append_right _ f);refine List.nodup_append.mpr ⟨t,u,fun c f e o g=>?_⟩;subst g;rcases(Dm x c).1 f with h|⟨v,h⟩
  ·rcases(DF r c).1 o with a|⟨_,a⟩
   ·exact m c h c a rfl
   ·exact d c (List.mem_append_left _ h) a
  ·rcases(DF r c).1 o with a|⟨j,a⟩
   ·exact d c (List.mem_append_right _ a) h
   ·exact m b v b j rfl
end
theorem WE(k:Str)(p:Dc)(h:ks.length=xs.length):kvs (ks++[k]) (xs++[p])=kvs ks xs++[(Sum.inr k,p.val)]:=by
 unfold kvs;rw[List.map_append,List.zip_append (by rw[List.length_map];exact h),List.map_append];rfl
theorem EA(h:ks.length=xs.length):(kvs ks xs).map (·.1)=ks.map Sum.inr:=by
 unfold kvs;rw[List.map_map];have:(fun p:Str×V=>(Sum.inr p.1:Key))=(Sum.inr:Str->Key)∘Prod.fst:=rfl;show List.map ((fun p:Key×V=>p.1)∘fun p:Str×V=>(Sum.inr p.1,p.2)) (ks.zip (xs.map val))=_;have e:((fun p:Key×V=>p.1)∘fun p:Str×V=>((Sum.inr p.1:Key),p.2))=(Sum.inr:Str->Key)∘Prod.fst:=rfl;rw[e,<-List.map_map,List.map_fst_zip (by rw[List.length_map];lia)]
mutual
theorem WG{H H':Hp}{b:Addr}{i:Nat}{k:Str}{p:Dc}(r:p.At H')(g:∀s,Rd H b (.lst s)->H' b=some (.lst (s.take i++p.val::s.drop i)))(j:∀kv,Rd H b (.dK kv)->(Sum.inr k:Key)∉kv.map (·.1)/\H' b=some (.dK (kv++[(Sum.inr k,p.val)]))):
  ∀d:Dc,(∀a∈d.addrs,a≠b->∀o,H a=some o->H' a=some o)->d.addrs.Nodup->d.At H->(put b i k p d).At H'
 |leaf v=>fun _ _ h=>h
 |row a xs=>fun f n h=>by
  simp only[addrs,List.nodup_cons]at n;simp only[At]at h;simp only[put];by_cases e:a=b
  ·rw[if_pos e];subst e;have keep:DP H' xs:=Bg xs (fun c l=>f c (by simp only[addrs];exact List.mem_cons_of_mem _ l) fun z=>n.1 (z▸l)) h.2;simp only[At];have m:DP H' (xs.take i)/\DP H' (xs.drop i):=(Bt _ _).mp (by rw[List.take_append_drop];exact keep);refine⟨?_,(Bt _ _).mpr ⟨m.1,by simp only[DP];exact⟨r,m.2⟩⟩⟩;refine .inl ?_;rw[g _ h.1,List.map_append,List.map_cons,List.map_take,List.map_drop]
  ·rw[if_neg e];simp only[At];refine⟨?_,NJ r g j xs (fun c l=>f c (by simp only[addrs];exact List.mem_cons_of_mem _ l)) n.2 h.2⟩;rw[Kf];exact h.1.up (f a (by simp[addrs]) e)
 |tab a m xs=>fun f n h=>by
  simp only[addrs,List.nodup_cons]at n;simp only[At]at h;simp only[put];by_cases e:a=b
  ·rw[if_pos e];subst e;have keep:DP H' xs:=Bg xs (fun c l=>f c (by simp only[addrs];exact List.mem_cons_of_mem _ l) fun z=>n.1 (z▸l)) h.2.2.2;simp only[At];obtain⟨t,d⟩:=j _ h.1;rw[EA h.2.1]at t;refine⟨by rw[WE k p h.2.1];exact .inl d,by rw[List.length_append,List.length_append,h.2.1];rfl,?_,(Bt _ _).mpr ⟨keep,by simp only[DP];exact⟨r,trivial⟩⟩⟩;refine List.nodup_append.mpr ⟨h.2.2.1,by simp,fun c l e u q=>?_⟩;rw[List.mem_singleton.mp u]at q;subst q;exact t (List.mem_map.mpr ⟨c,l,rfl⟩)
  ·rw[if_neg e];simp only[At];refine⟨?_,by rw[JN];exact h.2.1,h.2.2.1,NJ r g j xs (fun c l=>f c (by simp only[addrs];exact List.mem_cons_of_mem _ l)) n.2 h.2.2.2⟩;have w:kvs m (putL b i k p xs)=kvs m xs:=by unfold kvs;rw[Kf]
   rw[w];exact h.1.up (f a (by simp[addrs]) e)
theorem NJ{H H':Hp}{b:Addr}{i:Nat}{k:Str}{p:Dc}(l:p.At H')(d:∀g,Rd H b (.lst g)->H' b=some (.lst (g.take i++p.val::g.drop i)))(e:∀kv,Rd H b (.dK kv)->(Sum.inr k:Key)∉kv.map (·.1)/\H' b=some (.dK (kv++[(Sum.inr k,p.val)]))):
  ∀xs:List Dc,(∀a∈AJ xs,a≠b->∀o,H a=some o->H' a=some o)->(AJ xs).Nodup->DP H xs->DP H' (putL b i k p xs)
 |[]=>fun _ _ h=>h
 |x::r=>fun f n h=>by
  simp only[AJ]at n f;obtain⟨m,q,s⟩:=List.nodup_append.mp n;simp only[putL,DP]at h⊢;exact⟨WG l d e x (fun c j=>f c (List.mem_append_left _ j)) m h.1,NJ l d e r (fun c j=>f c (List.mem_append_right _ j)) q h.2⟩
end
mutual
theorem Ii{H:Hp}{b:Addr}:∀d:Dc,d.At H->b∈d.addrs->(∃f,Rd H b (.lst f)/\f.length<d.size)∨∃ks:List Str,∃kv,Rd H b (.dK kv)/\kv.map (·.1)=ks.map Sum.inr/\kv.length<d.size
 |leaf v=>fun _ h=>by simp[addrs]at h
 |row a xs=>fun h c=>by
  simp only[At]at h;simp only[addrs,List.mem_cons]at c;simp only[size];rcases c with rfl|c
  ·refine .inl ⟨_,h.1,?_⟩;rw[List.length_map];have:=Gv xs;lia
  ·rcases Gw xs h.2 c with⟨f,e,l⟩|⟨ks,kv,e,z,l⟩
   ·exact .inl ⟨f,e,by lia⟩
   ·exact .inr ⟨ks,kv,e,z,by lia⟩
 |tab a ks xs=>fun h c=>by
  simp only[At]at h;simp only[addrs,List.mem_cons]at c;simp only[size];rcases c with rfl|c
  ·refine .inr ⟨ks,_,h.1,EA h.2.1,?_⟩;have e:(kvs ks xs).length=ks.length:=by
    have:=congrArg List.length (EA (ks:=ks) (xs:=xs) h.2.1);simpa using this
   rw[e,h.2.1];have:=Gv xs;lia
  ·rcases Gw xs h.2.2.2 c with⟨f,e,l⟩|⟨ks,kv,e,z,l⟩
   ·exact .inl ⟨f,e,by lia⟩
   ·exact .inr ⟨ks,kv,e,z,by lia⟩
theorem Gw{H:Hp}{b:Addr}:∀xs:List Dc,DP H xs->b∈AJ xs->(∃a,Rd H b (.lst a)/\a.length<AZ xs)∨∃ks:List Str,∃kv,Rd H b (.dK kv)/\kv.map (·.1)=ks.map Sum.inr/\kv.length<AZ xs
 |[]=>fun _ h=>by simp[AJ]at h
 |x::r=>fun h c=>by
  simp only[DP]at h;simp only[AJ,List.mem_append]at c;simp only[AZ];rcases c with c|c
  ·rcases Ii x h.1 c with⟨a,e,l⟩|⟨ks,kv,e,z,l⟩
   ·exact .inl ⟨a,e,by lia⟩
   ·exact .inr ⟨ks,kv,e,z,by lia⟩
  ·rcases Gw r h.2 c with⟨a,e,l⟩|⟨ks,kv,e,z,l⟩
   ·exact .inl ⟨a,e,by lia⟩
   ·exact .inr ⟨ks,kv,e,z,by lia⟩
theorem Gv:∀xs:List Dc,xs.length<=AZ xs
 |[]=>Nat.le_refl _
 |x::r=>by
  have:=Gv r;have:=size_pos x;simp only[AZ,List.length_cons];lia
end
end Dc
variable{P:Program}{w:World}{ys:List Str}
section
variable{X:Cx}
inductive UG(K:vA)(x y:V)(H:Hp)(Q:VK):Prop
 |mk(a b:Addr)(xs:List V)(c:x=.ref a)(d:y=.ref b)(e:Ay K H a xs)(f:Ay K H b [])(g:Q (.bl xs.isEmpty) H)
def WH(K:vA):V->V->Hp->VK->Prop:=fun x y H Q=>UG K x y H Q
theorem Kh(c:X.A.units<cLine):Dg X (compareOp .Eq) (WH X.K):=by
 intro pins s w H x y v u Q I k l h;obtain⟨a,b,m,rfl,rfl,n,o,q⟩:=h;cases k;cases l;obtain⟨p,d,f,_⟩:=I.list n;obtain⟨g,r,i,_⟩:=I.list o;cases r;have l1:=d.length;cases m with
 |nil=>
  cases d;exact SeqAt.eq_listAt (e:=fun _=>true) f.isList i.isList rfl c (fun j t _=>absurd t (by simp)) ⟨.bl true,H,I,rfl,q⟩
 |cons z B=>
  refine SeqAt.eq_list_lengthsAt f.isList i.isList ?_ c ⟨.bl false,H,I,rfl,q⟩;rw[List.size_toArray,<-l1];simp
inductive UH(K:vA)(x y:V)(H:Hp)(Q:VK):Prop
 |mk(a b:Addr)(xs:List V)(c:x=.ref a)(d:y=.ref b)(e:Ay K H a xs)(f:Ay K H b [])(g:Q (.bl (!xs.isEmpty)) H)
def WI(K:vA):V->V->Hp->VK->Prop:=fun x y H Q=>UH K x y H Q
theorem WJ(c:X.A.units<cLine):Dg X (compareOp .NotEq) (WI X.K):=by
 intro pins s w H x y v u Q I k l h;obtain⟨a,b,m,rfl,rfl,n,o,q⟩:=h;cases k;cases l;obtain⟨p,d,f,_⟩:=I.list n;obtain⟨g,r,i,_⟩:=I.list o;cases r;have l1:=d.length;cases m with
 |nil=>
  cases d;exact SeqAt.RcNeAt.lists (e:=fun _=>true) f.isList i.isList rfl c (fun j t _=>absurd t (by simp)) _ _ _ _ ⟨.bl false,H,I,rfl,q⟩
 |cons z B=>
  refine SeqAt.RcNeAt.lists_lengths f.isList i.isList ?_ c _ _ _ _ ⟨.bl true,H,I,rfl,q⟩;rw[List.size_toArray,<-l1];simp
def BQ(xs ys:List V):Bool:=((List.range (min xs.length ys.length)).all fun j=>JL (xs.getD j .As) (ys.getD j .As))&&xs.length==ys.length
inductive UI(K:vA)(x y:V)(H:Hp)(Q:VK):Prop
 |mk(a b:Addr)(xs ys:List V)(c:x=.ref a)(d:y=.ref b)(e:Ah K H a xs)(f:Ah K H b ys)(g:(∀z∈xs,CO z=true))(h:(∀z∈ys,CO z=true))(i:Q (.bl (BQ xs ys)) H)
def O'(K:vA):V->V->Hp->VK->Prop:=fun x y H Q=>UI K x y H Q
theorem Gx(t:X.A.units<cLine):Dg X (compareOp .Eq) (O' X.K):=by
 intro pins s V H x y v u Q I w z h;obtain⟨a,b,d,f,rfl,rfl,B,C,D,E,q⟩:=h;cases w;cases z;obtain⟨k,l,F,_⟩:=I.tuple B;obtain⟨c,m,G,_⟩:=I.tuple C;have n:k.toArray.size=d.length:=by rw[List.size_toArray];exact l.length.symm
 have o:c.toArray.size=f.length:=by rw[List.size_toArray];exact m.length.symm
 refine SeqAt.eq_tupleAt (e:=fun j=>JL (d.getD j .As) (f.getD j .As)) F G t (fun j J L=>?_) ?_
 ·have g:j<d.length:=by rw[<-n];exact J
  have i:j<f.length:=by rw[<-o];exact L
  obtain⟨p,M,N⟩:=l.get (ux g);obtain⟨r,O,P⟩:=m.get (ux i);have R:k.toArray[j]=p:=by
   have:=(uy M).2;simpa using this
  have S:c.toArray[j]=r:=by
   have:=(uy O).2;simpa using this
  rw[R,S];have T:d.getD j .As=d[j]:=by rw[List.getD_eq_getElem?_getD,ux g];rfl
  have U:f.getD j .As=f[j]:=by rw[List.getD_eq_getElem?_getD,ux i];rfl
  show SeqAt.EqAt _ _ p r (JL (d.getD j .As) (f.getD j .As));rw[T,U];exact KO N P (D _ (List.getElem_mem g)) (E _ (List.getElem_mem i))
 ·rw[n,o];exact⟨.bl (BQ d f),H,I,rfl,q⟩
theorem Qt{l:Addr}{dd:Option Addr}{its:List Value}{n:Nat}{m:Array (Option Value)}{b:Bool}(I:Inv X pins σ H s)(d:RelV x u)(ty:Sf H x T)(c:s.heap.get? l=some ⟨.type "tuple",dd,.seq its.toArray n,m⟩)(e:PySem.W.kitAny X.K (.type T) its=some b)(h:∀tk,Q (.bool b) {s with toks:=tk}):
  wpAny (model X.prog X.w) A (call (.builtin "isinstance") [u,.ref l]) Q E s:=by
 cases ty with
 |As=>cases(show u=Value.none from d);exact PySem.W.kia_tup PySem.W.kitx_none I.Fl True.intro c e (fun z=>nomatch z) h
 |bl y=>cases(show u=Value.bool y from d);exact PySem.W.kia_tup PySem.W.kitx_bool I.Fl True.intro c e (fun z=>nomatch z) h
 |int i=>obtain⟨t,q⟩:=(show∃t,u=Value.int i t from d);cases q;exact PySem.W.kia_tup PySem.W.kitx_int I.Fl True.intro c e (fun z=>nomatch z) h
 |str y=>obtain⟨t,q⟩:=(show∃t,u=Value.str y t from d);cases q;exact PySem.W.kia_tup PySem.W.kitx_str I.Fl True.intro c e (fun z=>nomatch z) h
 |@lst a j f=>
  cases(show u=Value.ref a from d);obtain⟨_,_,n,_,g⟩:=(show BJ X.prog X.w H s.heap a (.lst j)from f.ok I.Bb);exact PySem.W.kia_tup PySem.W.kitx_list I.Fl ⟨_,g,rfl⟩ c e (fun z=>nomatch z) h
 |@tup a j f=>
  cases(show u=Value.ref a from d);obtain⟨_,_,_,p⟩:=(show BJ X.prog X.w H s.heap a (.tup j)from I.Bb a _ f);obtain⟨o,g,k,_⟩:=p;exact PySem.W.kia_tup PySem.W.kitx_tuple I.Fl ⟨o,g,k⟩ c e (fun z=>nomatch z) h
 |@dK a kvs f=>
  cases(show u=Value.ref a from d);obtain⟨_,_,r,_,p⟩:=(show BJ X.prog X.w H s.heap a (.dK kvs)from f.ok I.Bb);obtain⟨o,v,B,g,k,_⟩:=p;exact PySem.W.kia_tup PySem.W.kitx_dict I.Fl ⟨o,g,k.1⟩ c e (fun z=>nomatch z) h
def az(T:String):Bool:=T=="list"||T=="dict"
theorem cZ(h:Sf H v T):PySem.W.kitAny K (.type T) [.type "list",.type "dict"]=some (az T):=by
 cases h<;>kernel_rfl
inductive Lc(xs:List V)(H:Hp)(Q:VK):Prop
 |mk(x:V)(p:Addr)(T:String)(a:xs=[x,.ref p])(b:H p=some (.tup [.ty "list",.ty "dict"]))(c:Sf H x T)(d:Q (.bl (az T)) H)
def NK:List V->Hp->VK->Prop:=fun a H Q=>Lc a H Q
theorem Qu:CW X (.builtin "isinstance") NK:=by
 intro pins s v H w y Q I r h;obtain⟨x,p,T,rfl,e,ty,q⟩:=h;obtain⟨u,z,rfl,f,a⟩:=vals2 r;cases a;obtain⟨g,i,j,_⟩:=I.tuple (Ah.of e);obtain⟨⟨k,A,data,B⟩,l,c,n,d⟩:=id j;simp only at c d;subst c d;cases i with
 |cons m b=>
  cases b with
  |cons o b=>
   cases b;cases m;cases o;exact Qt I f ty l (cZ ty) fun t=>⟨.bl _,H,I.tok t,rfl,q⟩
theorem UJ{b:List (Key×Value)}{ss:List Str}(c:b.map (·.1)=ss.map Sum.inr){ws:List Value}(d:ws.length=b.length)(l:∀(j:Nat) (v:Value),ws[j]?=some v->∃k x,b[j]?=some (k,x)/\(BE P w).is k v=true):StrsAre ws ss:=by
 induction ss generalizing b ws with
 |nil=>
  have:b=[]:=by cases b with|nil=>rfl|cons a r=>simp at c
  subst this;have:ws=[]:=List.eq_nil_of_length_eq_zero d;subst this;exact .nil
 |cons x r m=>
  cases b with
  |nil=>simp at c
  |cons a b=>
   simp only[List.map_cons,List.cons.injEq]at c;cases ws with
   |nil=>simp at d
   |cons u ws=>
    obtain⟨k,y,e,f⟩:=l 0 u rfl;have e:a=(k,y):=by simpa using e
    subst e;have g:k=Sum.inr x:=c.1;subst g;have f:JJ (Sum.inr x) u=true:=f;rcases Ba f with⟨i,t,h,_⟩|⟨z,t,h,n⟩
    ·cases h
    ·cases h;subst n;exact .cons _ t (m c.2 (by simpa using d) fun j v o=>l (j+1) v (by simpa using o))
theorem UK{a:List Value}(h:StrsAre a ys):Vals (ys.map V.str) a:=by
 induction h with
 |nil=>exact .nil
 |cons n t _ b=>exact .cons ⟨t,rfl⟩ b
inductive Ji(xs:List V)(H:Hp)(Q:VK):Prop
 |mk(d:Addr)(kv:List (Key×V))(ss:List Str)(b:xs=[.ref d])(c:Rd H d (.dK kv))(e:kv.map (·.1)=ss.map Sum.inr)(f:kv.length<64)(g:∀(p:Addr) (a:List Str) (H':Hp),H p=none->AF H H'->H' p=some (.lst (a.map V.str))->a.Perm ss->sortedS a=true->Q (.ref p) H')
def Ki:List V->Hp->VK->Prop:=fun a H Q=>Ji a H Q
theorem Hk(T:X.calm=true):CW X (.builtin "sorted") Ki:=by
 intro pins s σ H xs us Q I r h;obtain⟨d,U,F,rfl,hd,G,p,q⟩:=h;obtain⟨u,rfl,Y⟩:=vals1 r;cases Y;obtain⟨z,Z,k,l,dd⟩:=KR I.Bb hd;have t:X.A.in1.handled=none:=I.ok.hd T;have n:k.length=U.length:=l.length.symm;have x:k.map (·.1)=F.map Sum.inr:=by rw[<-G];exact(KV.keys l).symm
 obtain⟨ep,y⟩:=dd.dictAt;have J:k.length<=sizeLine:=by rw[n];exact z
 refine Calls.call_function_entry kind_sorted plain_sorted entry_sorted (args_sorted1 _) ?_;unfold Builtin.«sorted»;refine wpAny_bind (m:=checkCount "sorted" 1 1 _) (wpAny_pure (wpAny_bind (PySem.W.kdu_collect (PySem.W.kdl_dict (knd:=BE X.prog X.w) (kvs:=k) (ep:=ep) Z) t y J fun c K a keep items=>?_)));have B:a.toList.length=k.length:=by rw[Array.length_toList];exact items.1
 have C:StrsAre a.toList F:=UJ (P:=X.prog) (w:=X.w) x B fun j v e=>items.2 j v (by rw[<-Array.getElem?_toList];exact e);refine wpAny_bind (wpAny_newList ?_ (by rw[B];exact J));have f:(c.push {cls:=.type "list",data:=.seq a.toList.toArray}).get? c.objs.size=some (seqObj "list" a.toList.toArray 0):=Heap.get?_push_size _ rfl;refine wpAny_bind (wpAny_holding (wpAny_call_entry slot_list_sort ⟨_,f,rfl⟩ entry_list_sort (list_sort_treeK strKind_oneLt f C.keysOf (fun L M rest e=>keyKind_strs (by rw[<-e];exact C)) (by rw[B,n];exact p) fun g a1 a2=>⟨_,rfl,?_⟩) (args_list_sort _)));obtain⟨i,b1,N,b3⟩:=sorted_out_str C a1 a2;obtain⟨ee,he⟩:=sortedHeap_at (out:=(arrOf g).map (·.2)) f;refine wpAny_pure ⟨_,rfl,?_⟩;have D:(c.push {cls:=.type "list",data:=.seq a.toList.toArray}).objs.size=c.objs.size+1:=size_push' ..;have O:=I.kept (t':=K) keep;have k2:∀b o,c.get? b=some o->(sortedHeap (c.push {cls:=.type "list",data:=.seq a.toList.toArray}) c.objs.size a.toList ((arrOf g).map (·.2))).get? b=some o:=fun b o e=>by
  have R:b<c.objs.size:=Heap.lt_size e;rw[sortedHeap_old (Nat.ne_of_lt R) (by rw[D];exact Nat.lt_succ_of_lt R)];exact Heap.get?_push_of_some _ e
 have E:i.length<=sizeLine:=by
  rw[N.length_eq];have:=congrArg List.length G;rw[List.length_map,List.length_map]at this;rw[<-this];exact z
 have new:BJ X.prog X.w (upd H c.objs.size (.lst (i.map V.str))) (sortedHeap (c.push {cls:=.type "list",data:=.seq a.toList.toArray}) c.objs.size a.toList ((arrOf g).map (·.2))) c.objs.size (.lst (i.map V.str)):=
  ⟨by rw[List.length_map];exact E,((arrOf g).map (·.2)).toList,ee,UK b1,by rw[Array.toArray_toList];exact he⟩
 have S:H c.objs.size=none:=O.fresh;exact⟨.ref c.objs.size,_,O.laid (t':=K) k2 (Nat.le_refl _) new,rfl,q _ i _ S (AF.new S) AB N b3⟩
end
structure Txt(mg:Str->Option Value):Prop where
 isinstance:mg "isinstance"=none
 int:mg "int"=none
 bool:mg "bool"=none
 str:mg "str"=none
 list:mg "list"=none
 dict:mg "dict"=none
 tuple:mg "tuple"=none
 len:mg "len"=none
 range:mg "range"=none
 max:mg "max"=none
 min:mg "min"=none
 sorted:mg "sorted"=none
 all:mg "all"=none
 any:mg "any"=none
 reversed:mg "reversed"=none
 ValueError:mg "ValueError"=none
 sum:mg "sum"=none
theorem AS:bootBuiltins "isinstance"=some (.builtin "isinstance"):=by decide+kernel
theorem a_:bootBuiltins "int"=some (.type "int"):=by decide+kernel
theorem cb:bootBuiltins "bool"=some (.type "bool"):=by decide+kernel
theorem Hl:bootBuiltins "str"=some (.type "str"):=by decide+kernel
theorem Dn:bootBuiltins "list"=some (.type "list"):=by decide+kernel
theorem En:bootBuiltins "dict"=some (.type "dict"):=by decide+kernel
theorem NL:bootBuiltins "tuple"=some (.type "tuple"):=by decide+kernel
theorem gh:bootBuiltins "max"=some (.builtin "max"):=by decide+kernel
theorem gj:bootBuiltins "min"=some (.builtin "min"):=by decide+kernel
theorem PB:bootBuiltins "sorted"=some (.builtin "sorted"):=by decide+kernel
theorem gp:bootBuiltins "any"=some (.builtin "any"):=by decide+kernel
theorem Af{c:Bool}{A B:Prop}(a:c=false)(h:B):if c=true then A else B:=by
 rw[a];exact Ae h
theorem BL{c:Bool}{A B:Prop}(a:c=true)(h:A):if c=true then A else B:=by
 rw[a];exact Aj h
theorem FD{b:Type}{xs:List b}{i:Int}(c:0<=i)(d:i<(xs.length:Int)):∃v,Of xs i=some v/\v∈xs:=by
 obtain⟨n,rfl⟩:=Int.eq_ofNat_of_zero_le c;have a:n<xs.length:=by lia
 exact⟨xs[n],BV (ux a),List.getElem_mem a⟩
inductive qq(P:Program)(w:World)(K:vA)(mg:Str->Option Value)(base:Heap)(x:Str)(ps:List Str)(n:Nat)(sp:Sp):Prop
 |mk(f:Addr)(a:FuncData)(k:PySem.W.keepIn K (.ref f)=true)(b:Binds K a ps [])(m:mg x=some (.ref f))(G:Av P w K mg base CP n f a ps sp)
structure Df(P:Program)(w:World)(K:vA)(mg:Str->Option Value)(base:Heap)(x:Str)(ps:List Str)(n:Nat)(sp:Sp):Prop where
 ex:qq P w K mg base x ps n sp
theorem Df.mk'{P:Program}{w:World}{K:vA}{mg:Str->Option Value}{base:Heap}{x q:Str}{st:Stmt}{ps:List Str}{n:Nat}{sp:Sp}{f:Addr}{a:FuncData}(F:CL K x q st f a)(b:Binds K a ps [])(m:mg x=some (.ref f))(G:Av P w K mg base CP n f a ps sp):Df P w K mg base x ps n sp:=⟨⟨f,a,F.kp,b,m,G⟩⟩
theorem Hm(r:Int){n:Int}(h:0<n):0<=r % n/\r % n<n:=⟨Int.emod_nonneg _ (by lia),Int.emod_lt_of_pos _ h⟩
def fB(b:Addr)(H H':Hp):Prop:=∀a o,a≠b->H a=some o->H' a=some o
variable{b:Addr}
theorem fB.upd{o:HO}:fB b H (L2.upd H b o):=fun a u h e=>by rw[AN h];exact e
def WK(x:Str):Bool:=decide (x.length<=12)&&(sgn x).all Ow
def Kj(v:V):Prop:=(∃i:Int,v=.int i/\i.natAbs<2 ^ 400)∨∃x:Str,v=.str x/\WK x=true
theorem PD{x:Str}(h:WK x=true):x.length<=12:=by
 unfold WK at h;simp only[Bool.and_eq_true,decide_eq_true_eq]at h;exact h.1
theorem Kj.lf(h:Kj v):Dc.Lf v:=by
 rcases h with⟨i,rfl,_⟩|⟨x,rfl,h⟩
 ·exact .inl ⟨i,rfl⟩
 ·exact .inr ⟨x,rfl,Nat.le_trans (PD h) (by decide)⟩
theorem MF{x:Str}(h:Bn x=true):1<=x.length/\x.length<=8:=by
 have:=UE h;rw[Gr]at this;exact⟨this.1,this.2.1⟩
namespace Dc
mutual
def ok:Dc->Prop
 |leaf v=>Kj v
 |row _ xs=>Jj xs
 |tab _ ks xs=>(∀k∈ks,Bn k=true)/\Jj xs
def Jj:List Dc->Prop
 |[]=>True
 |x::r=>ok x/\Jj r
end
theorem Bo:∀{xs:List Dc},Jj xs↔∀x∈xs,ok x
 |[]=>by simp[Jj]
 |x::r=>by simp only[Jj,List.forall_mem_cons,Bo (xs:=r)]
mutual
theorem WL{b:Addr}{i:Nat}{k:Str}{p:Dc}(e:p.ok)(f:Bn k=true):∀d:Dc,d.ok->(put b i k p d).ok
 |leaf v,h=>h
 |row a xs,h=>by
  simp only[put];split
  ·simp only[ok]at h⊢;rw[Bo]at h⊢;intro x c;rcases List.mem_append.mp c with c|c
   ·exact h x (List.mem_of_mem_take c)
   ·rcases List.mem_cons.mp c with rfl|c
    ·exact e
    ·exact h x (List.mem_of_mem_drop c)
  ·simp only[ok]at h⊢;exact NM e f xs h
 |tab a ks xs,h=>by
  simp only[put];simp only[ok]at h;split
  ·simp only[ok];refine⟨fun x c=>?_,?_⟩
   ·rcases List.mem_append.mp c with c|c
    ·exact h.1 x c
    ·rw[List.mem_singleton.mp c];exact f
   ·rw[Bo];intro x c;rcases List.mem_append.mp c with c|c
    ·exact Bo.mp h.2 x c
    ·rw[List.mem_singleton.mp c];exact e
  ·simp only[ok];exact⟨h.1,NM e f xs h.2⟩
theorem NM{b:Addr}{i:Nat}{k:Str}{p:Dc}(a:p.ok)(c:Bn k=true):∀xs:List Dc,Jj xs->Jj (putL b i k p xs)
 |[],h=>h
 |x::r,h=>by
  simp only[Jj,putL]at h⊢;exact⟨WL a c x h.1,NM a c r h.2⟩
end
mutual
def named(N:List Str):Dc->Prop
 |leaf _=>True
 |row _ xs=>ES N xs
 |tab _ ks xs=>(∀k∈ks,k∈N)/\ES N xs
def ES(N:List Str):List Dc->Prop
 |[]=>True
 |x::r=>named N x/\ES N r
end
theorem FV{N:List Str}:∀{xs:List Dc},ES N xs↔∀x∈xs,named N x
 |[]=>by simp[ES]
 |x::r=>by simp only[ES,List.forall_mem_cons,FV (xs:=r)]
mutual
theorem MG{N:List Str}{b:Addr}{i:Nat}{k:Str}{p:Dc}(e:p.named N)(f:k∈N):∀d:Dc,d.named N->(put b i k p d).named N
 |leaf v,h=>h
 |row a xs,h=>by
  simp only[put];split
  ·simp only[named]at h⊢;rw[FV]at h⊢;intro x c;rcases List.mem_append.mp c with c|c
   ·exact h x (List.mem_of_mem_take c)
   ·rcases List.mem_cons.mp c with rfl|c
    ·exact e
    ·exact h x (List.mem_of_mem_drop c)
  ·simp only[named]at h⊢;exact Gy e f xs h
 |tab a ks xs,h=>by
  simp only[put];simp only[named]at h;split
  ·simp only[named];refine⟨fun x c=>?_,?_⟩
   ·rcases List.mem_append.mp c with c|c
    ·exact h.1 x c
    ·rw[List.mem_singleton.mp c];exact f
   ·rw[FV];intro x c;rcases List.mem_append.mp c with c|c
    ·exact FV.mp h.2 x c
    ·rw[List.mem_singleton.mp c];exact e
  ·simp only[named];exact⟨h.1,Gy e f xs h.2⟩
theorem Gy{N:List Str}{b:Addr}{i:Nat}{k:Str}{p:Dc}(a:p.named N)(c:k∈N):∀xs:List Dc,ES N xs->ES N (putL b i k p xs)
 |[],h=>h
 |x::r,h=>by
  simp only[ES,putL]at h⊢;exact⟨MG a c x h.1,Gy a c r h.2⟩
end
def Kk:Dc->Prop
 |leaf v=>Kj v
 |row _ xs=>xs=[]
 |tab _ ks xs=>ks=[]/\xs=[]
theorem Kk.ok{p:Dc}(h:Kk p):p.ok:=by
 cases p with
 |leaf v=>exact h
 |row a b=>cases(show b=[]from h);simp[Dc.ok,Jj]
 |tab a c b=>obtain⟨rfl,rfl⟩:=(show c=[]/\b=[]from h);simp[Dc.ok,Jj]
theorem Kk.named{p:Dc}{N:List Str}(h:Kk p):p.named N:=by
 cases p with
 |leaf v=>trivial
 |row a b=>cases(show b=[]from h);simp[Dc.named,ES]
 |tab a c b=>obtain⟨rfl,rfl⟩:=(show c=[]/\b=[]from h);simp[Dc.named,ES]
theorem Kk.size{p:Dc}(h:Kk p):p.size=1:=by
 cases p with
 |leaf v=>rfl
 |row a b=>cases(show b=[]from h);simp[Dc.size,AZ]
 |tab a c b=>obtain⟨rfl,rfl⟩:=(show c=[]/\b=[]from h);simp[Dc.size,AZ]
theorem Kk.nodup{p:Dc}(h:Kk p):p.addrs.Nodup:=by
 cases p with
 |leaf v=>simp[addrs]
 |row a b=>cases(show b=[]from h);simp[addrs,AJ]
 |tab a c b=>obtain⟨rfl,rfl⟩:=(show c=[]/\b=[]from h);simp[addrs,AJ]
noncomputable def MH:Dc->String
 |leaf (.int _)=>"int"
 |leaf _=>"str"
 |row _ _=>"list"
 |tab _ _ _=>"dict"
theorem Fm(h:d.At H):Sf H d.val d.MH:=by
 cases d with
 |leaf v=>
  rcases(show Lf v from h)with⟨i,rfl⟩|⟨x,rfl,_⟩
  ·exact .int i
  ·exact .str x
 |row a b=>simp only[At]at h;exact .lst h.1
 |tab a c b=>simp only[At]at h;exact .dK h.1
noncomputable def sub:Dc->List V->Option Dc
 |d,[]=>some d
 |row _ xs,.int i::r=>if 0<=i then(xs[i.toNat]?).bind fun x=>sub x r else none
 |tab _ ks xs,.str k::r=>((ks.zip xs).lookup k).bind fun x=>sub x r
 |_,_=>none
def Bi(v:V):Prop:=(∃k:Nat,v=.int (k:Int))∨∃x:Str,v=.str x/\Bn x=true
theorem Bi.flat(h:Bi v):CO v=true:=by
 rcases h with⟨k,rfl⟩|⟨x,rfl,_⟩<;>rfl
theorem Ad{k:Str}{x:Dc}(h:(ks.zip xs).lookup k=some x):k∈ks/\x∈xs:=by
 induction ks generalizing xs with
 |nil=>simp at h
 |cons y r a=>
  cases xs with
  |nil=>simp at h
  |cons z b=>
   simp only[List.zip_cons_cons,List.lookup_cons]at h;by_cases e:k=y
   ·subst e;simp at h;subst h;exact⟨List.mem_cons_self,List.mem_cons_self⟩
   ·have:(k==y)=false:=by simpa using e
    rw[this]at h;have:=a h;exact⟨List.mem_cons_of_mem _ this.1,List.mem_cons_of_mem _ this.2⟩
theorem Fz(f:d.ok){j:List V}:∀{e:Dc},d.sub j=some e->(∀z∈j,Bi z)/\j.length+e.size<=d.size/\e.ok:=by
 induction j generalizing d with
 |nil=>
  intro e h;cases d<;>(simp only[sub,Option.some.injEq]at h;subst h;exact⟨fun z b=>(nomatch b),by simp,f⟩)
 |cons z r n=>
  intro e h;cases d with
  |leaf v=>simp[sub]at h
  |row a l=>
   cases z with
   |int i=>
    simp only[sub]at h;by_cases m:0<=i
    ·rw[if_pos m]at h;cases c:l[i.toNat]? with
     |none=>rw[c]at h;simp at h
     |some x=>
      rw[c]at h;have g:=u_ c;simp only[ok]at f;obtain⟨a1,a2,a3⟩:=n (d:=x) (Bo.mp f x g) h;have:=CQ g;refine⟨fun z b=>?_,?_,a3⟩
      ·rcases List.mem_cons.mp b with rfl|b
       ·exact .inl ⟨i.toNat,by rw[Int.toNat_of_nonneg m]⟩
       ·exact a1 z b
      ·simp only[List.length_cons,size];lia
    ·rw[if_neg m]at h;simp at h
   |_=>simp[sub]at h
  |tab a o l=>
   cases z with
   |str k=>
    simp only[sub]at h;cases c:(o.zip l).lookup k with
    |none=>rw[c]at h;simp at h
    |some x=>
     rw[c]at h;obtain⟨mk,g⟩:=Ad c;simp only[ok]at f;obtain⟨a1,a2,a3⟩:=n (d:=x) (Bo.mp f.2 x g) h;have:=CQ g;refine⟨fun z b=>?_,?_,a3⟩
     ·rcases List.mem_cons.mp b with rfl|b
      ·exact .inr ⟨k,rfl,f.1 k mk⟩
      ·exact a1 z b
     ·simp only[List.length_cons,size];lia
   |_=>simp[sub]at h
theorem sub_snoc{c:List V}{e:Dc}(h:d.sub c=some e)(g:List V):d.sub (c++g)=e.sub g:=by
 induction c generalizing d with
 |nil=>cases d<;>(simp only[sub,Option.some.injEq]at h;subst h;rfl)
 |cons z r j=>
  cases d with
  |leaf v=>simp[sub]at h
  |row a f=>
   cases z with
   |int i=>
    simp only[sub,List.cons_append]at h⊢;by_cases l:0<=i
    ·rw[if_pos l]at h⊢;cases b:f[i.toNat]? with
     |none=>rw[b]at h;simp at h
     |some x=>rw[b]at h;exact j (d:=x) h
    ·rw[if_neg l]at h;simp at h
   |_=>simp[sub]at h
  |tab a m f=>
   cases z with
   |str k=>
    simp only[sub,List.cons_append]at h⊢;cases b:(m.zip f).lookup k with
    |none=>rw[b]at h;simp at h
    |some x=>rw[b]at h;exact j (d:=x) h
   |_=>simp[sub]at h
theorem FE(h:ks.length=xs.length)(k:Str):Cw (kvs ks xs) (Sum.inr k)=((ks.zip xs).lookup k).map val:=by
 induction ks generalizing xs with
 |nil=>simp[kvs,Vr]
 |cons y r c=>
  cases xs with
  |nil=>simp at h
  |cons z b=>
   have e:kvs (y::r) (z::b)=(Sum.inr y,z.val)::kvs r b:=rfl;rw[e];by_cases a:k=y
   ·subst a;rw[Fu rfl];simp
   ·rw[Fw (by intro z;exact a (Sum.inr.inj z).symm),c (by simpa using h)];have:(k==y)=false:=by simpa using a
    simp[List.zip_cons_cons,List.lookup_cons,this]
theorem C_(h:ks.length=xs.length){k:Str}(a:k∈ks):∃x,(ks.zip xs).lookup k=some x/\x∈xs:=by
 induction ks generalizing xs with
 |nil=>cases a
 |cons y r b=>
  cases xs with
  |nil=>simp at h
  |cons z c=>
   by_cases e:k=y
   ·subst e;exact⟨z,by simp,List.mem_cons_self⟩
   ·obtain⟨x,d,f⟩:=b (xs:=c) (by simpa using h) ((List.mem_cons.mp a).resolve_left e);refine⟨x,?_,List.mem_cons_of_mem _ f⟩;have:(k==y)=false:=by simpa using e
    simp[List.zip_cons_cons,List.lookup_cons,this,d]
end Dc
abbrev QV:Str:="abcdefghijklmnopqrstuvwxyz"
theorem Sn:QV.length=26:=by decide+kernel
theorem NN:YY.length=26:=by decide+kernel
theorem WM(i:Int)(b:0<=i)(d:i<26):∃c,Of (sgn QV) i=some c/\Ow c=true:=by
 obtain⟨n,rfl⟩:=Int.eq_ofNat_of_zero_le b;have a:n<YY.length:=by rw[NN];lia
 exact⟨YY[n],BV (ux a),Ke (List.getElem_mem a)⟩
theorem Hn(r:Int):0<=r % 26/\r % 26<26:=⟨Int.emod_nonneg _ (by decide),Int.emod_lt_of_pos _ (by decide)⟩
def gq(v:V):Prop:=∃c,v=.str ⟨#[c]⟩/\Ow c=true
theorem MI:∀ys:List V,(∀y∈ys,gq y)->∃a:List Str,ys=a.map V.str/\(∀z∈a,z.length=1)/\((a.map sgn).flatten).length=ys.length/\((a.map sgn).flatten).all Ow=true
 |[],_=>⟨[],rfl,by simp,rfl,rfl⟩
 |y::r,h=>by
  obtain⟨c,e,d⟩:=h y List.mem_cons_self;obtain⟨a,f,g,i,j⟩:=MI r fun z b=>h z (List.mem_cons_of_mem _ b);refine⟨⟨#[c]⟩::a,by rw[e,f];rfl,?_,?_,?_⟩
  ·intro z b;rcases List.mem_cons.mp b with rfl|b
   ·rfl
   ·exact g z b
  ·show(sgn ⟨#[c]⟩++(a.map sgn).flatten).length=_;rw[List.length_append,i];show 1+r.length=r.length+1;lia
  ·show(sgn ⟨#[c]⟩++(a.map sgn).flatten).all Ow=true;rw[List.all_append,j];show([c].all Ow&&true)=true;simp[d]
inductive ZI(K:vA)(b:List V)(H:Hp)(Q:VK)(c:XK):Prop
 |mk(a:Addr)(d:List Int)(k:Nat)(e:b=[.ref a,.int (k:Int)])(f:Ay K H a (d.map V.int))(g:∀r:Int,0<=r->Q (.int r) H)
def NO(K:vA):Sp:=fun b H Q a=>ZI K b H Q a
inductive cc(a:List V)(H:Hp)(Q:VK)(b:XK):Prop
 |mk(c:Int)(k:Nat)(d:a=[.int c,.int (k:Int)])(e:k<=1000)(f:∀r:Int,0<=r->r<2305843009213693951->Q (.int r) H)
def F_:Sp:=fun b H Q a=>cc b H Q a
noncomputable def WN:Nat->Int->Int
 |0,n=>n
 |k+1,n=>WN k n/1000000
def PF(c:Int)(k:Nat):Int:=(((c+3)*1181783497276652981 % 2305843009213693951+((k:Int)+1)*614889782588491411) % 2305843009213693951)*(((c+3)*1181783497276652981 % 2305843009213693951+((k:Int)+1)*614889782588491411) % 2305843009213693951) % 999999999999999989
def Kl(c:Int)(k:Nat):Int:=if c % 4=0/\4*10 ^ 60<=c then WN k (c/4) % 1000000 else(PF c k+1)*(PF c k/1000003+7) % 2305843009213693951/7919
theorem WO(c:Int)(k:Nat):0<=Kl c k/\Kl c k<2305843009213693951:=by
 unfold Kl;split
 ·have a:=Int.emod_nonneg (WN k (c/4)) (show(1000000:Int)≠0 by decide);have b:=Int.emod_lt_of_pos (WN k (c/4)) (show(0:Int)<1000000 by decide);lia
 ·have a:=Int.emod_nonneg ((PF c k+1)*(PF c k/1000003+7)) (show(2305843009213693951:Int)≠0 by decide);have b:=Int.emod_lt_of_pos ((PF c k+1)*(PF c k/1000003+7)) (show(0:Int)<2305843009213693951 by decide);lia
inductive ZJ(a:List V)(H:Hp)(Q:VK)(b:XK):Prop
 |mk(c:Int)(k:Nat)(d:a=[.int c,.int (k:Int)])(e:k<=1000)(f:Q (.int (Kl c k)) H)
def Qv:Sp:=fun b H Q a=>ZJ b H Q a
theorem WQ{a:List V}{Q:VK}{E:XK}(h:F_ a H Q E):Qv a H Q E:=by
 obtain⟨c,k,e,b,q⟩:=h;exact⟨c,k,e,b,q _ (WO c k).1 (WO c k).2⟩
theorem WR(P:Nat->Str->Prop)(h:∀(j:Nat) y,ys[j]?=some y->P j y)(inj:∀(i j:Nat) y,i<j->j<ys.length->P i y->P j y->False):ys.Nodup:=by
 refine List.pairwise_iff_getElem.mpr fun i j d b a e=>?_;have f:=h i _ (ux d);have c:=h j _ (ux b);rw[<-e]at c;exact inj i j _ a b f c
inductive WS(a:List V)(H:Hp)(Q:VK)(b:XK):Prop
 |mk(c d:Int)(e:a=[.int c,.int d])(f:∀(p:Addr) (ys:List Str) (H':Hp),AF H H'->H p=none->H' p=some (.lst (ys.map V.str))->ys.length=6->ys.Nodup->(∀y∈ys,Bn y=true)->Q (.ref p) H')
def So:Sp:=fun b H Q a=>WS b H Q a
def WT(N:List Str)(b:Addr)(y:V)(H H':Hp):Prop:= (∃a i,H b=some (.lst a)/\H' b=some (.lst (a.take i++y::a.drop i)))∨∃c k,H b=some (.dK c)/\(Sum.inr k:Key)∉c.map (·.1)/\(Bn k=true/\k∈N)/\H' b=some (.dK (c++[(Sum.inr k,y)]))
structure Made(H H':Hp)(d:Dc):Prop where
 same:AF H H'
 at_:d.At H'
 ok:d.ok
 nd:d.addrs.Nodup
 own:∀a∈d.addrs,∀o u,H' a≠some (.DT o u)
 new:∀a∈d.addrs,H a=none
inductive cf(K:vA)(c:List V)(H:Hp)(Q:VK)(d:XK):Prop
 |mk(a:Addr)(b:List Int)(e:c=[.ref a])(f:Ay K H a (b.map V.int))(g:b.length<=63)(h:∀H',Q (.bl true) H')
def PJ(K:vA):Sp:=fun b H Q a=>cf K b H Q a
theorem Ap{n:Nat}(h:n<=1000):n<=sizeLine:=Nat.le_of_lt (Aw h)
theorem AR{y:V}:[x,y].length<=sizeLine:=Ap (show 2<=1000 by decide)
theorem BI:[x].length<=sizeLine:=Ap (show 1<=1000 by decide)
theorem BR(a:List V)(b:V):FQ (a++[b]) none (some (-1))=a:=by
 have c:HT.CY (a++[b]).length (a++[b]).length (some (-1))=a.length:=by
  simp only[HT.CY,List.length_append,List.length_singleton];rw[if_pos (by decide)];lia
 unfold FQ;rw[c,HT.Oe,List.drop_zero,Nat.sub_zero];exact List.take_left
theorem bA{mg:Str->Option Value}{base:Heap}{f:Addr}{b:FuncData}{ps:List Str}{sp:Sp}(no:∀a H Q E,¬sp a H Q E):Av P w K mg base CP 0 f b ps sp:=
 ⟨fun a H Q E h=>absurd h (no a H Q E),fun A outer s H args c a Q E _ _ _ _ h=>absurd h (no a H Q E)⟩
theorem NP{t u:TS}{D:Ends}(R:Hp->Prop)(k:∀H',R H'->u D σ H')(h:(∀H',R H'->u D σ H')->t {D with nx:=u D} σ H):VW t u D σ H:=h k
theorem Dc.there(h:d.At H)(a:b∈d.addrs):H b≠none:=by
 have f:∀u,Rd H b u->H b≠none:=fun u r z=>by
  rcases r with r|⟨o,r⟩<;>rw[r]at z<;>cases z
 rcases Dc.Ii d h a with⟨c,e,_⟩|⟨g,i,e,_⟩
 ·exact f _ e
 ·exact f _ e
theorem Rd.exact{u:HO}(r:Rd H b u)(no:∀o u,H b≠some (.DT o u)):H b=some u:=r.elim id fun⟨o,e⟩=>absurd e (no o u)
theorem Dp(h:H a≠none)(no:∀o u,H a≠some (.DT o u))(s:∀o,H a=some o->H' a=some o):∀o u,H' a≠some (.DT o u):=fun o u e=>by
 cases q:H a with
 |none=>exact h q
 |some x=>
  rw[s x q]at e;cases e;exact no o u q
structure DG(H Hi:Hp)(d:Dc)(L:Addr)(ts:List Addr):Prop where
 made:Made H Hi d
 nL:H L=none
 eL:Hi L=some (.lst (ts.map V.ref))
 out:L∉d.addrs
 hold:∀t∈ts,∃b k,Hi t=some (.tup [.ref b,.int k])/\b∈d.addrs
theorem Made.up{b H2:Hp}(D:Made H b d)(s:AF b H2):Made H H2 d:=⟨D.same.trans s,Dc.Ab s D.at_,D.ok,D.nd,fun a c=>Dp (Dc.there D.at_ c) (D.own a c) (s a),D.new⟩
theorem DG.up{H a H2:Hp}{d:Dc}{L:Addr}{c:List Addr}(D:DG H a d L c)(s:AF a H2):DG H H2 d L c:=
 ⟨D.made.up s,D.nL,s _ _ D.eL,D.out,fun t f=>let⟨b,k,e,g⟩:=D.hold t f;⟨b,k,s _ _ e,g⟩⟩
theorem DG.push{c:Hp}{L t:Addr}{k:Int}{g:List Addr}(D:DG H c d L g)(n:c t=some (.tup [.ref b,.int k]))(r:b∈d.addrs):DG H (upd c L (.lst (g.map V.ref++[.ref t]))) d L (g++[t]):=by
 have p:∀a∈d.addrs,∀o,c a=some o->upd c L (.lst (g.map V.ref++[.ref t])) a=some o:=fun a f o e=>by
  have j:a≠L:=fun z=>D.out (by rw[<-z];exact f);rw[AN j];exact e
 refine⟨⟨D.made.same.put D.nL,Dc.FC d p D.made.at_,D.made.ok,D.made.nd,fun a f=>Dp (Dc.there D.made.at_ f) (D.made.own a f) (p a f),D.made.new⟩,D.nL,by rw[AB,List.map_append];rfl,D.out,fun i l=>?_⟩
 ·have q:∀{i:Addr}{s:List V},c i=some (.tup s)->i≠L:=fun h=>Es h D.eL (by intro z;cases z);rcases List.mem_append.mp l with h|h
  ·obtain⟨u,v,e,m⟩:=D.hold i h;exact⟨u,v,by rw[AN (q e)];exact e,m⟩
  ·rw[List.mem_singleton.mp h];exact⟨b,k,by rw[AN (q n)];exact n,r⟩
theorem Made.laid{N:List Str}{F H2 f:Hp}{p:Dc}(D:Made H F d)(s:AF F H2)(M:p.At H2)(pk:p.ok)(pn:p.addrs.Nodup)(Q:∀a∈p.addrs,∀o u,H2 a≠some (.DT o u))(new:∀a∈p.addrs,F a=none)(q:b∈d.addrs)(c:fB b H2 f)(O:WT N b p.val H2 f):
  ∃d':Dc,d'.val=d.val/\d'.size=d.size+p.size/\Made H f d'/\(∀a∈p.addrs,a∈d'.addrs)/\(∀a∈d.addrs,a∈d'.addrs)/\(∀a∈d'.addrs,a∈d.addrs∨a∈p.addrs)/\p.At f/\((∃y∈N,Bn y=true)->p.named N->d.named N->d'.named N):=by
 have P:∀x∈d.addrs,x∉p.addrs:=fun x R G=>Dc.there D.at_ R (new x G);have t:p.At f:=Dc.FC p (fun a g o e=>c a o (fun z=>P b q (by rw[<-z];exact g)) e) M;have S:AF H f:=fun a o e=>c a o (Am e (D.new b q)) ((D.same.trans s) a o e);have T:∀a∈d.addrs,a≠b->∀o,H2 a=some o->f a=some o:=fun a _ h o e=>c a o h e;have at2:=Dc.Ab s D.at_;have v:∀o u,f b≠some (.DT o u):=fun o u e=>by
  rcases O with⟨w,i,_,z⟩|⟨n,k,_,_,⟨_,_⟩,z⟩<;>rw[z]at e<;>cases e
 have go:∀(i:Nat)(k:Str),(Bn k=true)->((∃y∈N,Bn y=true)->k∈N)->(∀w,Rd H2 b (.lst w)->f b=some (.lst (w.take i++p.val::w.drop i)))->(∀n,Rd H2 b (.dK n)->(Sum.inr k:Key)∉n.map (·.1)/\f b=some (.dK (n++[(Sum.inr k,p.val)])))->
   ∃d':Dc,d'.val=d.val/\d'.size=d.size+p.size/\Made H f d'/\(∀a∈p.addrs,a∈d'.addrs)/\(∀a∈d.addrs,a∈d'.addrs)/\(∀a∈d'.addrs,a∈d.addrs∨a∈p.addrs)/\p.At f/\((∃y∈N,Bn y=true)->p.named N->d.named N->d'.named N):=fun i k I l A B=>by
  refine⟨Dc.put b i k p d,Dc.Sh ..,Dc.O_ d q D.nd,⟨S,Dc.WG t A B d T D.nd at2,Dc.WL pk I d D.ok,Dc.ME pn d D.nd P,fun a g=>?_,fun a g=>?_⟩,fun a g=>(Dc.Dm d a).2.2 q g,fun a g=>(Dc.Dm d a).2.1 g,fun a g=>((Dc.Dm d a).1 g).imp id fun z=>z.2,t,fun U V W=>Dc.MG V (l U) d W⟩
  ·by_cases m:a=b
   ·subst m;exact v
   ·rcases(Dc.Dm d a).1 g with h|h
    ·exact Dp (Dc.there at2 h) ((D.up s).own a h) (fun o=>c a o m)
    ·exact Dp (Dc.there M h.2) (Q a h.2) (fun o=>c a o m)
  ·rcases(Dc.Dm d a).1 g with h|h
   ·exact D.new a h
   ·exact D.same.free (new a h.2)
 have C:∀u,Rd H2 b u->H2 b=some u:=fun u r=>r.exact ((D.up s).own b q);rcases O with⟨w,i,j,J⟩|⟨n,k,j,I,⟨X,Y⟩,J⟩
 ·obtain⟨E,K,l⟩:∃E:Str,Bn E=true/\((∃y∈N,Bn y=true)->E∈N):=by
   by_cases h:∃y∈N,Bn y=true
   ·obtain⟨y,Z,h2⟩:=h;exact⟨y,h2,fun _=>Z⟩
   ·exact⟨"a",by decide+kernel,fun z=>absurd z h⟩
  refine go i E K l (fun L e=>?_) (fun n e=>?_)
  ·rw[C _ e]at j;cases j;exact J
  ·rw[C _ e]at j;cases j
 ·refine go 0 k X (fun _=>Y) (fun L e=>?_) (fun uI e=>?_)
  ·rw[C _ e]at j;cases j
  ·rw[C _ e]at j;cases j;exact⟨I,J⟩
theorem DG.laid{N:List Str}{H j H2 f:Hp}{d p:Dc}{b L:Addr}{r:List Addr}(D:DG H j d L r)(s:AF j H2)(C:p.At H2)(g:p.Kk)(E:∀a∈p.addrs,∀o u,H2 a≠some (.DT o u))(new:∀a∈p.addrs,j a=none)(v:b∈d.addrs)(c:fB b H2 f)(w:WT N b p.val H2 f):
  ∃d':Dc,d'.val=d.val/\d'.size=d.size+1/\DG H f d' L r/\(∀a∈p.addrs,a∈d'.addrs)/\p.At f/\((∃y∈N,Bn y=true)->d.named N->d'.named N):=by
 obtain⟨d',F,x,m,G,I,J,l,K⟩:=D.made.laid s C g.ok g.nodup E new v c w;rw[g.size]at x;have A:=D.up s;refine⟨d',F,x,⟨m,D.nL,?_,?_,fun t M=>?_⟩,G,l,fun O n=>K O g.named n⟩
 ·exact c _ _ (fun z=>D.out (by rw[z];exact v)) A.eL
 ·intro h;rcases J L h with h|h
  ·exact D.out h
  ·have:=new L h;rw[D.eL]at this;cases this
 ·obtain⟨B,k,e,q⟩:=A.hold t M;refine⟨B,k,c _ _ ?_ e,I B q⟩;rcases w with⟨P,i,z,_⟩|⟨Q,R,z,_⟩
  ·exact Es e z (by intro z;cases z)
  ·exact Es e z (by intro z;cases z)
namespace Dc
mutual
def slim:Dc->Prop
 |leaf _=>True
 |row _ xs=>Km xs
 |tab _ _ xs=>xs.length<64/\Km xs
def Km:List Dc->Prop
 |[]=>True
 |x::r=>slim x/\Km r
end
theorem Dq:∀{xs:List Dc},Km xs->∀x∈xs,slim x
 |[],_,x,a=>nomatch a
 |y::r,h,x,a=>by
  simp only[Km]at h;rcases List.mem_cons.mp a with rfl|a
  ·exact h.1
  ·exact Dq h.2 x a
mutual
theorem Ho:∀d:Dc,d.size<64->d.slim
 |leaf _,_=>trivial
 |row a xs,h=>by
  simp only[size]at h;simp only[slim];exact Kn xs (by lia)
 |tab a ks xs,h=>by
  simp only[size]at h;simp only[slim];have:=Gv xs;exact⟨by lia,Kn xs (by lia)⟩
theorem Kn:∀xs:List Dc,AZ xs<64->Km xs
 |[],_=>trivial
 |x::r,h=>by
  simp only[AZ]at h;simp only[Km];exact⟨Ho x (by lia),Kn r (by lia)⟩
end
def Gz(ks:List Str)(xs:List Dc)(k:Str):Nat:=(((ks.zip xs).lookup k).map size).getD 0
theorem PK:∀{ks:List Str}{xs:List Dc},ks.length=xs.length->ks.Nodup->(ks.map (Gz ks xs)).sum=AZ xs
 |[],xs=>fun h _=>by
  cases xs with
  |nil=>rfl
  |cons x r=>simp at h
 |k::ks,[]=>fun h _=>by simp at h
 |k::ks,x::xs=>fun h n=>by
  obtain⟨a,b⟩:=List.nodup_cons.mp n;have c:Gz (k::ks) (x::xs) k=x.size:=by simp[Gz]
  have d:ks.map (Gz (k::ks) (x::xs))=ks.map (Gz ks xs):=List.map_congr_left fun y e=>by
   have f:y≠k:=fun z=>a (z▸e);have:(y==k)=false:=by simpa using f
   simp[Gz,List.zip_cons_cons,List.lookup_cons,this]
  rw[List.map_cons,List.sum_cons,c,d,PK (by simpa using h) b];simp only[AZ]
theorem MJ{ss:List Str}(h:ks.length=xs.length)(n:ks.Nodup)(p:ss.Perm ks):(ss.map (Gz ks xs)).sum=AZ xs:=by
 rw[(p.map _).sum_nat,PK h n]
theorem Fe{i:Nat}{x:Dc}(h:xs[i]?=some x):AZ (xs.take (i+1))=AZ (xs.take i)+x.size:=by
 rw[List.take_add_one,h,BP];simp[AZ]
end Dc
section
variable{X:Cx} {pins:List (Addr×Obj)} {σ:St} {H:Hp} {s:Shared} {a:Addr} {kvs:List (Key×V)}
theorem Inv.freeze(I:Inv X pins σ H s)(e:H a=some (.dK kvs)):∃o,s.heap.get? a=some o/\Inv X pins σ (upd H a (.DT o (.dK kvs))) s:=by
 have ok:=(show BJ X.prog X.w H s.heap a (.dK kvs)from I.Bb a _ e);obtain⟨z,g,h,i,o,j,k,f,r⟩:=id ok;refine⟨o,f,?_⟩;have c:∀b u,H b=some u->u≠.dK kvs->b≠a:=fun b u q n w=>by
  subst w;rw[e]at q;exact n (uz q).symm
 have un:Un X.fs [] H (upd H a (.DT o (.dK kvs))) s.heap s.heap:=
  ⟨fun b d q _ _ _=>q,fun b d q _ _ _=>⟨d.slots,q⟩,fun b d q n _=>by rw[AN (fun w=>by subst w;rw[e]at n;cases n)];exact n,fun b d q _=>⟨d,q⟩,
   fun b l q=>by rw[AN (c b _ q (by intro z;cases z))];exact q,fun b d u q=>by rw[AN (c b _ q (by intro z;cases z))];exact q,fun b m q=>⟨#[],by rw[AN (c b _ q (by intro z;cases z)),q];simp⟩⟩
 have Bb:Et X.prog X.w (upd H a (.DT o (.dK kvs))) s.heap:=I.Bb.write (by rw[e];trivial) (.inl rfl) (fun b u _ q=>q) ⟨o,f⟩ ⟨f,ok⟩;exact I.un (h':=s.heap) (t':=s.toks) un Bb
theorem Inv.lJ{o:Obj}(I:Inv X pins σ H s)(e:H a=some (.DT o (.dK kvs)))(nf:∀o u,X.H₀ a≠some (.DT o u)):Inv X pins σ (upd H a (.dK kvs)) s:=by
 have ok:=(show BJ X.prog X.w H s.heap a (.DT o (.dK kvs))from I.Bb a _ e);have d:∀b u,H b=some u->u≠.DT o (.dK kvs)->b≠a:=fun b u q n w=>by
  subst w;rw[e]at q;exact n (uz q).symm
 have f:∀b,H b=none->b≠a:=fun b n w=>by subst w;rw[e]at n;cases n
 have B:=I.base;refine⟨I.ok,I.os,I.bare,⟨B.keep,B.slot,fun b g q n i=>by rw[AN (f b (B.free b g q n i))];exact B.free b g q n i,B.there,fun b h q=>by rw[AN (d b _ (B.HR b h q) (by intro z;cases z))];exact B.HR b h q,
  fun b g u q=>by rw[AN (fun w=>nf g u (by rw[<-w];exact q))];exact B.Gm b g u q,fun b m q=>?_⟩,I.loc,I.cell,by rw[AN (f _ I.free)];exact I.free,fun x c q=>by rw[AN (f _ (I.DV x c q))];exact I.DV x c q,
  fun p t=>let⟨y,j,A⟩:=I.pin p t;⟨y,by rw[AN (f _ j)];exact j,A⟩,fun b u q=>?_,I.len⟩
 ·obtain⟨more,k⟩:=B.IV b m q;exact⟨more,by rw[AN (d b _ k (by intro z;cases z))];exact k⟩
 ·by_cases l:b=a
  ·subst l;rw[AB]at q;cases q;exact ok.2
  ·rw[AN l]at q;exact(I.Bb b u q).Gf (fun c v _ r=>r) (fun c r=>by rw[AN (d c _ r (by intro z;cases z))];exact r) fun c h r=>by rw[AN (d c _ r (by intro z;cases z))];exact r
theorem Inv.nf(I:Inv X pins σ H s)(e:H a=some (.dK kvs)):∀o u,X.H₀ a≠some (.DT o u):=fun o u q=>by
 have:=I.base.Gm a o u q;rw[e]at this;cases this
end
def cg(a:Addr)(o:Obj)(kvs:List (Key×V))(k:Hp->Prop):Hp->Prop:=fun H=>H a=some (.DT o (.dK kvs))/\k (upd H a (.dK kvs))
inductive cj(t:TE)(σ:St)(H:Hp)(Q:VK):Prop
 |mk(a kvs:_)(b:H a=some (.dK kvs))(c:∀o,t σ (upd H a (.DT o (.dK kvs))) fun v=>cg a o kvs (Q v))
def gr(t:TE):TE:=fun a H Q=>cj t a H Q
section
variable{X:Cx}
theorem ck{e:Expr}{t:TE}(h:PE X e t):PE X e (gr t):=by
 rintro pins s c H Q I ⟨a,kvs,b,d⟩;obtain⟨o,l,f⟩:=I.freeze b;exact Bl (h pins s c _ _ f (d o)) fun u m ⟨v,n,g,i,j,k⟩=>⟨v,_,g.lJ j (I.nf b),i,k⟩
theorem Ko{e:Expr}{t u:TE}(h:PE X e t)(h':PE X e u):PE X e (fun σ H Q=>t σ H Q∨u σ H Q):=by
 rintro pins s σ H Q I (q|q)
 ·exact h pins s σ H Q I q
 ·exact h' pins s σ H Q I q
theorem cn{e:Stmt}{t u:TS}(h:PS X e t)(h':PS X e u):PS X e (fun D σ H=>t D σ H∨u D σ H):=by
 rintro pins s σ H D I (q|q)
 ·exact h pins s σ H D I q
 ·exact h' pins s σ H D I q
end
def lK(a:Addr)(o:Obj)(kvs:List (Key×V)):It:=
 ⟨fun i H=>H a=some (.DT o (.dK kvs))/\i<kvs.length,fun i H x b=>b=H/\∃k v,kvs[i]?=some (k,v)/\x=kV k,fun i H=>H a=some (.DT o (.dK kvs))/\i=kvs.length⟩
def gs(tl:TE):TI:=fun c H R=>tl c H fun x b=>∃a o kvs,x=.ref a/\b a=some (.DT o (.dK kvs))/\R (lK a o kvs) b
theorem ZK{k:Key}(h:(BE P w).is k u=true):RelV (kV k) u:=by
 rcases Ba (k:=k) (v:=u) h with⟨i,t,rfl,rfl⟩|⟨x,t,rfl,rfl⟩
 ·exact⟨t,rfl⟩
 ·exact⟨t,rfl⟩
theorem UL{tg:Expr}{it:Addr}{o:Obj}{kvs:List (Key×V)}{vs:List (Key×Value)}{ep:Nat}(fE:a≠it)(rel:KV kvs vs)(hD:∀h:Heap,h.get? a=some o->h.DictAt (BE P w) a vs ep):
  Turn P w K tg (lK a o kvs) [it] it (fun i h=>h.IsKeyIter it a i vs.length ep)where
 mem:=by simp
 obj:=fun i h st b hb=>by
  have e:b=it:=by simpa using hb
  subst e;obtain⟨ob,h1,_,h3⟩:=st;exact⟨ob,h1,fun v z=>by rw[h3]at z;cases z⟩
 keep:=fun i h h' st k=>st.at fun ob e=>k it (by simp) ob e
 item:=fun X hp hw _ hc i pins s σ H E I hf st go=>by
  subst hp hw;have f:=hf it (by simp);obtain⟨ga,gi⟩:=go;have lL:=hD s.heap (show BJ X.prog X.w H s.heap a (.DT o (.dK kvs))from I.Bb a _ ga).1;refine(Walks.dictKeys (knd:=BE X.prog X.w) (I.ok.hd hc) it a fE vs ep).item i s _ E (by rw[<-rel.length];exact gi) ⟨st,lL⟩ fun v h' tk hP Vc kept=>?_;obtain⟨k,x,qr,hk⟩:=hP;obtain⟨ob,h1,h2,h3⟩:=Vc.1;have lM:∃y,kvs[i]?=some (k,y):=by
   have e:=congrArg (fun l=>l[i]?) (KV.keys rel);simp only[List.getElem?_map,qr,ux gi]at e;have e:kvs[i].1=k:=by simpa using e
   exact⟨kvs[i].2,by rw[ux gi,<-e]⟩
  obtain⟨y,hy⟩:=lM;refine⟨v,rfl,SO (o:=ob) h1 h2 h3 (by decide) ⟨kV k,H,I.turned (fun b qt hb e=>kept b qt (by simp[hb]) e) f.1 f.2.1 f.2.2.2.1 f.2.2.2.2.1 f.2.2.2.2.2,ZK hk,⟨rfl,k,y,hy,rfl⟩,Vc.1,fun b hb=>?_⟩⟩;have e:b=it:=by simpa using hb
  subst e;exact f.1
 done:=fun X hp hw _ hc i pins s σ H E I hf st stop=>by
  subst hp hw;have f:=hf it (by simp);obtain⟨ga,gi⟩:=stop;have gi:i=vs.length:=by rw[gi];exact rel.length
  subst gi;have lL:=hD s.heap (show BJ X.prog X.w H s.heap a (.DT o (.dK kvs))from I.Bb a _ ga).1;refine(Walks.dictKeys (knd:=BE X.prog X.w) (I.ok.hd hc) it a fE vs ep).done s _ E ⟨st,lL⟩ fun h' tk kept=>?_;exact⟨rfl,I.turned (fun b ob hb e=>kept b ob (by simp[hb]) e) f.1 f.2.1 f.2.2.2.1 f.2.2.2.2.1 f.2.2.2.2.2⟩
 self:=fun A i s Q E st hQ=>wpAny_pyIter_keyiter st hQ
section
variable{X:Cx} {tg:Expr}
theorem ZL{l:Expr}{tl:TE}(n:PE X l tl):PI X tg l (gs tl):=by
 intro pins s p H R I h;refine Bl (n pins s p H _ I h) fun v c r=>r.elim fun x k g t u=>?_;obtain⟨a,o,kvs,rfl,y,q⟩:=u;cases t;have ok:=(show BJ X.prog X.w k c.heap a (.DT o (.dK kvs))from g.Bb a _ y);obtain⟨m,z,A,F,i,B⟩:=ok;obtain⟨G,d⟩:=B.dictAt;obtain⟨J,C,f,D⟩:=id d;rw[m]at f;cases f;have j:a<c.heap.objs.size:=Heap.lt_size m;refine wpAny_pyIter_dict A d ⟨c.heap.objs.size,[c.heap.objs.size],_,lK a o kvs,k,rfl,g.kept (t':=c.toks) fun b K e=>Heap.get?_push_of_some _ e,
  UL (Nat.ne_of_lt j) i (fun h e=>⟨o,C,e,D⟩),⟨_,Heap.get?_push_size _ rfl,rfl,rfl⟩,fun b E=>?_,q⟩
 have e:b=c.heap.objs.size:=by simpa using E
 subst e;exact g.Qb (Nat.le_refl _) g.fresh
end
def F'(H H':Hp):Prop:=∀b u,Rd H b u->Rd H' b u
theorem AF.r{H H':Hp}(s:AF H H'):F' H H':=fun b u r=>r.up fun o=>s b o
theorem F'.trans{a H2:Hp}(s:F' H a)(t:F' a H2):F' H H2:=fun b u r=>t b u (s b u r)
theorem F'.DT{H:Hp}{a:Addr}{o:Obj}{kvs:List (Key×V)}(e:H a=some (.dK kvs)):F' H (upd H a (.DT o (.dK kvs))):=fun b u r=>by
 by_cases c:b=a
 ·subst c;rcases r with r|⟨d,r⟩
  ·rw[e]at r;cases r;exact .inr ⟨o,AB⟩
  ·rw[e]at r;cases r
 ·exact r.up fun d q=>by rw[AN c];exact q
theorem Dc.WU(s:F' H H')(h:d.At H):d.At H':=Dc.Sk d (fun a _ u r=>s a u r) h
end L2
namespace PySem
open PyProof.Rows PySem.F PySem.Spec
theorem Kp:typeLookup (.type "list") "keys"=pure none:=by rw[typeLookup_type,builtinLookup_eq_fast];kernel_rfl
theorem Kq{prog:Program}{w:World}{A:Around}{E:Value->Shared->Prop}{s:Shared}{a:Addr}{o:Obj}{xs:Array Value}{k:Nat}{Q:Option Value->Shared->Prop}(j:s.heap.get? a=some o)(l:o.cls=.type "list")(b:o.data=.seq xs k)(m:o.dict=none)(p:A.handled=none)(h:∀h' tk e,Heap.NewExcOf s.heap h' e "AttributeError"->Q none {s with heap:=h',toks:=tk}):
  wpAny (model prog w) A (getAttr? (.ref a) "keys") Q E s:=by
 obtain⟨c,IU,q,r⟩:=o;simp only at l b m;subst l b m;obtain⟨t,g,d,tk,os⟩:=s;have n:∀f,(⟨t,g,d,f,os⟩:Shared).TypeIs (.ref a) "list":=fun _=>⟨_,j,rfl⟩;have u:=sub_AttributeError;have v:=F.slot_list_getattribute.lookup;have x:=F.slot_list_getattribute.bind (.ref a);have y:=am_list_getattr_none;unfold getAttr? getAttrBy? getAttrBy
 repeat (any_goals (first|assumption|exact n _|((with_reducible show wpAny _ _ (call (Value.builtin "list.__getattribute__") _ _) _ _ _);refine call_meets F.slot_list_getattribute (n _) am_entry_list_getattribute (F.args_list_getattribute_2 _ _) (meets_getattribute_miss_list a xs k r "keys" _ Kp (by decide+kernel) (by decide+kernel)) ⟨j,p,fun h' f e i=>?_⟩)|wp_step))
 obtain⟨z,B,C⟩:=i.there;show wpAny _ _ (getattributeRaised _ _ _ _ _ _ _) _ _ _;unfold getattributeRaised
 repeat (any_goals (first|assumption|wp_step))
 exact h _ _ _ i.of
theorem Ff:entryFor table "dict.update.loop"=some Builtin.«dict.update.loop»:=entryFor_of_tree (by kernel_rfl)
theorem DD:plainId "dict.update.loop"=true:=by decide+kernel
section
variable{prog:Program} {w:World} {K:Type} [DecidableEq K] {knd:KeyKind prog w K} {A:Around} {R:Result->Shared->Prop}
theorem UM{I l d:Addr}{items:Array Value}{more:List (K×Value)}(hh:A.handled=none)(E:l≠I)(h:d≠I)(F:d≠l)(hlen:items.size=more.length)(hsz:more.length<=100000):
  ∀(k i:Nat)(s:Shared),more.length-i=k->i<=more.length->s.heap.IsListIter I l i->s.heap.IsList l items->s.heap.DictOf knd d (merged [] (more.take i))-> (∀(j:Nat) u c,more[j]?=some (u,c)->∃t a,items[j]?=some (.ref t)/\t≠d/\t≠I/\IsTup s.heap t #[a,c]/\knd.is u a=true)-> (∀h' tk,h'.DictOf knd d (merged [] more)->(∀b o,b≠d->b≠I->s.heap.get? b=some o->h'.get? b=some o)->R (.ok (.ret .none)) {s with heap:=h',toks:=tk})->
   codeAny (model prog w) A (.builtin "dict.update.loop" ⟨[.ref d,.ref I,rawInt (i:Int),.none],[]⟩) R s:=by
 have W:=Walks.list (prog:=prog) (w:=w) (A:=A.in1) hh I l E items;intro k
 induction k with
 |zero=>
  intro i s hk hi hit G C H J;have L:i=more.length:=by lia
  subst L;refine codeAny_builtin Ff ?_;rw[Around.under_plainId DD _];show wpAny _ A.in1 (pyNext (.ref I)>>=_) _ _ s;refine wpAny_bind (W.done s _ _ (by rw[hlen];exact⟨hit,G⟩) fun h' tk kept=>?_);rw[List.take_length]at C;obtain⟨o,M,N,O,r⟩:=C;show wpAny _ A.in1 (Builtin.Dict.addKeywords d []>>=_) _ _ _;exact wpAny_bind (wpAny_pure (wpAny_pure (J h' tk ⟨o,M,N,kept _ _ (by simp[h]) O,r⟩ fun b o _ hb e=>kept b o (by simp[hb]) e)))
 |succ k ih=>
  intro i s hk hi hit G C H J;have m:i<more.length:=by lia
  obtain⟨⟨u,c⟩,Z⟩:∃p,more[i]?=some p:=⟨_,ux m⟩;obtain⟨t,a,ht,td,tI,tup,f⟩:=H i u c Z;refine codeAny_builtin Ff ?_;rw[Around.under_plainId DD _];show wpAny _ A.in1 (pyNext (.ref I)>>=_) _ _ s;refine wpAny_bind (W.item i s _ _ (by rw[hlen];exact m) ⟨hit,G⟩ fun v h' tk hv x kept=>?_);rw[ht]at hv;cases hv;obtain⟨ot,P,n,nt,y⟩:=tup;have g:h'.get? t=some ot:=kept _ _ (by simp[tI]) P;have hT:({s with heap:=h',toks:=tk}:Shared).TypeIs (.ref t) "tuple":=⟨_,g,n⟩;obtain⟨ct,dt,dat,slt⟩:=ot;simp only at n y;subst n y;obtain⟨o,M,N,O,r⟩:=id C;have Q:h'.DictOf knd d (merged [] (more.take i)):=⟨o,M,N,kept _ _ (by simp[h]) O,r⟩;have S:(merged [] (more.take i)).length<=sizeLine:=by
   have:=merged_length_le ([]:List (K×Value)) (more.take i);rw[List.length_take,List.length_nil]at this;have e:sizeLine=16777216:=sizeLine_eq;lia
  show wpAny _ A.in1 (holding [Value.ref t] _>>=_) _ _ _;refine wpAny_bind (wpAny_holding (wpAny_bind (wpAny_tryCatch ?_)));unfold Builtin.Dict.pairItems;refine wpAny_bind (wpAny_typeOf hT ?_);rw[if_pos (by decide)];unfold seqItems?;refine wpAny_bind ?_;refine wpAny_bind (wpAny_load g ?_);refine wpAny_pure (wpAny_pure ?_);show wpAny _ A.in1 (holding [a,c] (dictSet d a c)) _ _ _;refine wpAny_holding ?_;unfold dictSet
  try with_reducible refine wpAny_holding ?_
  refine wpAny_bind (knd.pyHash f ?_);refine wpAny_dictSetHashed_pairs (hsz:=S) f Q fun h2 z q=>?_;have e1:stored (merged [] (more.take i)) u c=merged [] (more.take (i+1)):=(merged_take_succ [] more i (u,c) Z).symm;rw[e1]at z;have kp:∀b o,b≠d->b≠I->s.heap.get? b=some o->h2.get? b=some o:=fun b o D T e=>by
   rw[q.2 b D];exact kept b o (by simp[T]) e
  have ic:((i:Int)+1)=((i+1:Nat):Int):=by simp
  refine wpAny_pure ⟨plainId_quiet DD _,?_⟩;rw[ic];refine ih (i+1) _ (by lia) m (x.1.at fun o e=>by rw[q.2 I (Ne.symm h)];exact e) (x.2.at fun o e=>by rw[q.2 l (Ne.symm F)];exact e) z (fun j k2 v2 hj=>?_) (fun T U V X=>J T U V fun b o D h4 e=>X b o D h4 (kp b o D h4 e));obtain⟨t2,B,a1,a2,a3,⟨Y,b1,b2⟩,a5⟩:=H j k2 v2 hj;exact⟨t2,B,a1,a2,a3,⟨Y,kp _ _ a2 a3 b1,b2⟩,a5⟩
end
end PySem
namespace L2
open PySem PySem.Spec PyProof.Rows
section
variable{X:Cx}
inductive ZM(K:vA)(xs:List V)(H:Hp)(Q:VK):Prop
 |mk(l:Addr)(a:List Addr)(kvs:List (Key×V))(b:xs=[.ref l])(c:Ay K H l (a.map V.ref))(d:a.length=kvs.length)(e:(∀(j:Nat) k v,kvs[j]?=some (k,v)->∃t,a[j]?=some t/\H t=some (.tup [kV k,v])))(f:kvs.length<=1000)(g:∀p,H p=none->Q (.ref p) (upd H p (.dK (EG [] kvs))))
def cq(K:vA):List V->Hp->VK->Prop:=fun a H Q=>ZM K a H Q
theorem Jk(hc:X.calm=true):CW X (.type "dict") (cq X.K):=by
 intro pins s σ H xs us Q I r h;obtain⟨l,f,kvs,rfl,hl,hlen,hp,hz,q⟩:=h;obtain⟨u,rfl,ru⟩:=vals1 r;cases ru;obtain⟨n,rv,pl,_⟩:=I.list hl;obtain⟨W,nl,L,x,Y,C⟩:=id pl;have M:X.A.in1.handled=none:=I.ok.hd hc;refine callType_codes (Q₁:=fun N B=>N=.ref s.heap.objs.size/\B={s with heap:=s.heap.push {cls:=.type "dict",data:=.dict #[]}}) F.kt_called_dict (F.kt_typeCall_dict_1 _) F.entry_dict_init (kt_code_dict_new _ ⟨rfl,rfl⟩) ?_;rintro N B ⟨rfl,rfl⟩;have g:(s.heap.push {cls:=.type "dict",data:=.dict #[]}).DictOf (BE X.prog X.w) s.heap.objs.size []:=Heap.DictOf.new s.heap;refine⟨g.typeIs,F.args_dict_init_2 _ _,?_⟩;unfold Builtin.«dict.__init__»;refine wpAny_bind ?_;unfold Builtin.Dict.selfAndRest;refine wpAny_bind (wpAny_notOrdered_dict g.typeIs ?_);show wpAny _ _ (pure (s.heap.objs.size,[Value.ref l])) _ _ _;refine wpAny_pure ?_;show wpAny _ _ (Builtin.Dict.updateFrom "dict.__init__" s.heap.objs.size (.ref l) [] .none) _ _ _;unfold Builtin.Dict.updateFrom;have c:(s.heap.push {cls:=.type "dict",data:=.dict #[]}).get? l=some W:=Heap.get?_push_of_some _ L;have Z:({s with heap:=s.heap.push {cls:=.type "dict",data:=.dict #[]}}:Shared).TypeIs (.ref l) "list":=⟨_,c,x⟩;refine wpAny_bind (wpAny_typeOf Z ?_);rw[if_pos (by decide)];refine wpAny_bind (Kq c x C Y M fun D uJ e1 ne1=>?_);rw[if_pos (show(Option.isNone (none:Option Value))=true from rfl)];have i:∀b o,(s.heap.push {cls:=.type "dict",data:=.dict #[]}).get? b=some o->D.get? b=some o:=ne1.keeps;have O:∀b o,s.heap.get? b=some o->D.get? b=some o:=fun b o e=>i b o (Heap.get?_push_of_some _ e);have qu:D.IsList l n.toArray:=⟨W,i _ _ c,x,nl,C⟩;refine wpAny_bind (wpAny_rule ?_);refine wpAny_bind (wpAny_pyIter_list qu ?_);refine wpAny_pure ⟨plainId_quiet DD _,?_⟩;obtain⟨od,es,ep,P,rd⟩:=id g;have y:s.heap.objs.size<D.objs.size:=Heap.lt_size (i _ _ P);have R:l<s.heap.objs.size:=Heap.lt_size L;have qw:∀kvs:List (Key×V),(∀p∈kvs,∃(t:Addr),H t=some (.tup [kV p.1,p.2]))->True:=fun _ _=>trivial;have E:∀(t:Addr) k v,H t=some (.tup [kV k,v])->∃a d,IsTup s.heap t #[a,d]/\(BE X.prog X.w).is k a=true/\RelV v d:=fun t k v e=>by
  obtain⟨z,r2,tp,_⟩:=I.tuple (Ah.of e);cases r2 with
  |cons ra rr=>
   cases rr with
   |cons rb rr=>
    cases rr;exact⟨_,_,tp,KQ ra,rb⟩
 obtain⟨more,G⟩:∃more:List (Key×Value),KV kvs more/\∀(j:Nat) m d,more[j]?=some (m,d)->∃t a,f[j]?=some t/\IsTup s.heap t #[a,d]/\(BE X.prog X.w).is m a=true:=by
  have gen:∀(kvs:List (Key×V))(f:List Addr),(∀(j:Nat) k v,kvs[j]?=some (k,v)->∃t,f[j]?=some t/\H t=some (.tup [kV k,v]))->
    ∃more:List (Key×Value),KV kvs more/\∀(j:Nat) m d,more[j]?=some (m,d)->∃t a,f[j]?=some t/\IsTup s.heap t #[a,d]/\(BE X.prog X.w).is m a=true:=by
   intro kvs
   induction kvs with
   |nil=>exact fun f _=>⟨[],.nil,fun j m d e=>by simp at e⟩
   |cons p r ih=>
    intro f h;obtain⟨k,v⟩:=p;obtain⟨t,e1,e2⟩:=h 0 k v rfl;obtain⟨a,d,a1,a2,a3⟩:=E t k v e2;obtain⟨more,b1,b2⟩:=ih f.tail (fun j k v e=>by
     obtain⟨t,c1,c2⟩:=h (j+1) k v (by simpa using e);exact⟨t,by rw[List.getElem?_tail];exact c1,c2⟩)
    refine⟨(k,d)::more,.cons ⟨rfl,a3⟩ b1,fun j m S e=>?_⟩;cases j with
    |zero=>
     have e:(k,d)=(m,S):=by simpa using e
     cases e;exact⟨t,a,e1,a1,a2⟩
    |succ j=>
     obtain⟨t,a,c1,c2,c3⟩:=b2 j m S (by simpa using e);exact⟨t,a,by rw[List.getElem?_tail]at c1;exact c1,c2,c3⟩
  exact gen kvs f hp
 obtain⟨J,hm⟩:=G;have T:n.length=f.length:=by rw[<-rv.length,List.length_map]
 have U:∀(j:Nat) t,f[j]?=some t->n.toArray[j]?=some (.ref t):=fun j t e=>by
  obtain⟨u,D,h2⟩:=rv.get (show(f.map V.ref)[j]?=some (.ref t)by rw[List.getElem?_map,e];rfl);cases h2;simpa using D
 show codeAny _ _ (.builtin "dict.update.loop" ⟨[.ref s.heap.objs.size,.ref D.objs.size,rawInt ((0:Nat):Int),.none],[]⟩) _ _;refine UM (knd:=BE X.prog X.w) (l:=l) (items:=n.toArray) (more:=more) M (Nat.ne_of_lt (Nat.lt_trans R y)) (Nat.ne_of_lt y) (Nat.ne_of_gt R) (by rw[List.size_toArray,T,hlen];exact J.length) (by rw[<-J.length];lia) more.length 0 _ (by simp) (Nat.zero_le _)
  ⟨_,Heap.get?_push_size _ rfl,rfl,rfl⟩ ⟨W,Heap.get?_push_of_some _ (i _ _ c),x,nl,C⟩ ⟨od,es,ep,Heap.get?_push_of_some _ (i _ _ P),rd⟩ (fun j m d e=>?_) (fun h2 qy hd2 qz=>⟨rfl,?_⟩)
 ·obtain⟨t,a,c1,⟨ot,c2,q_⟩,c3⟩:=hm j m d e;have:t<s.heap.objs.size:=Heap.lt_size c2;exact⟨t,a,U j t c1,Nat.ne_of_lt this,Nat.ne_of_lt (Nat.lt_trans this y),⟨ot,Heap.get?_push_of_some _ (O _ _ c2),q_⟩,c3⟩
 ·have gu:(EG [] kvs).length<=sizeLine:=by
   have:=Em kvs [];exact Ap (by simp at this;lia)
  refine⟨.ref s.heap.objs.size,_,I.laid (t':=qy) (fun b o e=>?_) (Nat.le_refl _) (KS gu (beq_eq_false_iff_ne.mpr (Ne.symm (Nat.ne_of_lt I.big))) (KV.merge J .nil) hd2),rfl,q _ I.fresh⟩;have:=Heap.lt_size e;exact qz b o (Nat.ne_of_lt this) (Nat.ne_of_lt (Nat.lt_trans this y)) (Heap.get?_push_of_some _ (O _ _ e))
end
section
variable{X:Cx}
theorem MK{pins:List (Addr×Obj)}{σ:St}{H:Hp}{s:Shared}{A:Around}{xs ys:List V}{its a:List Value}(d:Vals xs its)(e:Vals ys a)(f:∀z∈xs,CO z=true)(g:∀z∈ys,CO z=true)(j:Nat)(h:j<its.toArray.size)(i:j<a.toArray.size):SeqAt.EqAt A s its.toArray[j] a.toArray[j] (JL (xs.getD j .As) (ys.getD j .As)):=by
 have k:its.toArray.size=xs.length:=by rw[List.size_toArray];exact d.length.symm
 have l:a.toArray.size=ys.length:=by rw[List.size_toArray];exact e.length.symm
 have b:j<xs.length:=by rw[<-k];exact h
 have c:j<ys.length:=by rw[<-l];exact i
 obtain⟨m,n,o⟩:=d.get (ux b);obtain⟨p,q,r⟩:=e.get (ux c);have t:its.toArray[j]=m:=by
  have:=(uy n).2;simpa using this
 have u:a.toArray[j]=p:=by
  have:=(uy q).2;simpa using this
 rw[t,u];have v:xs.getD j .As=xs[j]:=by rw[List.getD_eq_getElem?_getD,ux b];rfl
 have w:ys.getD j .As=ys[j]:=by rw[List.getD_eq_getElem?_getD,ux c];rfl
 rw[v,w];exact KO o r (f _ (List.getElem_mem b)) (g _ (List.getElem_mem c))
inductive gw(K:vA)(c:Bool)(x y:V)(H:Hp)(Q:VK):Prop
 |mk(a b:Addr)(xs ys:List V)(d:x=.ref a)(e:y=.ref b)(f:Ay K H a xs)(g:Ay K H b ys)(h:(∀z∈xs,CO z=true))(i:(∀z∈ys,CO z=true))(j:Q (.bl (if c then !BQ xs ys else BQ xs ys)) H)
def gx(K:vA)(a:Bool):R2:=fun x y H Q=>gw K a x y H Q
theorem cu(l:X.A.units<cLine):Dg X (compareOp .Eq) (gx X.K false):=by
 intro pins s σ H x y v u Q I t w h;obtain⟨a,b,c,d,rfl,rfl,z,B,C,D,q⟩:=h;cases t;cases w;obtain⟨i,m,n,_⟩:=I.list z;obtain⟨f,o,p,_⟩:=I.list B;have k:i.toArray.size=c.length:=by rw[List.size_toArray];exact m.length.symm
 have r:f.toArray.size=d.length:=by rw[List.size_toArray];exact o.length.symm
 by_cases g:c.length=d.length
 ·refine SeqAt.eq_listAt (e:=fun j=>JL (c.getD j .As) (d.getD j .As)) n.isList p.isList (by rw[k,r,g]) l (fun j E F=>MK (pins:=pins) (σ:=σ) (H:=H) m o C D j E F) ?_;refine⟨.bl (BQ c d),H,I,?_,q⟩;show Value.bool _=Value.bool _;congr 1;unfold BQ;rw[k,g,Nat.min_self,beq_self_eq_true,Bool.and_true]
 ·refine SeqAt.eq_list_lengthsAt n.isList p.isList (by rw[k,r];simpa using g) l ⟨.bl (BQ c d),H,I,?_,q⟩;show Value.bool _=Value.bool _;congr 1;unfold BQ;rw[beq_eq_false_iff_ne.mpr g,Bool.and_false]
theorem WV{a:Expr}{f:TA}{p pos:Pos}(l:Gl X "range")(m:X.mg "range"=none)(n:PA X [a] f)(u:starEach [a] X.env=[(false,eval a X.env)]:=by rfl):
  PE X (.Call (.Name "range" p) [a] [] pos) (fun d H Q=>f d H fun g c=>∃j:Int,g=[.int j]/\∀r,c r=none->Q (.ref r) (upd c r (.ag 0 j))):=by
 intro pins s d H Q I h;refine Call_ (Gn I l m boot_range (PyProof.Rows.callWith_type1 (Bl (n pos pins s d H _ I h) fun z i v=>v.elim fun g c k w x=>?_) u rfl));obtain⟨j,e,q⟩:=x;subst e;cases w with
 |cons r y=>
  cases y;obtain⟨t,rfl⟩:=r;exact call_range_1 ⟨.ref i.heap.objs.size,upd c i.heap.objs.size (.ag 0 j),k.laid (fun b o e=>Heap.get?_push_of_some _ e) (Nat.le_refl _) ⟨_,_,_,Heap.get?_push_size _ rfl⟩,rfl,q _ k.fresh⟩
inductive Ij(xs:List V)(H:Hp)(Q:VK):Prop
 |mk(r:Addr)(n:Nat)(a:xs=[.ref r])(b:H r=some (.ag 0 (n:Int)))(c:n<=1000)(d:∀l,H l=none->Q (.ref l) (upd H l (.lst ((List.range n).map fun(i:Nat)=>V.int (i:Int)))))
def Jl:List V->Hp->VK->Prop:=fun a H Q=>Ij a H Q
theorem Ld(o:X.calm=true):CW X (.type "list") Jl:=by
 intro pins s K H L M Q I r h;obtain⟨g,n,rfl,p,x,q⟩:=h;obtain⟨u,rfl,y⟩:=vals1 r;cases y;obtain⟨t,u,v,e⟩:=(show BJ X.prog X.w H s.heap g (.ag 0 (n:Int))from I.Bb g _ p);have f:X.A.handled=none:=I.ok.hd o;refine call_list_range (n:=n) f e (small_one (by lia) (by lia) (by lia) (by lia)) (by rw[rangeSize_one];split<;>lia) (by lia) fun B C b D E F j=>?_;have G:((List.range n).map fun(i:Nat)=>V.int (i:Int)).length<=sizeLine:=by rw[List.length_map,List.length_range];exact Ap x
 refine⟨.ref s.heap.objs.size,_,I.laid (t':=C) E (Nat.le_refl _) (show BJ X.prog X.w _ B _ (.lst _)from⟨G,b.toList,D,?_,by rw[Array.toArray_toList];exact F⟩),rfl,q _ I.fresh⟩;have gen:∀(n:Nat)(l:List Value),l.length=n->(∀(i:Nat) v,l[i]?=some v->∃t,v=Value.int (0+(i:Int)*1) t)->Vals ((List.range n).map fun(i:Nat)=>V.int (i:Int)) l:=by
  intro n
  induction n with
  |zero=>intro l c _;rw[List.eq_nil_of_length_eq_zero c];exact .nil
  |succ n J=>
   intro l c k;have a:l≠[]:=fun z=>by rw[z]at c;cases c
   have m:l=l.dropLast++[l.getLast a]:=(List.dropLast_concat_getLast a).symm;rw[List.range_succ,List.map_append,m];refine(J l.dropLast (by rw[List.length_dropLast,c];rfl) fun i v d=>?_).append (.cons ?_ .nil)
   ·refine k i v ?_;rw[m,List.getElem?_append_left ((uy d).1)];exact d
   ·have:l[n]?=some (l.getLast a):=by
     rw[List.getLast_eq_getElem];have:l.length-1=n:=by lia
     rw[ux (by lia)];congr 1;simp[this]
    obtain⟨t,e⟩:=k n _ this;exact⟨t,by rw[e];congr 1;lia⟩
 exact gen n b.toList (by rw[Array.length_toList];exact j.1) fun i v d=>j.2 i v (by rw[<-Array.getElem?_toList];exact d)
inductive Hq(xs:List V)(H:Hp)(Q:VK):Prop
 |mk(a kvs:_)(b:xs=[.ref a])(c:Rd H a (.dK kvs))(d:∀p,H p=none->Q (.ref p) (upd H p (.dK kvs)))
def Ik:List V->Hp->VK->Prop:=fun a H Q=>Hq a H Q
theorem Kr:CW X (.type "dict") Ik:=by
 intro pins s f H g i Q I r h;obtain⟨a,kvs,rfl,b,q⟩:=h;obtain⟨u,rfl,c⟩:=vals1 r;cases c;exact Vw I b fun p j d e=>⟨.ref p,_,e,rfl,q p d⟩
end
variable{xs ys:List Dc}{d e:Dc}
namespace Dc
mutual
noncomputable def deep:Dc->Nat
 |leaf _=>1
 |row _ xs=>1+ET xs
 |tab _ _ xs=>1+ET xs
noncomputable def ET:List Dc->Nat
 |[]=>0
 |x::r=>max (deep x) (ET r)
end
theorem PL(d:Dc):1<=d.deep:=by cases d<;>simp only[deep]<;>lia
theorem Dr:∀{xs:List Dc}{x:Dc},x∈xs->x.deep<=ET xs
 |[],_,h=>nomatch h
 |y::r,x,h=>by
  simp only[ET];rcases List.mem_cons.mp h with rfl|h
  ·lia
  ·have:=Dr h;lia
mutual
theorem Gb:∀d:Dc,d.deep<=d.size
 |leaf _=>Nat.le_refl _
 |row a xs=>by simp only[deep,size];have:=G_ xs;lia
 |tab a b xs=>by simp only[deep,size];have:=G_ xs;lia
theorem G_:∀xs:List Dc,ET xs<=AZ xs
 |[]=>Nat.le_refl _
 |x::r=>by simp only[ET,AZ];have:=Gb x;have:=G_ r;lia
end
mutual
noncomputable def parts:Dc->List Dc
 |leaf v=>[leaf v]
 |row a xs=>row a xs::Qw xs
 |tab a ks xs=>tab a ks xs::Qw xs
noncomputable def Qw:List Dc->List Dc
 |[]=>[]
 |x::r=>parts x++Qw r
end
structure CB(e d:Dc):Prop where
 at_:∀{H:Hp},d.At H->e.At H
 ok:d.ok->e.ok
 slim:d.slim->e.slim
 deep:e.deep<=d.deep
 size:e.size<=d.size
 addrs:∀a∈e.addrs,a∈d.addrs
theorem CB.refl(d:Dc):CB d d:=⟨id,id,id,Nat.le_refl _,Nat.le_refl _,fun _ h=>h⟩
theorem CB.trans{c:Dc}(p:CB e d)(q:CB d c):CB e c:=⟨fun h=>p.at_ (q.at_ h),fun h=>p.ok (q.ok h),fun h=>p.slim (q.slim h),Nat.le_trans p.deep q.deep,Nat.le_trans p.size q.size,fun a h=>q.addrs a (p.addrs a h)⟩
theorem CB.row{x:Dc}{a:Addr}{xs:List Dc}(h:x∈xs):CB x (row a xs):=
 ⟨fun q=>by simp only[At]at q;exact Ca q.2 x h,fun q=>by simp only[Dc.ok]at q;exact Bo.mp q x h,fun q=>by simp only[Dc.slim]at q;exact Dq q x h,
  by simp only[Dc.deep];have:=Dr h;lia,by simp only[Dc.size];have:=CQ h;lia,fun c b=>by simp only[Dc.addrs];exact List.mem_cons_of_mem _ (Gs h b)⟩
theorem CB.tab{x:Dc}{a:Addr}{ks:List Str}{xs:List Dc}(h:x∈xs):CB x (tab a ks xs):=
 ⟨fun q=>by simp only[At]at q;exact Ca q.2.2.2 x h,fun q=>by simp only[Dc.ok]at q;exact Bo.mp q.2 x h,fun q=>by simp only[Dc.slim]at q;exact Dq q.2 x h,
  by simp only[Dc.deep];have:=Dr h;lia,by simp only[Dc.size];have:=CQ h;lia,fun c b=>by simp only[Dc.addrs];exact List.mem_cons_of_mem _ (Gs h b)⟩
mutual
def Cb:Dc->Dc->Prop
 |leaf v,leaf w=>v=w
 |row _ xs,row _ ys=>BK xs ys
 |tab _ ks xs,tab _ ls ys=>ks=ls/\BK xs ys
 |_,_=>False
def BK:List Dc->List Dc->Prop
 |[],[]=>True
 |x::r,y::t=>Cb x y/\BK r t
 |_,_=>False
end
theorem Hr:∀{xs ys:List Dc},BK xs ys->xs.length=ys.length
 |[],[],_=>rfl
 |[],_::_,h=>by simp[BK]at h
 |_::_,[],h=>by simp[BK]at h
 |x::r,y::t,h=>by simp only[BK]at h;simp only[List.length_cons,Hr h.2]
theorem ML:∀{xs ys:List Dc},BK xs ys->∀(i:Nat) x,xs[i]?=some x->∃y,ys[i]?=some y/\Cb x y
 |[],_,_,i,x,e=>by simp at e
 |x::r,[],h,_,_,_=>by simp[BK]at h
 |x::r,y::t,h,0,z,e=>by simp only[BK]at h;simp at e;subst e;exact⟨y,rfl,h.1⟩
 |x::r,y::t,h,i+1,z,e=>by simp only[BK]at h;simp at e;obtain⟨w,a,b⟩:=ML h.2 i z e;exact⟨w,by simpa using a,b⟩
theorem Hs{a b:List Dc}:BK xs ys->BK a b->BK (xs++a) (ys++b):=by
 induction xs generalizing ys with
 |nil=>
  intro h c;cases ys with
  |nil=>exact c
  |cons y t=>simp[BK]at h
 |cons x r d=>
  intro h c;cases ys with
  |nil=>simp[BK]at h
  |cons y t=>
   simp only[BK,List.cons_append]at h⊢;exact⟨h.1,d h.2 c⟩
mutual
theorem MM:∀d:Dc,Cb d d
 |leaf _=>by simp[Cb]
 |row _ xs=>by simp only[Cb];exact G' xs
 |tab _ _ xs=>by simp only[Cb];exact⟨trivial,G' xs⟩
theorem G':∀xs:List Dc,BK xs xs
 |[]=>by simp[BK]
 |x::r=>by simp only[BK];exact⟨MM x,G' r⟩
end
mutual
theorem Jr:∀d e:Dc,Cb d e->d.ok->e.ok
 |leaf v,e=>fun h k=>by cases e<;>simp_all [Cb,ok]
 |row a xs,e=>fun h k=>by
  cases e with
  |row b ys=>simp only[Cb]at h;simp only[ok]at k⊢;exact Ks xs ys h k
  |_=>simp[Cb]at h
 |tab a ks xs,e=>fun h k=>by
  cases e with
  |tab b ls ys=>simp only[Cb]at h;simp only[ok]at k⊢;exact⟨h.1▸k.1,Ks xs ys h.2 k.2⟩
  |_=>simp[Cb]at h
theorem Ks:∀xs ys:List Dc,BK xs ys->Jj xs->Jj ys
 |[],[]=>fun _ _=>by simp[Jj]
 |[],_::_=>fun h _=>by simp[BK]at h
 |_::_,[]=>fun h _=>by simp[BK]at h
 |x::r,y::t=>fun h k=>by simp only[BK]at h;simp only[Jj]at k⊢;exact⟨Jr x y h.1 k.1,Ks r t h.2 k.2⟩
end
mutual
theorem Gd:∀d e:Dc,Cb d e->d.size=e.size
 |leaf v,e,h=>by cases e<;>simp_all [Cb,size]
 |row a xs,e,h=>by
  cases e with
  |row b ys=>simp only[Cb]at h;simp only[size,HA xs ys h]
  |_=>simp[Cb]at h
 |tab a ks xs,e,h=>by
  cases e with
  |tab b ls ys=>simp only[Cb]at h;simp only[size,HA xs ys h.2]
  |_=>simp[Cb]at h
theorem HA:∀xs ys:List Dc,BK xs ys->AZ xs=AZ ys
 |[],[],_=>rfl
 |[],_::_,h=>by simp[BK]at h
 |_::_,[],h=>by simp[BK]at h
 |x::r,y::t,h=>by simp only[BK]at h;simp only[AZ,Gd x y h.1,HA r t h.2]
end
theorem Qx(p:xs.Perm ys):AZ xs=AZ ys:=by
 induction p with
 |nil=>rfl
 |cons x _ a=>simp only[AZ,a]
 |swap x y l=>simp only[AZ];lia
 |trans _ _ b c=>exact b.trans c
def ZN:Dc->List V->Prop
 |leaf _,l=>l=[]
 |row _ xs,l=>l=(List.range xs.length).map fun(i:Nat)=>V.int (i:Int)
 |tab _ ks _,l=>∃ss:List Str,l=ss.map V.str/\ss.Perm ks/\sortedS ss=true
end Dc
structure Ef(H H':Hp)(d:Dc):Prop where
 same:AF H H'
 at_:d.At H'
 nd:d.addrs.Nodup
 own:∀a∈d.addrs,∀o u,H' a≠some (.DT o u)
 new:∀a∈d.addrs,H a=none
variable{H H2:Hp}
theorem Ef.up{b:Hp}(D:Ef H b d)(s:AF b H2):Ef H H2 d:=⟨D.same.trans s,Dc.Ab s D.at_,D.nd,fun a c=>Dp (Dc.there D.at_ c) (D.own a c) (s a),D.new⟩
variable{σ:St}
theorem ZO{c:TT}{g:TS}{D:Ends}(W:Nat->St->Hp->Prop)(h:Nat)(j:W h σ H)(k:∀m σ H,W m σ H->c σ H fun b d=>if b=true then g {D with nx:=fun a f=>∃e,e<m/\W e a f,ct:=fun a f=>∃e,e<m/\W e a f,bk:=D.nx} σ d else D.nx σ d)(mono:∀σ H Q i,(∀b d,Q b d->i b d)->c σ H Q->c σ H i):VZ c g D σ H:=by
 refine⟨W,⟨h,j⟩,fun m σ H p=>?_⟩;refine mono σ H _ _ (fun b d q=>?_) (k m σ H p);cases b with
 |true=>exact⟨_,fun a f z=>z,q⟩
 |false=>exact q
inductive ZP(n:Nat)(a:List V)(H:Hp)(Q:VK)(b:XK):Prop
 |mk(d:Dc)(c:a=[d.val])(e:d.At H)(f:d.deep<=n)(g:d.size<=900)(h:∀(d':Dc) (H':Hp),Ef H H' d'->Dc.Cb d d'->Q d'.val H')
def NQ(n:Nat):Sp:=fun b H Q a=>ZP n b H Q a
inductive WW(a:List V)(H:Hp)(Q:VK)(b:XK):Prop
 |mk(d:Dc)(c:a=[d.val])(e:d.At H)(f:d.slim)(g:d.size<=900)(h:∀(p:Addr) (l:List V) (H':Hp),AF H H'->H p=none->H' p=some (.lst l)->d.ZN l->Q (.ref p) H')
def Sq:Sp:=fun b H Q a=>WW b H Q a
def back(a:Addr)(H H':Hp):Hp:=fun b=>if b=a then H a else H' b
variable{a:Addr}{H':Hp}
theorem Sr{b:Addr}(h:b≠a):back a H H' b=H' b:=if_neg h
theorem ZQ:back a H H' a=H a:=if_pos rfl
theorem WX{u:HO}(e:H a=some u):back a H H'=upd H' a u:=by
 funext b;unfold back upd;split
 ·exact e
 ·rfl
theorem UN(e:H a=H' a):back a H H'=H':=by
 funext b;unfold back;split
 ·rename_i h;rw[h,e]
 ·rfl
structure WY(a:Addr)(o:Obj)(kvs:List (Key×V))(H Hf:Hp):Prop where
 at_:Hf a=some (.DT o (.dK kvs))
 rd:F' H Hf
 ne:∀b,b≠a->Hf b=H b
 uK:Rd H a (.dK kvs)
variable{o:Obj}
theorem WY.free{b:Addr}{kvs:List (Key×V)}{c:Hp}(F:WY a o kvs H c)(h:c b=none):H b=none/\b≠a:=by
 have d:b≠a:=fun z=>by rw[z,F.at_]at h;cases h
 rw[F.ne b d]at h;exact⟨h,d⟩
theorem WY.back{kvs:List (Key×V)}{d f:Hp}(F:WY a o kvs H d)(s:AF d f):AF H (back a H f):=fun b u e=>by
 by_cases c:b=a
 ·subst c;rw[ZQ];exact e
 ·rw[Sr c];exact s b u (by rw[F.ne b c];exact e)
inductive ZR(t:TE)(σ:St)(H:Hp)(Q:VK):Prop
 |mk(a kvs:_)(c:Rd H a (.dK kvs))(d:∀o b,WY a o kvs H b->t σ b fun v H'=>H' a=some (.DT o (.dK kvs))/\Q v (back a H H'))
def cv(t:TE):TE:=fun a H Q=>ZR t a H Q
theorem WY.of{kvs:List (Key×V)}(e:H a=some (.dK kvs)):WY a o kvs H (upd H a (.DT o (.dK kvs))):=⟨AB,F'.DT e,fun b c=>AN c,.inl e⟩
theorem WY.same{kvs:List (Key×V)}(e:H a=some (.DT o (.dK kvs))):WY a o kvs H H:=⟨e,fun _ _ r=>r,fun _ _=>rfl,.inr ⟨o,e⟩⟩
section
variable{X:Cx}
theorem ZS{e:Expr}{t:TE}(h:PE X e t):PE X e (cv t):=by
 rintro pins s c H Q I ⟨a,kvs,r,d⟩;rcases r with r|⟨o,r⟩
 ·refine ck h pins s c H Q I ⟨a,kvs,r,fun o=>?_⟩;have:=d o _ (WY.of r);have e:(fun v b=>b a=some (.DT o (.dK kvs))/\Q v (back a H b))=fun v=>cg a o kvs (Q v):=by
   funext v b;unfold cg;rw[WX r]
  rw[e]at this;exact this
 ·refine Bl (h pins s c H _ I (d o H (WY.same r))) fun u l ⟨v,g,i,j,k,f⟩=>⟨v,g,i,j,?_⟩;rw[UN (r.trans k.symm)]at f;exact f
end
variable{Q:VK}
theorem Js{J:It}{o:TE}{fs:List Nat}(n:Nat)(item:Nat->V)(P:Addr->Nat->Hp->Prop)(r:∀D,H D=none->P D 0 (upd H D (.lst [])))(h:∀D i H2,i<n->P D i H2->J.go i H2)(s:∀D i H2 v H',i<n->P D i H2->J.Vb i H2 v H'->v=item i/\H'=H2)(j:∀D H2,P D n H2->J.stop n H2)(t:∀D i H2,H D=none->i<n->P D i H2->o (some (item i)::Cf σ fs) H2 fun y d=>∃ys,d D=some (.lst ys)/\ys.length<sizeLine/\P D (i+1) (upd d D (.lst (ys++[y]))))(u:∀D H2,H D=none->P D n H2->Q (.ref D) H2):Ig J UC o fs σ H Q:=by
 intro D k;refine⟨fun i m H2=>m=n-i/\i<=n/\P D i H2,⟨n,rfl,Nat.zero_le _,r D k⟩,?_⟩;rintro i m H2 ⟨rfl,w,p⟩;by_cases f:i<n
 ·refine .inr ⟨h D i H2 f p,fun v q y=>?_⟩;obtain⟨rfl,rfl⟩:=s D i H2 v q f p y;unfold UC;dsimp only;rw[if_pos rfl];have g:=t D i q k f p;have e:(fun(y:V)(d:Hp)=>∃ys,d D=some (.lst ys)/\ys.length<sizeLine/\∃l,l<n-i/\l=n-(i+1)/\i+1<=n/\P D (i+1) (upd d D (.lst (ys++[y]))))=fun y d=>∃ys,d D=some (.lst ys)/\ys.length<sizeLine/\P D (i+1) (upd d D (.lst (ys++[y]))):=by
   funext y d;refine propext ⟨fun⟨ys,a,b,l,_,_,_,c⟩=>⟨ys,a,b,c⟩,fun⟨ys,a,b,c⟩=>⟨ys,a,b,n-(i+1),by lia,rfl,f,c⟩⟩
  rw[<-e]at g;exact g
 ·have e:i=n:=by lia
  subst e;exact .inl ⟨j D H2 p,u D H2 k p⟩
structure CS(H H':Hp)(es:List Dc):Prop where
 same:AF H H'
 at_:Dc.DP H' es
 nd:(Dc.AJ es).Nodup
 own:∀a∈Dc.AJ es,∀o u,H' a≠some (.DT o u)
 new:∀a∈Dc.AJ es,H a=none
theorem CS.nil{H H':Hp}(s:AF H H'):CS H H' []:=⟨s,trivial,.nil,fun a h=>(nomatch h),fun a h=>(nomatch h)⟩
variable{c:List Dc}
theorem Dc.NR{b:Addr}(h:Dc.DP H c)(a:b∈Dc.AJ c):H b≠none:=by
 induction c with
 |nil=>cases a
 |cons x r d=>
  simp only[Dc.DP]at h;simp only[Dc.AJ,List.mem_append]at a;rcases a with a|a
  ·exact Dc.there h.1 a
  ·exact d h.2 a
theorem CS.frame{d:Hp}{b:List Dc}(F:CS H d b)(s:AF H H2)(f:∀a∈Dc.AJ b,∀o,d a=some o->H2 a=some o):CS H H2 b:=
 ⟨s,Dc.Bg b f F.at_,F.nd,fun a c=>Dp (Dc.NR F.at_ c) (F.own a c) (f a c),F.new⟩
theorem CS.up{b:Hp}(F:CS H b c)(s:AF b H2):CS H H2 c:=F.frame (F.same.trans s) fun a _=>s a
theorem CS.snoc{j:Hp}{g:List Dc}(F:CS H H2 g)(f:Ef H2 j d):CS H j (g++[d]):=by
 have h:=F.up f.same;have i:Dc.AJ (g++[d])=Dc.AJ g++d.addrs:=by rw[Dc.AY];simp[Dc.AJ]
 refine⟨h.same,(Dc.Bt _ _).mpr ⟨h.at_,by simp only[Dc.DP];exact⟨f.at_,trivial⟩⟩,?_,fun a c=>?_,fun a c=>?_⟩
 ·rw[i];refine List.nodup_append.mpr ⟨F.nd,f.nd,fun a c b k e=>?_⟩;subst e;exact Dc.NR F.at_ c (f.new a k)
 ·rw[i]at c;rcases List.mem_append.mp c with c|c
  ·exact h.own a c
  ·exact f.own a c
 ·rw[i]at c;rcases List.mem_append.mp c with c|c
  ·exact F.new a c
  ·exact F.same.free (f.new a c)
theorem CS.row{H H':Hp}{c:List Dc}{D:Addr}(F:CS H H' c)(d:H D=none)(f:D∉Dc.AJ c)(e:H' D=some (.lst (c.map Dc.val))):Ef H H' (.row D c):=by
 refine⟨F.same,by simp only[Dc.At];exact⟨.inl e,F.at_⟩,?_,fun a b=>?_,fun a b=>?_⟩
 ·simp only[Dc.addrs];exact List.nodup_cons.mpr ⟨f,F.nd⟩
 ·simp only[Dc.addrs,List.mem_cons]at b;rcases b with rfl|b
  ·intro o u z;rw[e]at z;cases z
  ·exact F.own a b
 ·simp only[Dc.addrs,List.mem_cons]at b;rcases b with rfl|b
  ·exact d
  ·exact F.new a b
theorem CS.tab{H H':Hp}{c:List Dc}{ks:List Str}{D:Addr}(F:CS H H' c)(d:H D=none)(f:D∉Dc.AJ c)(l:ks.length=c.length)(g:ks.Nodup)(e:H' D=some (.dK (Dc.kvs ks c))):Ef H H' (.tab D ks c):=by
 refine⟨F.same,by simp only[Dc.At];exact⟨.inl e,l,g,F.at_⟩,?_,fun a b=>?_,fun a b=>?_⟩
 ·simp only[Dc.addrs];exact List.nodup_cons.mpr ⟨f,F.nd⟩
 ·simp only[Dc.addrs,List.mem_cons]at b;rcases b with rfl|b
  ·intro o u z;rw[e]at z;cases z
  ·exact F.own a b
 ·simp only[Dc.addrs,List.mem_cons]at b;rcases b with rfl|b
  ·exact d
  ·exact F.new a b
theorem Ht:∀(more kvs:List (Key×V)),((kvs++more).map (·.1)).Nodup->EG kvs more=kvs++more
 |[],kvs,_=>by simp[EG]
 |p::r,kvs,h=>by
  have a:Cw kvs p.1=none:=by
   cases e:Cw kvs p.1 with
   |none=>rfl
   |some v=>
    have:=Y' e;rw[List.map_append,List.map_cons]at h;obtain⟨_,_,b⟩:=List.nodup_append.mp h;exact absurd rfl (b p.1 this p.1 List.mem_cons_self)
  show EG (putK kvs p.1 p.2) r=_;rw[Oh p.2 a,Ht r (kvs++[(p.1,p.2)]) (by simpa using h)];simp
variable{ks:List Str}{i:Nat}
namespace Dc
theorem Il{nm:Str}{x:Dc}:∀(ks:List Str)(xs:List Dc)(i:Nat),ks.Nodup->ks[i]?=some nm->xs[i]?=some x->(ks.zip xs).lookup nm=some x
 |[],_,_=>fun _ h _=>by simp at h
 |y::r,[],_=>fun _ _ h=>by simp at h
 |y::r,z::t,0=>fun _ b c=>by simp at b c;subst b c;simp
 |y::r,z::t,i+1=>fun d b c=>by
  obtain⟨e,f⟩:=List.nodup_cons.mp d;have a:r[i]?=some nm:=by simpa using b
  have g:nm≠y:=fun z=>e (z▸u_ a);have:(nm==y)=false:=by simpa using g
  simp only[List.zip_cons_cons,List.lookup_cons,this];exact Il r t i f a (by simpa using c)
theorem Jt(h:ks.length=xs.length):(kvs ks xs).length=xs.length:=by
 have:=congrArg List.length (EA (ks:=ks) (xs:=xs) h);rw[List.length_map,List.length_map]at this;rw[this,h]
theorem Qy(h:ks.length=xs.length)(f:ks.Nodup){k:Key}{v:V}(e:(kvs ks xs)[i]?=some (k,v)):
  ∃nm x,ks[i]?=some nm/\xs[i]?=some x/\k=Sum.inr nm/\v=x.val/\(ks.zip xs).lookup nm=some x/\Cw (kvs ks xs) (Sum.inr nm)=some x.val:=by
 have d:i<xs.length:=by rw[<-Jt h];exact(uy e).1
 obtain⟨x,c⟩:∃x,xs[i]?=some x:=⟨_,ux d⟩;obtain⟨nm,a⟩:∃nm,ks[i]?=some nm:=⟨_,ux (by rw[h];exact d)⟩;have lk:=Il ks xs i f a c;have b:=e;unfold kvs at b;rw[List.getElem?_map]at b;have g:(ks.zip (xs.map val))[i]?=some (nm,x.val):=by
  rw[List.getElem?_zip_eq_some];exact⟨a,by rw[List.getElem?_map,c];rfl⟩
 rw[g]at b;have b:=uz b;exact⟨nm,x,a,c,(congrArg Prod.fst b).symm,(congrArg Prod.snd b).symm,lk,by rw[FE h,lk];rfl⟩
end Dc
def GA(H b:Hp)(c:V):Dc->Prop
 | .leaf v=>c=v/\Dc.Lf v
 | .row _ xs=>∃a,c=.ref a/\b a=some (.lst (xs.map Dc.val))/\H a=none
 | .tab _ ks xs=>∃a,c=.ref a/\b a=some (.dK (Dc.kvs ks xs))/\H a=none
def rootOf(p:V×Dc):Option Addr:=match p.1 with
 | .ref a=>some a
 |_=>none
abbrev roots(ps:List (V×Dc)):List Addr:=ps.filterMap rootOf
variable{ps:List (V×Dc)}
theorem Bp{c:Addr}:c∈roots ps↔∃p∈ps,p.1=.ref c:=by
 rw[List.mem_filterMap];constructor
 ·rintro⟨p,b,e⟩;refine⟨p,b,?_⟩;unfold rootOf at e;split at e
  ·rename_i a h;cases e;exact h
  ·cases e
 ·rintro⟨p,b,e⟩;exact⟨p,b,by unfold rootOf;rw[e]⟩
theorem BX(ps a:List (V×Dc)):roots (ps++a)=roots ps++roots a:=List.filterMap_append ..
def Bj:List (V×Dc)->List Dc->Prop
 |[],[]=>True
 |p::ps,e::a=>e.val=p.1/\Dc.Cb p.2 e/\Bj ps a
 |_,_=>False
theorem Bj.split:∀{ps a:List (V×Dc)}{b:List Dc},Bj (ps++a) b->∃c ec,b=c++ec/\Bj ps c/\Bj a ec
 |[],a,b,h=>⟨[],b,rfl,trivial,h⟩
 |p::ps,a,[],h=>by simp[Bj]at h
 |p::ps,a,e::b,h=>by
  simp only[List.cons_append,Bj]at h;obtain⟨c,ec,rfl,d,f⟩:=Bj.split h.2.2;exact⟨e::c,ec,rfl,by simp only[Bj];exact⟨h.1,h.2.1,d⟩,f⟩
theorem Bj.app:∀{ps a:List (V×Dc)}{b ec:List Dc},Bj ps b->Bj a ec->Bj (ps++a) (b++ec)
 |[],a,[],ec=>fun _ h=>h
 |[],_,_::_,_=>fun h _=>by simp[Bj]at h
 |_::_,_,[],_=>fun h _=>by simp[Bj]at h
 |p::ps,a,e::b,ec=>fun h h'=>by
  simp only[Bj,List.cons_append]at h⊢;exact⟨h.1,h.2.1,Bj.app h.2.2 h'⟩
theorem Bj.vals:∀{ps:List (V×Dc)}{a:List Dc},Bj ps a->a.map Dc.val=ps.map (·.1)
 |[],[],_=>rfl
 |[],_::_,h=>by simp[Bj]at h
 |_::_,[],h=>by simp[Bj]at h
 |p::ps,e::a,h=>by
  simp only[Bj]at h;simp only[List.map_cons,h.1,Bj.vals h.2.2]
theorem Bj.WZ:∀{ps:List (V×Dc)}{a:List Dc},Bj ps a->Dc.BK (ps.map (·.2)) a
 |[],[],_=>by simp[Dc.BK]
 |[],_::_,h=>by simp[Bj]at h
 |_::_,[],h=>by simp[Bj]at h
 |p::ps,e::a,h=>by
  simp only[Bj]at h;simp only[List.map_cons,Dc.BK];exact⟨h.2.1,Bj.WZ h.2.2⟩
structure FG(H Hi:Hp)(L:Addr)(tv:V)(d:Dc)(ps:List (V×Dc)):Prop where
 same:AF H Hi
 nL:H L=none
 eL:Hi L=some (.lst (ps.map (·.1)))
 out:∀p∈ps,GA H Hi p.1 p.2
 src:∀p∈ps,p.2.At H/\p.2.slim
 nd:(roots ps).Nodup
 UO:L∉roots ps
 cw:∀(es:List Dc)(H':Hp),Bj ps es->CS H H' es->(∀c∈Dc.AJ es,Hi c=none∨c∈roots ps)->(∀b o,b≠L->b∉roots ps->Hi b=some o->H' b=some o)->∃e:Dc,e.val=tv/\Dc.Cb d e/\Ef H H' e
theorem GA.root{f:Hp}{p:V×Dc}{c:Addr}(o:GA H f p.1 p.2)(e:p.1=.ref c):f c≠none/\H c=none/\∀ob u,f c≠some (.DT ob u):=by
 obtain⟨v,d⟩:=p;simp only at e;subst e;cases d with
 |leaf v=>
  obtain⟨rfl,h⟩:=(show V.ref c=v/\Dc.Lf v from o);rcases h with⟨i,h⟩|⟨x,h,_⟩<;>cases h
 |row b j=>
  obtain⟨a,e,g,k⟩:=(show∃a,V.ref c=.ref a/\f a=some (.lst (j.map Dc.val))/\H a=none from o);cases e;exact⟨by rw[g];simp,k,fun ob u z=>by rw[g]at z;cases z⟩
 |tab b l j=>
  obtain⟨a,e,g,k⟩:=(show∃a,V.ref c=.ref a/\f a=some (.dK (Dc.kvs l j))/\H a=none from o);cases e;exact⟨by rw[g];simp,k,fun ob u z=>by rw[g]at z;cases z⟩
theorem GA.up{h:Hp}{c:V}(o:GA H h c d)(k:∀a,c=.ref a->∀u,h a=some u->H2 a=some u):GA H H2 c d:=by
 cases d with
 |leaf v=>exact o
 |row b i=>obtain⟨a,e,f,g⟩:=o;exact⟨a,e,k a e _ f,g⟩
 |tab b j i=>obtain⟨a,e,f,g⟩:=o;exact⟨a,e,k a e _ f,g⟩
variable{L:Addr}
theorem FG.step{s:Hp}{Q:V}{node:Dc}(C:FG H s L Q d (ps++[(.ref a,node)]))(j:List (V×Dc))(keep:∀b o,b≠a->b≠L->s b=some o->H2 b=some o)(eL:H2 L=some (.lst ((ps++j).map (·.1))))(out:∀p∈j,GA H H2 p.1 p.2)(src:∀p∈j,p.2.At H/\p.2.slim)(Y:(roots j).Nodup)(t:∀c∈roots j,s c=none)(m:H2 a≠none)(own:∀ob u,H2 a≠some (.DT ob u))(build:∀(ec:List Dc) (H':Hp),Bj j ec->Dc.DP H' ec->H' a=H2 a->∃e:Dc,e.val=.ref a/\Dc.Cb node e/\e.At H'/\e.addrs.Perm (a::Dc.AJ ec)):FG H H2 L Q d (ps++j):=by
 have D:roots (ps++[(V.ref a,node)])=roots ps++[a]:=by rw[BX];rfl
 have nd:=C.nd;rw[D]at nd;obtain⟨F,_,G⟩:=List.nodup_append.mp nd;have UO:=C.UO;rw[D]at UO;have Z:a≠L:=fun z=>UO (by rw[<-z];simp);have v:a∉roots ps:=fun z=>G a z a (by simp) rfl;have I:=(C.out (.ref a,node) (by simp)).root rfl;have R:∀c∈roots ps,c≠a/\c≠L/\s c≠none:=fun c f=>by
  obtain⟨p,g,e⟩:=Bp.mp f;refine⟨fun z=>v (by rw[<-z];exact f),fun z=>UO (by rw[<-z];simp[f]),?_⟩;exact((C.out p (by simp[g])).root e).1
 refine⟨fun b o e=>?_,C.nL,eL,fun p g=>?_,fun p g=>?_,?_,?_,fun es H' dn A z S=>?_⟩
 ·exact keep b o (Am e I.2.1) (Am e C.nL) (C.same b o e)
 ·rcases List.mem_append.mp g with g|g
  ·refine(C.out p (by simp[g])).up fun c e u h=>?_;have:=R c (Bp.mpr ⟨p,g,e⟩);exact keep c u this.1 this.2.1 h
  ·exact out p g
 ·rcases List.mem_append.mp g with g|g
  ·exact C.src p (by simp[g])
  ·exact src p g
 ·rw[BX];refine List.nodup_append.mpr ⟨F,Y,fun x E y n e=>?_⟩;subst e;exact(R x E).2.2 (t x n)
 ·rw[BX];intro h;rcases List.mem_append.mp h with h|h
  ·exact UO (by simp[h])
  ·have:=t L h;rw[C.eL]at this;cases this
 ·obtain⟨k,ec,rfl,d1,d2⟩:=dn.split;have T:a∉roots (ps++j):=by
   rw[BX];intro h;rcases List.mem_append.mp h with h|h
   ·exact v h
   ·exact I.1 (t a h)
  have B:H' a=H2 a:=by
   cases e:H2 a with
   |none=>exact absurd e m
   |some o=>exact S a o Z T e
  obtain⟨Cy,at2⟩:=(Dc.Bt _ _).mp A.at_;obtain⟨e,ev,el,ea,U⟩:=build ec H' d2 at2 B;have i:a∉Dc.AJ (k++ec):=fun h=>by
   rcases z a h with h|h
   ·exact m h
   ·exact T h
  have l:Dc.AJ (k++[e])=Dc.AJ k++e.addrs:=by rw[Dc.AY];simp[Dc.AJ]
  have r:∀c,c∈Dc.AJ (k++[e])->c=a∨c∈Dc.AJ (k++ec):=fun c f=>by
   rw[l]at f;rw[Dc.AY];rcases List.mem_append.mp f with f|f
   ·exact .inr (List.mem_append_left _ f)
   ·rcases List.mem_cons.mp (U.mem_iff.mp f)with f|f
    ·exact .inl f
    ·exact .inr (List.mem_append_right _ f)
  have J:CS H H' (k++[e]):=by
   refine⟨A.same,(Dc.Bt _ _).mpr ⟨Cy,by simp only[Dc.DP];exact⟨ea,trivial⟩⟩,?_,fun c f=>?_,fun c f=>?_⟩
   ·have W:=A.nd;rw[Dc.AY]at W i;have:(Dc.AJ k++(a::Dc.AJ ec)).Nodup:=by
     obtain⟨x1,x2,x3⟩:=List.nodup_append.mp W;refine List.nodup_append.mpr ⟨x1,List.nodup_cons.mpr ⟨fun h=>i (List.mem_append_right _ h),x2⟩,fun x E y n K=>?_⟩;subst K;rcases List.mem_cons.mp n with n|n
     ·exact i (List.mem_append_left _ (by rw[<-n];exact E))
     ·exact x3 x E x n rfl
    rw[l];exact((List.Perm.append_left _ U).nodup_iff).mpr this
   ·rcases r c f with rfl|f
    ·intro ob u h;rw[B]at h;exact own ob u h
    ·exact A.own c f
   ·rcases r c f with rfl|f
    ·exact I.2.1
    ·exact A.new c f
  refine C.cw (k++[e]) H' (d1.app (by simp only[Bj];exact⟨ev,el,trivial⟩)) J (fun c f=>?_) (fun b o X M h=>?_)
  ·rw[D];rcases r c f with rfl|f
   ·exact .inr (by simp)
   ·rcases z c f with h|h
    ·left
     cases q:s c with
     |none=>rfl
     |some o=>
      have N:c≠a:=fun w=>m (by rw[<-w];exact h);have O:c≠L:=fun w=>by rw[w,eL]at h;cases h
      rw[keep c o N O q]at h;cases h
    ·rw[BX]at h;rcases List.mem_append.mp h with h|h
     ·exact .inr (by simp[h])
     ·exact .inl (t c h)
  ·rw[D]at M;have P:b≠a:=fun w=>M (by simp[w]);refine S b o X ?_ (keep b o P X h);rw[BX];intro w;rcases List.mem_append.mp w with w|w
   ·exact M (by simp[w])
   ·rw[t b w]at h;cases h
theorem FG.start{i:Hp}{b:V}(s:AF H i)(l:H L=none)(m:i L=some (.lst [b]))(o:GA H i b d)(h:d.At H)(n:d.slim)(ne:b≠.ref L):FG H i L b d [(b,d)]:=by
 refine⟨s,l,m,fun p c=>by rw[List.mem_singleton.mp c];exact o,fun p c=>by rw[List.mem_singleton.mp c];exact⟨h,n⟩,?_,?_,fun q u f g z v=>?_⟩
 ·cases b<;>first|exact List.nodup_nil|exact List.nodup_cons.mpr ⟨(fun h=>nomatch h),List.nodup_nil⟩
 ·intro t;obtain⟨p,c,e⟩:=Bp.mp t;rw[List.mem_singleton.mp c]at e;exact ne e
 ·cases q with
  |nil=>simp[Bj]at f
  |cons e r=>
   cases r with
   |cons _ _=>simp[Bj]at f
   |nil=>
    simp only[Bj]at f;have j:Dc.AJ [e]=e.addrs:=by simp[Dc.AJ]
    have fa:=g.at_;simp only[Dc.DP]at fa;have fn:=g.nd;rw[j]at fn;exact⟨e,f.1,f.2.1,g.same,fa.1,fn,fun a k=>g.own a (by rw[j];exact k),fun a k=>g.new a (by rw[j];exact k)⟩
theorem FG.done{a:Hp}{f:V}(C:FG H a L f d []):∃e:Dc,e.val=f/\Dc.Cb d e/\Ef H a e:=
 C.cw [] a trivial (.nil C.same) (fun c g=>(nomatch g)) fun b o _ _ h=>h
theorem FG.leaf{H j H2:Hp}{L:Addr}{d:Dc}{n v:V}{ps:List (V×Dc)}(C:FG H j L n d (ps++[(v,.leaf v)]))(keep:∀b o,b≠L->j b=some o->H2 b=some o)(r:H2 L=some (.lst (ps.map (·.1)))):FG H H2 L n d ps:=by
 have s:Dc.Lf v:=(show v=v/\Dc.Lf v from C.out (v,.leaf v) (by simp)).2;have k:roots (ps++[(v,Dc.leaf v)])=roots ps:=by
  rw[BX];rcases s with⟨i,rfl⟩|⟨x,rfl,_⟩<;>simp[roots,rootOf]
 have nd:=C.nd;have UO:=C.UO;rw[k]at nd UO;refine⟨fun b o e=>keep b o (Am e C.nL) (C.same b o e),C.nL,r,fun p f=>?_,fun p f=>C.src p (by simp[f]),nd,UO,fun l B D a z E=>?_⟩
 ·refine(C.out p (by simp[f])).up fun c e u h=>keep c u (fun w=>UO ?_) h;rw[<-w];exact Bp.mpr ⟨p,f,e⟩
 ·have g:Dc.AJ (l++[.leaf v])=Dc.AJ l:=by rw[Dc.AY];simp[Dc.AJ,Dc.addrs]
  refine C.cw (l++[.leaf v]) B (D.app (by simp[Bj,Dc.val,Dc.Cb])) ⟨a.same,(Dc.Bt _ _).mpr ⟨a.at_,by simp only[Dc.DP,Dc.At];exact⟨s,trivial⟩⟩,by rw[g];exact a.nd,by rw[g];exact a.own,by rw[g];exact a.new⟩ (fun c t=>?_) (fun b o y A h=>?_)
  ·rw[g]at t;rw[k];rcases z c t with h|h
   ·left
    cases q:j c with
    |none=>rfl
    |some o=>
     have m:c≠L:=fun w=>by rw[w,r]at h;cases h
     rw[keep c o m q]at h;cases h
   ·exact .inr h
  ·rw[k]at A;exact E b o y A (keep b o y h)
def Im(H:Hp)(Q:VK):Dc->Prop
 | .leaf v=>Q v H
 | .row _ xs=>∀p,H p=none->Q (.ref p) (upd H p (.lst (xs.map Dc.val)))
 | .tab _ ks xs=>∀p,H p=none->Q (.ref p) (upd H p (.dK (Dc.kvs ks xs)))
inductive Wa(a:List V)(H:Hp)(Q:VK)(b:XK):Prop
 |mk(d:Dc)(c:a=[d.val])(e:d.At H)(f:Im H Q d)
def Ss:Sp:=fun b H Q a=>Wa b H Q a
inductive UP(a:List V)(H:Hp)(Q:VK)(b:XK):Prop
 |mk(d:Dc)(c:a=[d.val])(e:d.At H)(f:d.slim)(g:d.size<=900)(h:∀(d':Dc) (H':Hp),Ef H H' d'->Dc.Cb d d'->Q d'.val H')
def PM:Sp:=fun b H Q a=>UP b H Q a
theorem Im.of{j:Hp}(s:AF j H)(h:d.At H)(k:∀f g,AF H g->GA j g f d->(∀a,f=.ref a->H a=none)->Q f g):Im H Q d:=by
 cases d with
 |leaf v=>
  refine k v H (AF.refl H) ⟨rfl,h⟩ fun a e=>?_;rcases(show Dc.Lf v from h)with⟨i,rfl⟩|⟨x,rfl,_⟩<;>cases e
 |row b l=>exact fun p c=>k _ _ (AF.new c) ⟨p,rfl,AB,s.free c⟩ fun a e=>by cases e;exact c
 |tab b m l=>exact fun p c=>k _ _ (AF.new c) ⟨p,rfl,AB,s.free c⟩ fun a e=>by cases e;exact c
def Eo(ks:List Str)(a:List V):List (Key×V):=(ks.zip a).map fun p=>(Sum.inr p.1,p.2)
theorem Wb(ks:List Str)(xs:List Dc):Dc.kvs ks xs=Eo ks (xs.map Dc.val):=rfl
theorem Wc{a:List V}(h:ks.length=a.length):(Eo ks a).length=ks.length:=by
 unfold Eo;rw[List.length_map,List.length_zip];lia
theorem Kt:∀{ks:List Str}{a:List V}{j:Nat}{k:Str},ks.length=a.length->ks.Nodup->ks[j]?=some k->Cw (Eo ks a) (Sum.inr k)=a[j]?
 |[],_,_,_=>fun _ _ h=>by simp at h
 |y::r,[],_,_=>fun h _ _=>by simp at h
 |y::r,v::a,0,k=>fun _ _ h=>by
  simp at h;subst h;exact Fu rfl
 |y::r,v::a,j+1,k=>fun c d h=>by
  obtain⟨e,f⟩:=List.nodup_cons.mp d;have b:r[j]?=some k:=by simpa using h
  have g:¬(Sum.inr y:Key)=Sum.inr k:=fun z=>e (by rw[Sum.inr.inj z];exact u_ b);show Cw ((Sum.inr y,v)::Eo r a) (Sum.inr k)=_;rw[Fw g,Kt (by simpa using c) f b];simp
theorem Wd{a:List V}{j:Nat}{k:Str}(d:ks.length=a.length)(e:ks.Nodup)(h:ks[j]?=some k)(c:V):putK (Eo ks a) (Sum.inr k) c=Eo ks (a.set j c):=by
 have i:j<a.length:=by rw[<-d];exact(uy h).1
 have l:Cw (Eo ks a) (Sum.inr k)=some a[j]:=by rw[Kt d e h,ux i]
 unfold putK;rw[if_pos (by rw[E_,l];rfl)];have gen:∀(ks:List Str)(a:List V)(j:Nat),ks.length=a.length->ks.Nodup->ks[j]?=some k->(Eo ks a).map (fun b=>if b.1=Sum.inr k then(b.1,c)else b)=Eo ks (a.set j c):=by
  intro ks
  induction ks with
  |nil=>intro a j _ _ h;simp at h
  |cons y r m=>
   intro a j d e h;cases a with
   |nil=>simp at d
   |cons v a=>
    obtain⟨f,n⟩:=List.nodup_cons.mp e;cases j with
    |zero=>
     simp at h;subst h;have o:(Eo r a).map (fun b=>if b.1=Sum.inr y then(b.1,c)else b)=Eo r a:=by
      have:∀p∈Eo r a,(fun b:Key×V=>if b.1=Sum.inr y then(b.1,c)else b) p=id p:=fun p s=>by
       obtain⟨q,t,rfl⟩:=List.mem_map.mp s;have u:q.1∈r:=(List.of_mem_zip t).1;exact if_neg fun z=>f (by rw[<-Sum.inr.inj z];exact u)
      rw[List.map_congr_left this,List.map_id]
     show(if(Sum.inr y:Key)=Sum.inr y then(Sum.inr y,c)else(Sum.inr y,v))::(Eo r a).map _=(Sum.inr y,c)::Eo r a;rw[if_pos rfl,o]
    |succ j=>
     have g:r[j]?=some k:=by simpa using h
     have w:¬(Sum.inr y:Key)=Sum.inr k:=fun z=>f (by rw[Sum.inr.inj z];exact u_ g);show(if(Sum.inr y:Key)=Sum.inr k then(Sum.inr y,c)else(Sum.inr y,v))::(Eo r a).map _=(Sum.inr y,v)::Eo r (a.set j c);rw[if_neg w,m a j (by simpa using d) n g]
 exact gen ks a j d e h
theorem reorder{ss:List Str}{ec:List Dc}(p:ss.Perm ks)(q:ss.Nodup)(l:ec.length=ss.length):∃a:List Dc,a.Perm ec/\a.length=ks.length/\∀(j t:Nat) k,ks[j]?=some k->ss[t]?=some k->a[j]?=ec[t]?:=by
 have c:∀k∈ks,∃x,(ss.zip ec).lookup k=some x:=fun k s=>let⟨x,h,_⟩:=Dc.C_ l.symm (p.mem_iff.mpr s);⟨x,h⟩;have gen:∀ks:List Str,(∀k∈ks,∃x,(ss.zip ec).lookup k=some x)->∃a:List Dc,a.map some=ks.map fun k=>(ss.zip ec).lookup k:=by
  intro ks
  induction ks with
  |nil=>exact fun _=>⟨[],rfl⟩
  |cons k r u=>
   intro h;obtain⟨x,v⟩:=h k List.mem_cons_self;obtain⟨a,d⟩:=u fun w e=>h w (List.mem_cons_of_mem _ e);exact⟨x::a,by simp[d,v]⟩
 obtain⟨a,f⟩:=gen ks c;have b:ec.map some=ss.map fun k=>(ss.zip ec).lookup k:=by
  refine List.ext_getElem? fun i=>?_;rw[List.getElem?_map,List.getElem?_map];cases g:ss[i]? with
  |none=>
   have:ec[i]?=none:=List.getElem?_eq_none_iff.mpr (by rw[l];exact List.getElem?_eq_none_iff.mp g);rw[this];rfl
  |some k=>
   have m:i<ec.length:=by rw[l];exact(uy g).1
   rw[ux m];show some (some ec[i])=some ((ss.zip ec).lookup k);rw[Dc.Il ss ec i q g (ux m)]
 refine⟨a,?_,?_,fun j t k y d=>?_⟩
 ·have A:(a.map some).Perm (ec.map some):=by rw[f,b];exact(p.map _).symm
  have B:=A.filterMap id;simpa using B
 ·have:=congrArg List.length f;simpa using this
 ·have n:=congrArg (fun z=>z[j]?) f;simp only[List.getElem?_map,y]at n;have o:=congrArg (fun z=>z[t]?) b;simp only[List.getElem?_map,d]at o;have C:a[j]?.map some=ec[t]?.map some:=n.trans o.symm;cases D:a[j]?<;>cases E:ec[t]?<;>simp_all
theorem JO(p:xs.Perm ys):(Dc.AJ xs).Perm (Dc.AJ ys):=by
 induction p with
 |nil=>exact .refl _
 |cons x _ a=>simp only[Dc.AJ];exact a.append_left _
 |swap x y l=>
  simp only[Dc.AJ,<-List.append_assoc];exact(List.perm_append_comm).append_right _
 |trans _ _ b c=>exact b.trans c
theorem We(p:xs.Perm ys)(h:Dc.DP H ys):Dc.DP H xs:=by
 have gen:∀l:List Dc,(∀x∈l,x.At H)->Dc.DP H l:=by
  intro l
  induction l with
  |nil=>intro _;trivial
  |cons x r a=>intro h;simp only[Dc.DP];exact⟨h x List.mem_cons_self,a fun y b=>h y (List.mem_cons_of_mem _ b)⟩
 exact gen xs fun x c=>Dc.Ca h x (p.mem_iff.mp c)
theorem PN:∀{xs ys:List Dc},xs.length=ys.length->(∀(i:Nat) x y,xs[i]?=some x->ys[i]?=some y->Dc.Cb x y)->Dc.BK xs ys
 |[],[]=>fun _ _=>by simp[Dc.BK]
 |[],_::_=>fun h _=>by simp at h
 |_::_,[]=>fun h _=>by simp at h
 |x::r,y::t=>fun h k=>by
  simp only[Dc.BK];exact⟨k 0 x y rfl rfl,PN (by simpa using h) fun i a b c d=>k (i+1) a b (by simpa using c) (by simpa using d)⟩
theorem UQ{b:Hp}{a:V}(c:d.At H)(o:GA H b a d)(e:a=.ref L):b L≠none:=(GA.root (p:=(a,d)) o e).1
variable{x:Dc}{b:List V}
theorem Hu{c:V}(l:b.length=i)(a:xs[i]?=some x):(b++[c]).zip xs=b.zip xs++[(c,x)]:=by
 induction b generalizing xs i with
 |nil=>
  cases xs with
  |nil=>simp at a
  |cons y t=>
   simp at l;subst l;simp at a;subst a;simp
 |cons z r d=>
  cases xs with
  |nil=>simp at a
  |cons y t=>
   cases i with
   |zero=>simp at l
   |succ i=>
    simp only[List.cons_append,List.zip_cons_cons];rw[d (by simpa using l) (by simpa using a)]
variable{z:V}{f m I:List V}{y:Dc}
namespace Dc
inductive Eqv:Dc->Dc->Prop where
 |leaf (v:V):Eqv (leaf v) (leaf v)
 |row {a b:Addr} {xs ys:List Dc} (l:xs.length=ys.length) (h:∀(i:Nat) x y,xs[i]?=some x->ys[i]?=some y->Eqv x y):Eqv (row a xs) (row b ys)
 |tab {a b:Addr} {ks ls:List Str} {xs ys:List Dc} (p:ks.Perm ls) (h:∀k x y,(ks.zip xs).lookup k=some x->(ls.zip ys).lookup k=some y->Eqv x y):Eqv (tab a ks xs) (tab b ls ys)
theorem Wg:∀{xs ys:List Dc},BK xs ys->∀{k:Str}{x y:Dc},(ks.zip xs).lookup k=some x->(ks.zip ys).lookup k=some y->∃i:Nat,xs[i]?=some x/\ys[i]?=some y:=by
 induction ks with
 |nil=>intro xs ys _ k x y h;simp at h
 |cons z r d=>
  intro xs ys c k x y a b;cases xs with
  |nil=>simp at a
  |cons j xs=>
   cases ys with
   |nil=>simp at b
   |cons l ys=>
    simp only[BK]at c;simp only[List.zip_cons_cons,List.lookup_cons]at a b;by_cases e:k=z
    ·subst e;simp at a b;exact⟨0,by simp[a],by simp[b]⟩
    ·have:(k==z)=false:=by simpa using e
     rw[this]at a b;obtain⟨i,f,g⟩:=d c.2 a b;exact⟨i+1,by simpa using f,by simpa using g⟩
mutual
theorem Ku:∀d e:Dc,Cb d e->Eqv d e
 |leaf v,e,h=>by
  cases e with
  |leaf w=>
   have:v=w:=by simpa[Cb]using h
   subst this;exact .leaf v
  |_=>simp[Cb]at h
 |row a c,e,h=>by
  cases e with
  |row b f=>
   simp only[Cb]at h;exact .row (Hr h) (Io c f h)
  |_=>simp[Cb]at h
 |tab a n c,e,h=>by
  cases e with
  |tab b ls f=>
   simp only[Cb]at h;obtain⟨rfl,h⟩:=h;refine .tab (.refl _) fun k x y g j=>?_;obtain⟨i,l,m⟩:=Wg h g j;exact Io c f h i x y l m
  |_=>simp[Cb]at h
theorem Io:∀xs ys:List Dc,BK xs ys->∀(i:Nat) x y,xs[i]?=some x->ys[i]?=some y->Eqv x y
 |[],_,_,i,x,y,h,_=>by simp at h
 |_::_,[],h,_,_,_,_,_=>by simp[BK]at h
 |c::r,d::t,h,0,x,y,a,b=>by
  simp only[BK]at h;simp at a b;subst a b;exact Ku _ _ h.1
 |c::r,d::t,h,i+1,x,y,a,b=>by
  simp only[BK]at h;exact Io r t h.2 i x y (by simpa using a) (by simpa using b)
end
theorem Eqv.symm{d e:Dc}(h:Eqv d e):Eqv e d:=by
 induction h with
 |leaf v=>exact .leaf v
 |row l _ a=>exact .row l.symm fun i x y b c=>a i y x c b
 |tab p _ a=>exact .tab p.symm fun k x y b c=>a k y x c b
inductive Wf:Dc->Prop where
 |leaf (v:V):Wf (leaf v)
 |row {a:Addr} {xs:List Dc} (h:∀x∈xs,Wf x):Wf (row a xs)
 |tab {a:Addr} {ks:List Str} {xs:List Dc} (l:ks.length=xs.length) (n:ks.Nodup) (h:∀x∈xs,Wf x):Wf (tab a ks xs)
mutual
theorem Fg{H:Hp}:∀d:Dc,d.At H->d.Wf
 |leaf v,_=>.leaf v
 |row a xs,h=>by simp only[At]at h;exact .row (Qz xs h.2)
 |tab a ks xs,h=>by simp only[At]at h;exact .tab h.2.1 h.2.2.1 (Qz xs h.2.2.2)
theorem Qz{H:Hp}:∀xs:List Dc,DP H xs->∀x∈xs,x.Wf
 |[],_,x,a=>nomatch a
 |y::r,h,x,a=>by
  simp only[DP]at h;have b:=Fg y h.1;have c:=Qz r h.2;rcases List.mem_cons.mp a with e|a
  ·rw[e];exact b
  ·exact c x a
end
def ix(ks:List Str)(k:Str):Nat:=ks.findIdx (·==k)
theorem Ep{k:Str}(h:k∈ks):ks[ix ks k]?=some k:=by
 have a:ix ks k<ks.length:=List.findIdx_lt_length_of_exists ⟨k,h,by simp⟩;rw[ux a];have b:(ks[ix ks k]==k)=true:=List.findIdx_getElem (w:=a);exact congrArg some (eq_of_beq b)
theorem CA{k:Str}(l:ks.length=xs.length)(n:ks.Nodup)(h:(ks.zip xs).lookup k=some x):xs[ix ks k]?=some x:=by
 have b:=(Ad h).1;have e:=Ep b;have c:=(uy e).1;obtain⟨y,a⟩:∃y,xs[ix ks k]?=some y:=⟨_,ux (by rw[<-l];exact c)⟩;have:=Il ks xs _ n e a;rw[h]at this;cases this;exact a
noncomputable def Cc:Dc->List V->Dc->Dc
 |_,[],n=>n
 |row a xs,.int i::r,n=>row a (match xs[i.toNat]? with|some x=>xs.set i.toNat (Cc x r n)|none=>xs)
 |tab a ks xs,.str k::r,n=>tab a ks (match xs[ix ks k]? with|some x=>xs.set (ix ks k) (Cc x r n)|none=>xs)
 |d,_::_,_=>d
theorem DQ(h:xs[i]?=some x)(r:List V)(n:Dc):Cc (row a xs) (.int (i:Int)::r) n=row a (xs.set i (Cc x r n)):=by
 simp only[Cc,Int.toNat_natCast,h]
theorem EB{k:Str}(h:xs[ix ks k]?=some x)(r:List V)(n:Dc):Cc (tab a ks xs) (.str k::r) n=tab a ks (xs.set (ix ks k) (Cc x r n)):=by
 simp only[Cc,h]
theorem CC{r:List V}(h:d.sub (z::r)=some e):(∃a xs i x,d=row a xs/\z=.int ((i:Nat):Int)/\xs[i]?=some x/\x.sub r=some e)∨∃a ks xs k x,d=tab a ks xs/\z=.str k/\(ks.zip xs).lookup k=some x/\x.sub r=some e:=by
 cases d with
 |leaf v=>simp[sub]at h
 |row a xs=>
  cases z with
  |int i=>
   simp only[sub]at h;by_cases c:0<=i
   ·rw[if_pos c]at h;cases b:xs[i.toNat]? with
    |none=>rw[b]at h;simp at h
    |some x=>rw[b]at h;exact .inl ⟨a,xs,i.toNat,x,rfl,by rw[Int.toNat_of_nonneg c],b,h⟩
   ·rw[if_neg c]at h;simp at h
  |_=>simp[sub]at h
 |tab a ks xs=>
  cases z with
  |str k=>
   simp only[sub]at h;cases b:(ks.zip xs).lookup k with
   |none=>rw[b]at h;simp at h
   |some x=>rw[b]at h;exact .inr ⟨a,ks,xs,k,x,rfl,rfl,b,h⟩
  |_=>simp[sub]at h
theorem BS(d:Dc):d.sub []=some d:=by cases d<;>rfl
theorem FW(h:xs[i]?=some x)(r:List V):(row a xs).sub (.int (i:Int)::r)=x.sub r:=by
 simp only[sub];rw[if_pos (by lia),Int.toNat_natCast,h];rfl
theorem FX{k:Str}(h:(ks.zip xs).lookup k=some x)(r:List V):(tab a ks xs).sub (.str k::r)=x.sub r:=by
 simp only[sub,h];rfl
theorem CB.sub:∀{d e:Dc},d.sub f=some e->CB e d:=by
 induction f with
 |nil=>intro d e h;rw[BS]at h;cases h;exact .refl d
 |cons z r g=>
  intro d e h;rcases CC h with⟨a,j,i,x,rfl,rfl,b,c⟩|⟨a,l,j,k,x,rfl,rfl,b,c⟩
  ·exact(g c).trans (.row (u_ b))
  ·exact(g c).trans (.tab (Ad b).2)
theorem Kv:∀{d e n:Dc},d.sub b=some e->n.val=e.val->(Cc d b n).val=d.val:=by
 induction b with
 |nil=>intro d e n h c;rw[BS]at h;cases h;cases d<;>exact c
 |cons z r l=>
  intro d e n h c;rcases CC h with⟨a,g,i,x,rfl,rfl,f,j⟩|⟨a,m,g,k,x,rfl,rfl,f,j⟩
  ·rw[DQ f];rfl
  ·simp only[Cc];rfl
theorem JP(h:xs[i]?=some x)(e:y.val=x.val):(xs.set i y).map val=xs.map val:=by
 refine List.ext_getElem? fun j=>?_;rw[List.getElem?_map,List.getElem?_map];by_cases a:i=j
 ·subst a;rw[List.getElem?_set_self (uy h).1,h];exact congrArg some e
 ·rw[List.getElem?_set_ne a]
theorem Cr(h:xs[i]?=some x):∃l r,xs=l++x::r/\∀y,xs.set i y=l++y::r:=by
 have a:=(uy h).1;have b:=(uy h).2;refine⟨xs.take i,xs.drop (i+1),?_,fun y=>List.set_eq_take_append_cons_drop .. |>.trans (if_pos a)⟩;rw[<-b,List.getElem_cons_drop,List.take_append_drop]
theorem Kw:∀{d e n:Dc},d.Wf->d.addrs.Nodup->d.sub m=some e->∃l r,d.addrs=l++e.addrs++r/\(Cc d m n).addrs=l++n.addrs++r:=by
 induction m with
 |nil=>intro d e n _ _ h;rw[BS]at h;cases h;exact⟨[],[],by simp,by cases d<;>simp[Cc]⟩
 |cons z r y=>
  intro d e n w b h;rcases CC h with⟨a,A,i,x,rfl,rfl,g,o⟩|⟨a,D,A,k,x,rfl,rfl,g,o⟩
  ·cases w with
   |row p=>
    obtain⟨l,t,j,q⟩:=Cr g;simp only[addrs,List.nodup_cons]at b;rw[j,AY]at b;simp only[AJ]at b;have c:x.addrs.Nodup:=((List.nodup_append.mp (List.nodup_append.mp b.2).2.1)).1;obtain⟨l2,s,u,v⟩:=y (n:=n) (p x (u_ g)) c o;refine⟨a::(AJ l++l2),s++AJ t,?_,?_⟩
    ·simp only[addrs];rw[j,AY];simp only[AJ];rw[u];simp
    ·rw[DQ g];simp only[addrs];rw[q,AY];simp only[AJ];rw[v];simp
  ·cases w with
   |tab B C p=>
    have f:=CA B C g;obtain⟨l,t,j,q⟩:=Cr f;simp only[addrs,List.nodup_cons]at b;rw[j,AY]at b;simp only[AJ]at b;have c:x.addrs.Nodup:=((List.nodup_append.mp (List.nodup_append.mp b.2).2.1)).1;obtain⟨l2,s,u,v⟩:=y (n:=n) (p x (u_ f)) c o;refine⟨a::(AJ l++l2),s++AJ t,?_,?_⟩
    ·simp only[addrs];rw[j,AY];simp only[AJ];rw[u];simp
    ·rw[EB f];simp only[addrs];rw[q,AY];simp only[AJ];rw[v];simp
theorem ZT:∀{d e n:Dc},d.addrs.Nodup->d.sub I=some e->n.val=e.val->n.At H'->(∀a∈d.addrs,a∉e.addrs->∀o,H a=some o->H' a=some o)->d.At H->(Cc d I n).At H':=by
 induction I with
 |nil=>intro d e n _ h _ F _ _;rw[BS]at h;cases h;cases d<;>exact F
 |cons z r R=>
  intro d e n D h G F f q;have PE:=CB.sub h;rcases CC h with⟨a,u,i,x,rfl,rfl,E,v⟩|⟨a,J,u,k,x,rfl,rfl,E,v⟩
  ·obtain⟨l,t,s,K⟩:=Cr E;have w:=CB.sub v;simp only[At]at q;simp only[addrs,List.nodup_cons]at D;have L:a∉e.addrs:=fun z=>D.1 (by rw[s,AY];simp only[AJ];exact List.mem_append_right _ (List.mem_append_left _ (w.addrs a z)));have g:=D.2;rw[s,AY]at g;simp only[AJ]at g;obtain⟨S,M,N⟩:=List.nodup_append.mp g;obtain⟨O,T,P⟩:=List.nodup_append.mp M;have p:=q.2;rw[s]at p;obtain⟨Q,y⟩:=(Bt _ _).mp p;simp only[DP]at y;have fa:∀c,c∈AJ u->c∉e.addrs->∀o,H c=some o->H' c=some o:=fun c b A o j=>f c (by simp only[addrs];exact List.mem_cons_of_mem _ b) A o j;have m:∀c,c∈AJ l∨c∈x.addrs∨c∈AJ t->c∈AJ u:=fun c b=>by
    rw[s,AY];simp only[AJ,List.mem_append];exact b
   have B:=R (n:=n) O v G F (fun c b A o j=>fa c (m c (.inr (.inl b))) A o j) y.1;rw[DQ E];simp only[At];refine⟨?_,?_⟩
   ·rw[JP E (Kv v G)];exact q.1.up (f a (by simp[addrs]) L)
   ·rw[K];refine(Bt _ _).mpr ⟨Bg l (fun c b o j=>fa c (m c (.inl b)) (fun z=>N c b c (List.mem_append_left _ (w.addrs c z)) rfl) o j) Q,?_⟩;simp only[DP];exact⟨B,Bg t (fun c b o j=>fa c (m c (.inr (.inr b))) (fun z=>P c (w.addrs c z) c b rfl) o j) y.2⟩
  ·simp only[At]at q;have C:=CA q.2.1 q.2.2.1 E;obtain⟨l,t,s,K⟩:=Cr C;have w:=CB.sub v;simp only[addrs,List.nodup_cons]at D;have L:a∉e.addrs:=fun z=>D.1 (by rw[s,AY];simp only[AJ];exact List.mem_append_right _ (List.mem_append_left _ (w.addrs a z)));have g:=D.2;rw[s,AY]at g;simp only[AJ]at g;obtain⟨S,M,N⟩:=List.nodup_append.mp g;obtain⟨O,T,P⟩:=List.nodup_append.mp M;have p:=q.2.2.2;rw[s]at p;obtain⟨Q,y⟩:=(Bt _ _).mp p;simp only[DP]at y;have fa:∀c,c∈AJ u->c∉e.addrs->∀o,H c=some o->H' c=some o:=fun c b A o j=>f c (by simp only[addrs];exact List.mem_cons_of_mem _ b) A o j;have m:∀c,c∈AJ l∨c∈x.addrs∨c∈AJ t->c∈AJ u:=fun c b=>by
    rw[s,AY];simp only[AJ,List.mem_append];exact b
   have B:=R (n:=n) O v G F (fun c b A o j=>fa c (m c (.inr (.inl b))) A o j) y.1;rw[EB C];simp only[At];refine⟨?_,by rw[List.length_set];exact q.2.1,q.2.2.1,?_⟩
   ·have:kvs J (u.set (ix J k) (Cc x r n))=kvs J u:=by unfold kvs;rw[JP C (Kv v G)]
    rw[this];exact q.1.up (f a (by simp[addrs]) L)
   ·rw[K];refine(Bt _ _).mpr ⟨Bg l (fun c b o j=>fa c (m c (.inl b)) (fun z=>N c b c (List.mem_append_left _ (w.addrs c z)) rfl) o j) Q,?_⟩;simp only[DP];exact⟨B,Bg t (fun c b o j=>fa c (m c (.inr (.inr b))) (fun z=>P c (w.addrs c z) c b rfl) o j) y.2⟩
noncomputable def Ck:Dc->V->Dc
 |row a xs,.int i=>row a (xs.eraseIdx i.toNat)
 |tab a ks xs,.str k=>tab a (ks.eraseIdx (ix ks k)) (xs.eraseIdx (ix ks k))
 |d,_=>d
theorem sub_one(h:d.sub [z]=some x):(∃a xs i,d=row a xs/\z=.int ((i:Nat):Int)/\xs[i]?=some x)∨∃a ks xs k,d=tab a ks xs/\z=.str k/\(ks.zip xs).lookup k=some x:=by
 rcases CC h with⟨a,xs,i,y,c,e,f,b⟩|⟨a,ks,xs,k,y,c,e,f,b⟩
 ·rw[BS]at b;cases b;exact .inl ⟨a,xs,i,c,e,f⟩
 ·rw[BS]at b;cases b;exact .inr ⟨a,ks,xs,k,c,e,f⟩
theorem PR(e:Dc)(z:V):(Ck e z).val=e.val:=by
 cases e<;>cases z<;>rfl
theorem mem_set{z:Dc}(h:z∈xs.set i y):z∈xs∨z=y:=List.mem_or_eq_of_mem_set h
theorem Su:∀{d e n:Dc},d.Wf->d.sub m=some e->n.Wf->(Cc d m n).Wf:=by
 induction m with
 |nil=>intro d e n _ h j;cases d<;>exact j
 |cons z r p=>
  intro d e n w h j;rcases CC h with⟨a,s,i,x,rfl,rfl,l,o⟩|⟨a,t,s,k,x,rfl,rfl,l,o⟩
  ·cases w with
   |row c=>
    rw[DQ l];refine .row fun y b=>?_;rcases mem_set b with b|rfl
    ·exact c y b
    ·exact p (c x (u_ l)) o j
  ·cases w with
   |tab q f c=>
    have g:=CA q f l;rw[EB g];refine .tab (by rw[List.length_set];exact q) f fun y b=>?_;rcases mem_set b with b|rfl
    ·exact c y b
    ·exact p (c x (u_ g)) o j
theorem MN(h:xs[i]?=some x):AZ (xs.set i y)+x.size=AZ xs+y.size:=by
 obtain⟨l,t,a,b⟩:=Cr h;rw[b,a,BP,BP];simp only[AZ];lia
theorem UR:∀{d e n:Dc},d.Wf->d.sub f=some e->(Cc d f n).size+e.size=d.size+n.size:=by
 induction f with
 |nil=>intro d e n _ h;rw[BS]at h;cases h;cases d<;>simp only[Cc]<;>lia
 |cons z r m=>
  intro d e n w h;rcases CC h with⟨a,o,i,x,rfl,rfl,c,g⟩|⟨a,q,o,k,x,rfl,rfl,c,g⟩
  ·cases w with
   |row j=>
    have:=m (n:=n) (j x (u_ c)) g;have:=MN (y:=Cc x r n) c;rw[DQ c];simp only[size];lia
  ·cases w with
   |tab p l j=>
    have b:=CA p l c;have:=m (n:=n) (j x (u_ b)) g;have:=MN (y:=Cc x r n) b;rw[EB b];simp only[size];lia
theorem Eqv.sub{j:List V}:∀{d d' e:Dc},d.Wf->d'.Wf->Eqv d d'->d.sub j=some e->∃f,d'.sub j=some f/\Eqv e f:=by
 induction j with
 |nil=>intro d d' e _ _ q h;rw[BS]at h;cases h;exact⟨d',BS d',q⟩
 |cons z r A=>
  intro d d' e w B q h;rcases CC h with⟨a,D,i,x,rfl,rfl,c,m⟩|⟨a,G,D,k,x,rfl,rfl,c,m⟩
  ·cases q with
   |@row _ b _ C l n=>
    cases w with
    |row o=>
     cases B with
     |row s=>
      obtain⟨y,g⟩:∃y,C[i]?=some y:=⟨_,ux (by rw[<-l];exact(uy c).1)⟩;obtain⟨f,t,u⟩:=A (o x (u_ c)) (s y (u_ g)) (n i x y c g) m;exact⟨f,by rw[FW g];exact t,u⟩
  ·cases q with
   |@tab _ b _ ls _ C p n=>
    cases w with
    |tab H I o=>
     cases B with
     |tab v E s=>
      obtain⟨y,g,F⟩:=C_ v (p.mem_iff.mp (Ad c).1);obtain⟨f,t,u⟩:=A (o x (Ad c).2) (s y F) (n k x y c g) m;exact⟨f,by rw[FX g];exact t,u⟩
theorem HB{k a:Str}{z:Dc}(l:ks.length=xs.length)(n:ks.Nodup)(f:(ks.zip xs).lookup k=some x)(h:(ks.zip (xs.set (ix ks k) y)).lookup a=some z):(a=k/\z=y)∨(a≠k/\(ks.zip xs).lookup a=some z):=by
 have l2:ks.length=(xs.set (ix ks k) y).length:=by rw[List.length_set];exact l
 have c:=CA l2 n h;have i:=(Ad f).1;have b:=(Ad h).1;by_cases e:a=k
 ·subst e;rw[List.getElem?_set_self (uy (CA l n f)).1]at c;exact .inl ⟨rfl,(uz c).symm⟩
 ·right
  refine⟨e,?_⟩;have d:ix ks k≠ix ks a:=fun w=>e (by have g:=Ep i;have j:=Ep b;rw[w,j]at g;exact uz g);rw[List.getElem?_set_ne d]at c;exact Il ks xs _ n (Ep b) c
theorem Eqv.Cc{v:List V}:∀{d d' e n A:Dc},d.Wf->d'.Wf->Eqv d d'->d.sub v=some e->Eqv n A->Eqv (Dc.Cc d v n) (Dc.Cc d' v A):=by
 induction v with
 |nil=>intro d d' e n A _ _ _ _ q;cases d<;>cases d'<;>exact q
 |cons z r J=>
  intro d d' e n A w K q h L;rcases CC h with⟨a,P,i,x,rfl,rfl,c,B⟩|⟨a,U,P,k,x,rfl,rfl,c,B⟩
  ·cases q with
   |@row _ b _ M l t=>
    cases w with
    |row C=>
     cases K with
     |row D=>
      obtain⟨y,f⟩:∃y,M[i]?=some y:=⟨_,ux (by rw[<-l];exact(uy c).1)⟩;rw[DQ c,DQ f];refine .row (by rw[List.length_set,List.length_set];exact l) fun j E F s m=>?_;by_cases u:i=j
      ·subst u;rw[List.getElem?_set_self (uy c).1]at s;rw[List.getElem?_set_self (uy f).1]at m;cases s;cases m;exact J (C x (u_ c)) (D y (u_ f)) (t i x y c f) B L
      ·rw[List.getElem?_set_ne u]at s m;exact t j E F s m
  ·cases q with
   |@tab _ b _ ls _ M p t=>
    cases w with
    |tab N O C=>
     cases K with
     |tab g o D=>
      obtain⟨y,f,Q⟩:=C_ g (p.mem_iff.mp (Ad c).1);have G:=CA N O c;have H:=CA g o f;rw[EB G,EB H];refine .tab p fun k2 E F s m=>?_;rcases HB N O c s with⟨rfl,rfl⟩|⟨I,R⟩
      ·rcases HB g o f m with⟨_,rfl⟩|⟨I,_⟩
       ·exact J (C x (Ad c).2) (D y Q) (t k2 x y c f) B L
       ·exact absurd rfl I
      ·rcases HB g o f m with⟨S,_⟩|⟨_,T⟩
       ·exact absurd S I
       ·exact t k2 E F R T
end Dc
theorem HC{a:Type}{l:List a}(h:i<l.length):(l[i]::l.eraseIdx i).Perm l:=by
 have b:l=l.take i++l[i]::l.drop (i+1):=by rw[List.getElem_cons_drop,List.take_append_drop]
 rw[List.eraseIdx_eq_take_drop_succ];exact(List.perm_middle.symm).trans (by rw[<-b])
namespace Dc
theorem MO(l:ks.length=xs.length)(n:ks.Nodup){k a:Str}(f:k∈ks):((ks.eraseIdx (ix ks k)).zip (xs.eraseIdx (ix ks k))).lookup a=if a=k then none else(ks.zip xs).lookup a:=by
 induction ks generalizing xs with
 |nil=>cases f
 |cons y r g=>
  cases xs with
  |nil=>simp at l
  |cons x t=>
   obtain⟨h,i⟩:=List.nodup_cons.mp n;by_cases e:y=k
   ·subst e;have c:ix (y::r) y=0:=by simp[ix,List.findIdx_cons]
    rw[c];simp only[List.eraseIdx_zero,List.tail_cons,List.zip_cons_cons,List.lookup_cons];by_cases b:a=y
    ·subst b;rw[if_pos rfl];cases q:(r.zip t).lookup a with
     |none=>rfl
     |some z=>exact absurd (Ad q).1 h
    ·rw[if_neg b];have:(a==y)=false:=by simpa using b
     rw[this]
   ·have d:k∈r:=(List.mem_cons.mp f).resolve_left (fun z=>e z.symm);have c:ix (y::r) k=ix r k+1:=by
     have:(y==k)=false:=by simpa using e
     simp[ix,List.findIdx_cons,this]
    rw[c];simp only[List.eraseIdx_cons_succ,List.zip_cons_cons,List.lookup_cons];by_cases b:a=y
    ·subst b;rw[if_neg e];simp
    ·have:(a==y)=false:=by simpa using b
     rw[this];exact g (by simpa using l) i d
theorem PU{k:Str}(h:k∈ks):ix ks k<ks.length:=(uy (Ep h)).1
theorem NS(d:e.Wf)(h:e.sub [z]=some x):(Ck e z).Wf:=by
 rcases sub_one h with⟨a,l,i,rfl,rfl,f⟩|⟨a,n,l,k,rfl,rfl,f⟩
 ·cases d with
  |row b=>exact .row fun y c=>b y (List.mem_of_mem_eraseIdx c)
 ·cases d with
  |tab g m b=>
   have j:=PU (Ad f).1;refine .tab ?_ (List.Nodup.sublist (List.eraseIdx_sublist _ _) m) fun y c=>b y (List.mem_of_mem_eraseIdx c);rw[List.length_eraseIdx_of_lt j,List.length_eraseIdx_of_lt (by rw[<-g];exact j),g]
theorem JQ(h:xs[i]?=some x):AZ (xs.eraseIdx i)+x.size=AZ xs:=by
 obtain⟨l,t,c,d⟩:=Cr h;have e:=(uy h).1;have a:xs.eraseIdx i=xs.take i++xs.drop (i+1):=List.eraseIdx_eq_take_drop_succ ..;have b:xs=xs.take i++x::xs.drop (i+1):=by
  rw[<-(uy h).2,List.getElem_cons_drop,List.take_append_drop]
 rw[a,BP];have:=congrArg AZ b;rw[BP]at this;simp only[AZ]at this;lia
theorem US(c:e.Wf)(h:e.sub [z]=some x):(Ck e z).size+x.size=e.size:=by
 rcases sub_one h with⟨a,d,i,rfl,rfl,b⟩|⟨a,j,d,k,rfl,rfl,b⟩
 ·simp only[Ck,size,Int.toNat_natCast];have:=JQ b;lia
 ·cases c with
  |tab f g l=>
   simp only[Ck,size];have:=JQ (CA f g b);lia
theorem Eqv.Ck{e s x:Dc}{z:V}(C:e.Wf)(t:s.Wf)(h:e.sub [z]=some x)(q:Eqv e s):Eqv (Dc.Ck e z) (Dc.Ck s z):=by
 rcases sub_one h with⟨a,D,i,rfl,rfl,u⟩|⟨a,g,D,k,rfl,rfl,u⟩
 ·cases q with
  |@row _ b _ E l n=>
   simp only[Dc.Ck,Int.toNat_natCast];have F:=(uy u).1;refine .row (by rw[List.length_eraseIdx_of_lt F,List.length_eraseIdx_of_lt (by lia),l]) fun j o r c d=>?_;rw[List.getElem?_eraseIdx]at c d;split at c
   ·rename_i v
    rw[if_pos v]at d;exact n j o r c d
   ·rename_i v
    rw[if_neg v]at d;exact n (j+1) o r c d
 ·cases q with
  |@tab _ b _ ls _ E p n=>
   cases C with
   |tab G H M=>
    cases t with
    |tab w y N=>
     have m:=(Ad u).1;have f:=p.mem_iff.mp m;simp only[Dc.Ck];refine .tab ?_ fun A o r c d=>?_
     ·have I:g[ix g k]'(PU m)=k:=(uy (Ep m)).2;have J:ls[ix ls k]'(PU f)=k:=(uy (Ep f)).2;have K:g.Perm (k::g.eraseIdx (ix g k)):=by have:=(HC (PU m)).symm;rw[I]at this;exact this
      have L:ls.Perm (k::ls.eraseIdx (ix ls k)):=by have:=(HC (PU f)).symm;rw[J]at this;exact this
      exact List.Perm.cons_inv (K.symm.trans (p.trans L))
     ·rw[MO G H m]at c;rw[MO w y f]at d;by_cases B:A=k
      ·rw[if_pos B]at c;cases c
      ·rw[if_neg B]at c d;exact n A o r c d
end Dc
theorem Ef.edit{j:Hp}{t n:Dc}{b:Addr}(F:Ef H H2 t)(v:t.sub I=some e)(L:e.val=.ref b)(s:b∈e.addrs)(M:n.val=.ref b)(w:n.At j)(A:∀a o,a≠b->H2 a=some o->j a=some o)(B:n.addrs.Nodup)(k:∀c∈n.addrs,∀o u,j c≠some (.DT o u))(g:∀c∈n.addrs,c∈e.addrs∨(c∉t.addrs/\H c=none)):Ef H j (t.Cc I n):=by
 have P:=Dc.CB.sub v;have N:=P.addrs b s;have wt:=Dc.Fg t F.at_;obtain⟨l,r,J,C⟩:=Dc.Kw (n:=n) wt F.nd v;have nd:=F.nd;rw[J]at nd;obtain⟨D,E,i⟩:=List.nodup_append.mp nd;obtain⟨G,O,m⟩:=List.nodup_append.mp D;have mt:∀c,c∈t.addrs↔(c∈l∨c∈e.addrs)∨c∈r:=fun c=>by rw[J,List.mem_append,List.mem_append]
 refine⟨fun a o h=>A a o (Am h (F.new b N)) (F.same a o h),Dc.ZT F.nd v (M.trans L.symm) w (fun a S Q o h=>A a o (fun z=>Q (by rw[z];exact s)) h) F.at_,?_,fun c d=>?_,fun c d=>?_⟩
 ·rw[C];refine List.nodup_append.mpr ⟨List.nodup_append.mpr ⟨G,B,fun x f y p z=>?_⟩,E,fun x f y p z=>?_⟩
  ·subst z;rcases g x p with h|h
   ·exact m x f x h rfl
   ·exact h.1 ((mt x).mpr (.inl (.inl f)))
  ·subst z;rcases List.mem_append.mp f with f|f
   ·exact i x (List.mem_append_left _ f) x p rfl
   ·rcases g x f with h|h
    ·exact i x (List.mem_append_right _ h) x p rfl
    ·exact h.1 ((mt x).mpr (.inr p))
 ·rw[C,List.mem_append,List.mem_append]at d;have q:c∈t.addrs->c≠b->∀o u,j c≠some (.DT o u):=fun K R=>Dp (Dc.there F.at_ K) (F.own c K) (fun o=>A c o R);rcases d with(d|d)|d
  ·exact q ((mt c).mpr (.inl (.inl d))) fun z=>m c d c (by rw[z];exact s) rfl
  ·exact k c d
  ·exact q ((mt c).mpr (.inr d)) fun z=>i c (List.mem_append_right _ (by rw[z];exact s)) c d rfl
 ·rw[C,List.mem_append,List.mem_append]at d;rcases d with(d|d)|d
  ·exact F.new c ((mt c).mpr (.inl (.inl d)))
  ·rcases g c d with h|h
   ·exact F.new c (P.addrs c h)
   ·exact h.2
  ·exact F.new c ((mt c).mpr (.inr d))
namespace Dc
theorem JR(h:xs[i]?=some x):(x.addrs++AJ (xs.eraseIdx i)).Perm (AJ xs):=by
 have a:=(uy h).1;have b:=(uy h).2;have:=JO (HC a);rw[b]at this;simpa only[AJ]using this
theorem Q_(c:e.Wf)(h:e.sub [z]=some x):(x.addrs++(Ck e z).addrs).Perm e.addrs:=by
 rcases sub_one h with⟨a,d,i,rfl,rfl,b⟩|⟨a,j,d,k,rfl,rfl,b⟩
 ·simp only[Ck,addrs,Int.toNat_natCast];exact(List.perm_middle).trans ((JR b).cons _)
 ·cases c with
  |tab f g l=>
   simp only[Ck,addrs];exact(List.perm_middle).trans ((JR (CA f g b)).cons _)
theorem MP(h:DP H xs):DP H (xs.eraseIdx i):=by
 have gen:∀l:List Dc,(∀x∈l,x.At H)->DP H l:=by
  intro l
  induction l with
  |nil=>intro _;trivial
  |cons x r a=>intro h;simp only[DP];exact⟨h x List.mem_cons_self,a fun y b=>h y (List.mem_cons_of_mem _ b)⟩
 exact gen _ fun x c=>Ca h x (List.mem_of_mem_eraseIdx c)
theorem UT(l:ks.length=xs.length)(n:ks.Nodup){k:Str}(d:k∈ks):Ee (kvs ks xs) (Sum.inr k)=kvs (ks.eraseIdx (ix ks k)) (xs.eraseIdx (ix ks k)):=by
 induction ks generalizing xs with
 |nil=>cases d
 |cons y r g=>
  cases xs with
  |nil=>simp at l
  |cons x t=>
   obtain⟨h,i⟩:=List.nodup_cons.mp n;have e:kvs (y::r) (x::t)=(Sum.inr y,x.val)::kvs r t:=rfl;rw[e];by_cases a:y=k
   ·subst a;have b:ix (y::r) y=0:=by simp[ix,List.findIdx_cons]
    rw[b,UB rfl];simp only[List.eraseIdx_zero,List.tail_cons];refine Oo fun f=>?_;rw[EA (by simpa using l)]at f;obtain⟨o,j,m⟩:=List.mem_map.mp f;exact h (by rw[<-Sum.inr.inj m];exact j)
   ·have c:k∈r:=(List.mem_cons.mp d).resolve_left (fun z=>a z.symm);have b:ix (y::r) k=ix r k+1:=by
     have:(y==k)=false:=by simpa using a
     simp[ix,List.findIdx_cons,this]
    rw[b,MA (fun z=>a (Sum.inr.inj z)),g (by simpa using l) i c];rfl
end Dc
section
variable{X:Cx} {CX:QU} {k:Nat} {f:Addr} {fd:FuncData} {ps:List Str} {ds:List Value} {aw:List V} {sp:Sp} {E:XK} {x:Str} {p pos:Pos} {e:Expr} {es:List Expr} {t:TA} {tf:TE}
end
namespace Dc
theorem NT:∀{d e:Dc},d.Wf->d.sub f=some e->e.Wf:=by
 induction f with
 |nil=>
  intro d e w h;rw[BS]at h;cases h;exact w
 |cons z r g=>
  intro d e w h;rcases CC h with⟨a,j,i,x,rfl,rfl,b,c⟩|⟨a,l,j,k,x,rfl,rfl,b,c⟩
  ·cases w with
   |row w=>exact g (w x (u_ b)) c
  ·cases w with
   |tab _ _ w=>exact g (w x (Ad b).2) c
theorem Le{r:List V}(h:d.sub [z]=none):d.sub (z::r)=none:=by
 cases q:d.sub (z::r)with
 |none=>rfl
 |some e=>
  rcases CC q with⟨a,c,i,x,rfl,rfl,b,_⟩|⟨a,f,c,k,x,rfl,rfl,b,_⟩
  ·rw[FW b,BS]at h;cases h
  ·rw[FX b,BS]at h;cases h
theorem Kx{l:V} :∀{d x:Dc},d.sub (b++[l])=some x->∃e,d.sub b=some e/\e.sub [l]=some x:=by
 induction b with
 |nil=>intro d x h;exact⟨d,BS d,h⟩
 |cons z r m=>
  intro d x h;rw[List.cons_append]at h;rcases CC h with⟨a,n,i,y,rfl,rfl,c,f⟩|⟨a,o,n,k,y,rfl,rfl,c,f⟩
  ·obtain⟨e,g,j⟩:=m f;exact⟨e,by rw[FW c];exact g,j⟩
  ·obtain⟨e,g,j⟩:=m f;exact⟨e,by rw[FX c];exact g,j⟩
theorem UU{l:List V}:∀{d x:Dc},d.sub (b++l)=some x->∃e,d.sub b=some e/\e.sub l=some x:=by
 induction b with
 |nil=>intro d x h;exact⟨d,BS d,h⟩
 |cons z r m=>
  intro d x h;rw[List.cons_append]at h;rcases CC h with⟨a,n,i,y,rfl,rfl,c,f⟩|⟨a,o,n,k,y,rfl,rfl,c,f⟩
  ·obtain⟨e,g,j⟩:=m f;exact⟨e,by rw[FW c];exact g,j⟩
  ·obtain⟨e,g,j⟩:=m f;exact⟨e,by rw[FX c];exact g,j⟩
end Dc
theorem Ju{J:It}{q:TT}{r:TE}{fs:List Nat}(n:Nat)(item:Nat->V)(P:Addr->Nat->Hp->Prop)(t:∀D,H D=none->P D 0 (upd H D (.lst [])))(j:∀D i H2,i<n->P D i H2->J.go i H2)(u:∀D i H2 v H',i<n->P D i H2->J.Vb i H2 v H'->v=item i/\H'=H2)(k:∀D H2,P D n H2->J.stop n H2)(w:∀D i H2,H D=none->i<n->P D i H2->q (some (item i)::Cf σ fs) H2 fun ok g=>if ok=true then r (some (item i)::Cf σ fs) g fun y f=>∃ys,f D=some (.lst ys)/\ys.length<sizeLine/\P D (i+1) (upd f D (.lst (ys++[y])))else P D (i+1) g)(x:∀D H2,H D=none->P D n H2->Q (.ref D) H2):Ig J q r fs σ H Q:=by
 intro D l;refine⟨fun i m H2=>m=n-i/\i<=n/\P D i H2,⟨n,rfl,Nat.zero_le _,t D l⟩,?_⟩;rintro i m H2 ⟨rfl,A,p⟩;by_cases d:i<n
 ·refine .inr ⟨j D i H2 d p,fun v s y=>?_⟩;obtain⟨rfl,rfl⟩:=u D i H2 v s d p y;have o:=w D i s l d p;have e:(fun(y:V)(f:Hp)=>∃ys,f D=some (.lst ys)/\ys.length<sizeLine/\∃h,h<n-i/\h=n-(i+1)/\i+1<=n/\P D (i+1) (upd f D (.lst (ys++[y]))))=fun y f=>∃ys,f D=some (.lst ys)/\ys.length<sizeLine/\P D (i+1) (upd f D (.lst (ys++[y]))):=by
   funext y f;refine propext ⟨fun⟨ys,a,b,h,_,_,_,c⟩=>⟨ys,a,b,c⟩,fun⟨ys,a,b,c⟩=>⟨ys,a,b,n-(i+1),by omega,rfl,d,c⟩⟩
  have z:∀g:Hp,(∃h,h<n-i/\h=n-(i+1)/\i+1<=n/\P D (i+1) g)=P D (i+1) g:=fun g=>propext ⟨fun⟨_,_,_,_,c⟩=>c,fun c=>⟨n-(i+1),by omega,rfl,d,c⟩⟩;dsimp only;simp only[e,z];exact o
 ·have e:i=n:=by omega
  subst e;exact .inl ⟨k D H2 p,x D H2 l p⟩
section
variable{X:Cx}
inductive UW(K:vA)(x y:V)(H:Hp)(Q:VK):Prop
 |mk(a b:Addr)(xs ys:List V)(c:x=.ref a)(d:y=.ref b)(e:Ah K H a xs)(f:Ah K H b ys)(g:(∀z∈xs,CO z=true))(h:(∀z∈ys,CO z=true))(i:Q (.bl (!BQ xs ys)) H)
def PV(K:vA):V->V->Hp->VK->Prop:=fun x y H Q=>UW K x y H Q
theorem Ky(l:X.A.units<cLine):Dg X (compareOp .NotEq) (PV X.K):=by
 intro pins s σ H x y v u Q I m n h;obtain⟨a,b,d,f,rfl,rfl,o,p,r,t,q⟩:=h;cases m;cases n;obtain⟨g,i,w,_⟩:=I.tuple o;obtain⟨c,k,z,_⟩:=I.tuple p;have B:g.toArray.size=d.length:=by rw[List.size_toArray];exact i.length.symm
 have C:c.toArray.size=f.length:=by rw[List.size_toArray];exact k.length.symm
 refine SeqAt.RcNeAt.tuples (e:=fun j=>JL (d.getD j .As) (f.getD j .As)) w z l (fun j D E=>MK (pins:=pins) (σ:=σ) (H:=H) i k r t j D E) _ _ _ _ ?_;rw[B,C];exact⟨.bl (!BQ d f),H,I,rfl,q⟩
end
structure fF(S fr:List Addr)(h h':Heap):Prop where
 keep:∀b o,h.get? b=some o->b∉S->b∉fr->h'.get? b=some o
 slot:∀b o,h.get? b=some o->b∈fr->∃sl,h'.get? b=some {o with slots:=sl}
variable{S:List Addr}
section
variable{M:Model} {A:Around} {E:Value->Shared->Prop} {s:Shared} {base:Heap} {env:Env} {outer:List Env} {L e:Addr} {oe:Obj} {vs:Array Value} {Q:Unit->Shared->Prop}
structure Entry(h:Heap)(T:Addr)(v:Value):Prop where
 ex:∃oT ts,h.get? T=some oT/\oT.data=.fields ts/\ts[3]?=some v
theorem Wh{head:Value}{f:Bool}(p:A.frames=some (env::outer))(v:s.heap.FunFrames base (env::outer))(y:env.frame=some L)(w:s.heap.get? e=some oe)(r:oe.data=.fields vs)(hsz:1<vs.size)(h:∀h' T,fF [e] (OY (env::outer)) s.heap h'->s.heap.get? T=none->h'.get? e=some (oe.mapFields (·.setIfInBounds 1 (.ref T)))->Entry h' T (rawInt L)->Q () {s with heap:=h'}):
  wpAny M A (do let a<-frameOf env;let m<-entryPlaceOf L f;let b<-EntryCells.newEntry head a .none (rawInt L) .none m;setField (.ref e) 1 b) Q E s:=by
 have j:e∉(env::outer).filterMap (·.frame):=fun B=>by
  obtain⟨_,o,x,t⟩:=v.mem B;rw[w]at x;cases x;exact t vs r
 refine wpAny_bind (wpAny_frameOf_fun p v y fun d c=>?_);refine wpAny_bind (wpAny_entryPlaceOf fun m u=>?_);unfold EntryCells.newEntry newFields;refine wpAny_bind (wpAny_newObj_type ?_ (u.sizeOk5 _ _ _ _ _));have g:d.get? e=some oe:=(c.2.1 e j).trans w;obtain⟨n,k⟩:∃n:Obj,n={cls:=.type "traceback",dict:=none,data:=.fields ([head,.ref L,.none,rawInt L,.none]++(if m.isEmpty then List.replicate 6 Value.none else m)).toArray}:=⟨_,rfl⟩;rw[<-k];have i:=Heap.get?_push_of_some (h:=d) n g;refine wpAny_setField i r hsz (h _ d.objs.size ⟨fun b o q C l=>?_,fun b o q D=>?_⟩ ?_ ?_ ⟨n,_,?_,by rw[k],?_⟩)
 ·rw[Heap.get?_update_other _ _ (fun z=>C (by rw[<-z];simp))];exact Heap.get?_push_of_some _ ((c.2.1 b l).trans q)
 ·obtain⟨F,z⟩:=c.2.2 b o q;refine⟨F,?_⟩;rw[Heap.get?_update_other _ _ (fun z=>j (by rw[z];exact D))];exact Heap.get?_push_of_some _ z
 ·exact Heap.get?_none_of_le (by rw[c.1];exact Nat.le_refl _)
 ·exact Heap.get?_update_self _ i (Obj.isFreed_of_fields (Obj.data_mapFields r _))
 ·rw[Heap.get?_update_other _ _ (Nat.ne_of_lt (Heap.lt_size g))];exact Heap.get?_push_size d (by rw[k];rfl)
 ·simp
theorem Wi{T:Addr}{v:Value}(f:s.heap.get? e=some oe)(g:oe.data=.fields vs)(i:vs[1]?=some (.ref T))(j:Entry s.heap T v)(h:∀h',(∀b,b≠T->h'.get? b=s.heap.get? b)->Entry h' T .none->Q () {s with heap:=h'}):wpAny M A (setFlight (.ref e) none) Q E s:=by
 obtain⟨n,k,d,c,l⟩:=j.ex;have a:3<k.size:=(Array.getElem?_eq_some_iff.mp l).1;unfold setFlight;refine wpAny_bind (wpAny_field f g i ?_);rw[if_pos (show(Value.ref T !=Value.none)=true from by simp)];refine wpAny_setField d c a (h _ (fun b m=>Heap.get?_update_other _ _ (Ne.symm m)) ⟨_,_,Heap.get?_update_self _ d (Obj.isFreed_of_fields (Obj.data_mapFields c _)),Obj.data_mapFields c _,?_⟩);simp[a]
theorem bB(d:A.frames=some (env::outer))(n:s.heap.FunFrames base (env::outer))(p:env.frame=some L)(i:s.heap.get? e=some oe)(j:oe.data=.fields vs)(hsz:1<vs.size)(w:(vs[1]?=some .none/\S=[])∨∃T0,vs[1]?=some (.ref T0)/\T0≠e/\Entry s.heap T0 .none/\S=[T0])(h:∀h' T,fF (e::S) (OY (env::outer)) s.heap h'->s.heap.get? T=none->h'.get? e=some (oe.mapFields (·.setIfInBounds 1 (.ref T)))->Entry h' T (rawInt L)->Q () {s with heap:=h'}):
  wpAny M A (noteFrame (.ref e) env) Q E s:=by
 unfold noteFrame;simp only[p];rcases w with⟨r,rfl⟩|⟨T0,r,x,y,rfl⟩
 ·refine wpAny_bind (wpAny_field i j r ?_);rw[if_neg (by decide)];exact Wh d n p i j hsz h
 ·obtain⟨F,B,k,l,t⟩:=y.ex;refine wpAny_bind (wpAny_field i j r ?_);rw[if_pos (show(Value.ref T0 !=Value.none)=true from by simp)];refine wpAny_bind (wpAny_field k l t ?_);rw[if_neg (show¬((Value.none==rawInt L)=true)from by simp[rawInt])];refine wpAny_bind (wpAny_setField k l (Array.getElem?_eq_some_iff.mp t).1 ?_);have other:∀b,b≠T0->(s.heap.update T0 (Obj.mapFields (·.setIfInBounds 3 Value.none))).get? b=s.heap.get? b:=fun b a=>Heap.get?_update_other _ _ (Ne.symm a);have f:∀b o,s.heap.get? b=some o->(∀vs,o.data≠.fields vs)->b≠T0:=fun b o a c q=>by
   rw[q,k]at a;cases a;exact c B l
  refine Wh (s:={s with heap:=s.heap.update T0 (Obj.mapFields (·.setIfInBounds 3 Value.none))}) d (n.of_keeps fun b o a c=>⟨o,(other b (f b o a c)).trans a,rfl⟩) p ((other e (Ne.symm x)).trans i) j hsz fun h' T st m C D=>?_;refine h h' T ⟨fun b o q u g=>?_,fun b o q a=>?_⟩ ?_ C D
  ·have a:b≠T0:=fun z=>u (by rw[z];simp);exact st.keep b o ((other b a).trans q) (fun z=>u (by rw[List.mem_singleton.mp z];simp)) g
  ·obtain⟨_,G,z,nf⟩:=n.mem a;rw[q]at z;cases z;exact st.slot b o ((other b (f b o q nf)).trans q) a
  ·cases z:s.heap.get? T with
   |none=>rfl
   |some o=>
    by_cases v:T=T0
    ·rw[v,Heap.get?_update_self _ k (Obj.isFreed_of_fields (Obj.data_mapFields l _))]at m;cases m
    ·rw[other T v,z]at m;cases m
theorem leaveX(d:A.frames=some (env::outer))(k:s.heap.FunFrames base (env::outer))(l:env.frame=some L)(g:s.heap.get? e=some oe)(i:oe.data=.fields vs)(hsz:1<vs.size)(m:(vs[1]?=some .none/\S=[])∨∃T0,vs[1]?=some (.ref T0)/\T0≠e/\Entry s.heap T0 .none/\S=[T0])(h:∀h' T,fF (e::S) (OY (env::outer)) s.heap h'->s.heap.get? T=none->h'.get? e=some (oe.mapFields (·.setIfInBounds 1 (.ref T)))->Entry h' T .none->Q () {s with heap:=h'}):
  wpAny M A (leaving env (.ref e)) Q E s:=by
 unfold leaving;refine wpAny_bind (bB d k l g i hsz m fun n T st a j p=>?_);have f:e≠T:=fun z=>by rw[<-z,g]at a;cases a
 refine Wi (s:={s with heap:=n}) j (Obj.data_mapFields i _) (T:=T) (by simp[hsz]) p fun r k1 k2=>?_;refine h r T ⟨fun b o q t c=>?_,fun b o q u=>?_⟩ a ((k1 e f).trans j) k2
 ·exact(k1 b (fun z=>by rw[z,a]at q;cases q)).trans (st.keep b o q t c)
 ·obtain⟨v,z⟩:=st.slot b o q u;exact⟨v,(k1 b (fun z=>by rw[z,a]at q;cases q)).trans z⟩
end
section
variable{P:Program} {w:World} {H H':Hp} {h h' h0:Heap} {a e T C:Addr} {o:HO}
theorem BJ.some(x:BJ P w H h a o):∃u,h.get? a=some u:=by
 cases o with
 |lst b=>obtain⟨_,_,_,_,e⟩:=x;exact⟨_,e⟩
 |tup b=>obtain⟨_,_,_,c,e,_⟩:=x;exact⟨_,e⟩
 |dK kvs=>obtain⟨_,_,_,_,o,_,_,e,_⟩:=x;exact⟨_,e⟩
 |dT kvs=>obtain⟨_,_,_,_,o,_,_,e,_⟩:=x;exact⟨_,e⟩
 |set S n=>obtain⟨o,_,_,_,e,_⟩:=x;exact⟨_,e⟩
 |ins C d fs=>obtain⟨_,_,_,e,_⟩:=x;exact⟨_,e⟩
 |own y=>obtain⟨_,e⟩:=x;exact⟨_,e⟩
 |xd fs=>obtain⟨_,⟨_,_,_,e,_⟩,_⟩:=x;exact⟨_,e⟩
 |ag lo g=>obtain⟨_,_,_,e⟩:=x;exact⟨_,e⟩
 |DT c u=>obtain⟨e,_⟩:=x;exact⟨_,e⟩
 |ai i=>exact⟨_,(show h.get? a=some _ from x)⟩
 |met f y=>exact⟨_,(show h.get? a=some _ from x)⟩
 |ext j=>obtain⟨_,⟨_,e⟩,_⟩:=x;exact⟨_,e⟩
theorem Et.none_of(x:Et P w H h)(n:h.get? a=none):H a=none:=by
 cases q:H a with
 |none=>rfl
 |some u=>
  obtain⟨b,e⟩:=(x a u q).some;rw[n]at e;cases e
theorem Un.gy{fs g:List Addr}(u:Un fs [] H H' h0 h)(t:fF S g h h')(l:∀b∈S,h0.get? b=none)(m:∀b∈g,b∈fs∨h0.get? b=none):Un fs [] H H' h0 h':=by
 have j:∀{b o},h0.get? b=some o->b∉S:=fun q z=>by rw[l _ z]at q;cases q
 refine⟨fun b o q n i c=>?_,fun b o q n i c=>?_,u.free,fun b o q c=>?_,u.HR,u.Gm,u.IV⟩
 ·refine t.keep b o (u.keep b o q n i c) (j q) fun z=>?_;rcases m b z with z|z
  ·exact i z
  ·rw[z]at q;cases q
 ·obtain⟨p,e⟩:=u.slot b o q n i c;by_cases d:b∈g
  ·obtain⟨f,k⟩:=t.slot b _ e d;exact⟨f,k⟩
  ·exact⟨p,t.keep b _ e (j q) d⟩
 ·obtain⟨r,e⟩:=u.there b o q c;by_cases d:b∈g
  ·obtain⟨f,k⟩:=t.slot b _ e d;exact⟨_,k⟩
  ·exact⟨r,t.keep b _ e (j q) d⟩
theorem Et.gy{d:List Addr}(x:Et P w H h)(t:fF S d h h')(f:∀b∈S,H b=none)(g:∀b∈d,H b=none):Et P w H h':=fun a o q=>
 (x a o q).Gf (fun b u c e=>t.keep b u e (fun z=>c.elim (fun e=>by subst e;rw[f _ z]at q;cases q) fun c=>by rw[f _ z]at c;cases c) (fun z=>c.elim (fun e=>by subst e;rw[g _ z]at q;cases q) fun c=>by rw[g _ z]at c;cases c)) (fun _ q=>q) fun _ _ q=>q
end
section
variable{X:Cx} {pins:List (Addr×Obj)} {σ:St} {H:Hp} {s s':Shared} {E:XK} {e:Value}
end
section
variable{P:Program} {w:World} {K:vA} {mg:Str->Option Value} {base:Heap}
end
theorem bC{g:Type}{l:List g}(h:l.length=6):∃a b c d e f,l=[a,b,c,d,e,f]:=by
 cases l with
 |nil=>cases h
 |cons a l=>
 cases l with
 |nil=>cases h
 |cons b l=>
 cases l with
 |nil=>cases h
 |cons c l=>
 cases l with
 |nil=>cases h
 |cons d l=>
 cases l with
 |nil=>cases h
 |cons e l=>
 cases l with
 |nil=>cases h
 |cons f l=>
 cases l with
 |nil=>exact⟨a,b,c,d,e,f,rfl⟩
 |cons _ _=>cases h
section
variable{X:Cx}
end
def subIn(K:vA)(C D:Addr):Bool:=match K.lookup C with
 |some ⟨_,_,.cls a,_⟩=>a.mro.contains (.ref D)
 |_=>false
section
variable{M:Model} {A:Around} {E:Value->Shared->Prop}
theorem GB{nm q:Str}{C N:Addr}{bs G:List Value}{k:Bool}{sn:List Str}{sub:List Value}{ab:Bool}{p:Option Bool}{dd:Option Addr}{k0 k1 k2 k3 k5:Option Value}{newId:String}{r J:Str}{l K:Addr}{s c:List Value}{i:Bool}{u:List Str}{m:List Value}{v:Bool}{n:Option Bool}{w:Option Addr}{x y z B D:Option Value}{a:String}{h:Heap}{g:Array GenState}{d:Drawn}{t:Nat}{os:OsState}{e:Addr}{H:Obj}{b:Bool}{Q:Bool->Shared->Prop}(hC:h.get? C=some (excClassObj nm q C N bs G k sn sub ab p dd k0 k1 k2 k3 k5 newId))(I:h.get? l=some (excClassObj r J l K s c i u m v n w x y z B D a))(L:h.get? e=some H)(o:H.cls=.ref C)(j:c.contains (.type "BaseException")=true)(O:(Value.ref C::G).contains (.ref l)=b)(P:Q b ⟨h,g,d,t,os⟩):wpAny M A (excMatches (.ref e) (.ref l)) Q E ⟨h,g,d,t,os⟩:=by
 have F:(Value.ref l::c).contains (.type "BaseException")=true:=by rw[List.contains_cons,j,Bool.or_true]
 have f:=tc_notTuple;unfold excMatches;cases b<;>(repeat (first|(with_reducible refine wpAny_loadPart_at L ?_;rw[o])|with_reducible refine wpAny_loadPart_at I ?_|(with_reducible refine wpAny_isSubtype_exc I ?_;rw[F])|(with_reducible refine wpAny_isSubtype_exc hC ?_;rw[O])|wp_step))<;>exact P
end
abbrev Cx.held(X:Cx)(e:Value):Cx:={X with A:=X.A.mark (some e),calm:=false,xe:=fun _ _=>False}
section
variable{X:Cx} {pins:List (Addr×Obj)} {σ:St} {H:Hp} {s s':Shared} {E:XK} {e:Value}
theorem Inv.held(I:Inv X pins σ H s)(e:Value):Inv (X.held e) pins σ H s:=
 ⟨⟨I.ok.mod,I.ok.kind,I.ok.glob,I.ok.blt,I.ok.above,I.ok.inj,I.ok.has,I.ok.eZ,(fun z=>nomatch z),I.ok.frames,I.ok.fV,I.ok.bb,I.ok.bs,I.ok.VP,I.ok.QX,I.ok.QY,I.ok.IW,I.ok.aj⟩,
  I.os,I.bare,I.base,I.loc,I.cell,I.free,I.DV,I.pin,I.Bb,I.len⟩
theorem Inv.cx(ok:X.Ok)(I:Inv (X.held e) pins σ H s):Inv X pins σ H s:=⟨ok,I.os,I.bare,I.base,I.loc,I.cell,I.free,I.DV,I.pin,I.Bb,I.len⟩
end
section
variable{X:Cx} {CX:QU} {k:Nat} {f C Dd:Addr} {fd:FuncData} {ps:List Str} {sp:Sp} {x y n:Str} {p pos hp yp tp cp:Pos} {e0:Expr} {es:List Expr} {ta:TA} {lN lO:List Value} {nC nD:String} {b0:Stmt} {Kz:List Stmt} {ts:TS}
end
section
variable{X:Cx} {pins:List (Addr×Obj)} {σ:St} {H:Hp} {s s':Shared} {E:XK} {e:Value} {ea:Addr} {oe:Obj}
end
section
variable{X:Cx} {k i:Nat} {f C Dd:Addr} {fd:FuncData} {ps:List Str} {sp:Sp} {x y n:Str} {p pos hp yp tp cp:Pos} {e0:Expr} {es:List Expr} {ta:TA} {lN lO:List Value} {nC nD:String} {b0:Stmt} {Kz:List Stmt} {ts:Addr->TS}
def Ends.only(D:Ends):Ends:={nx:=fun _ _=>False,rt:=D.rt}
end
section
variable{X:Cx} {k i j:Nat} {f C Dd:Addr} {fd:FuncData} {ps:List Str} {sp:Sp} {x y n z:Str} {p pos hp yp tp cp zp:Pos} {e0:Expr} {es:List Expr} {ta:TA} {lN lO:List Value} {nC nD:String} {b0:Stmt} {Kz:List Stmt} {ts:TS} {tx:Addr->TS}
end
section
variable{K:vA} {x D:Addr} {ox:Obj}
abbrev OV:List Value:=[.type "ValueError",.type "Exception",.type "BaseException",.type "object"]
theorem oH:builtinKind "BaseException.__getattribute__"=some Manifest.AttrKind.slot:=by kernel_rfl
theorem oI:splitId "BaseException.__getattribute__"=some ("BaseException","__getattribute__"):=by kernel_rfl
theorem rA:OV.contains (.type "BaseException")=true:=by decide
variable{X:Cx} {ea C:Addr} {oe:Obj}
end
section
variable{P:Program} {w:World} {K:vA} {mg:Str->Option Value} {base:Heap}
end
end L2
namespace L2
open PySem
end L2
namespace L2
open PySem PySem.Spec PyProof.Rows
section
variable{P:Program} {w:World} {K:vA} {mg:Str->Option Value} {base:Heap}
end
section
variable{X:Cx} {CX:QU} {k:Nat} {f:Addr} {fd:FuncData} {ps:List Str} {ds:List Value} {aw:List V} {sp:Sp} {E:XK} {x:Str} {p pos:Pos} {e:Expr} {es:List Expr} {t:TA}
end
section
variable{X:Cx} {pins:List (Addr×Obj)} {σ:St} {H:Hp} {s:Shared} {ea C:Addr} {oe:Obj}
end
section
variable{X:Cx} {k i j:Nat} {f C Dd:Addr} {fd:FuncData} {ps:List Str} {sp:Sp} {x y n z:Str} {p pos hp yp tp cp zp:Pos} {e0:Expr} {es:List Expr} {ta:TA} {lN lO:List Value} {nC nD:String} {b0:Stmt} {Kz:List Stmt} {tx:TS}
end
variable{xs:List V}{its:List Value}
section
variable{X:Cx} {pins:List (Addr×Obj)} {σ:St} {H:Hp} {s:Shared}
theorem cy{j:Nat}{u:Value}(g:its[j]?=some u)(h:j<its.toArray.size):its.toArray[j]=u:=by
 have:=(uy g).2;simpa using this
theorem Jv(r:Vals xs its){j:Nat}(h:j<its.toArray.size):∃x,xs[j]?=some x/\RelV x its.toArray[j]:=by
 have e:its.toArray.size=xs.length:=by rw[List.size_toArray];exact r.length.symm
 have a:j<xs.length:=by rw[<-e];exact h
 obtain⟨u,g,b⟩:=r.get (ux a);exact⟨_,ux a,by rw[cy g h];exact b⟩
end
noncomputable def Hv:Key->PyData
 | .inl i=>.int i
 | .inr x=>.str x
mutual
inductive Fn(H:Hp):V->PyData->Prop
 |As:Fn H .As .none
 |bl (b:Bool):Fn H (.bl b) (.bool b)
 |int (i:Int):Fn H (.int i) (.int i)
 |str (x:Str):Fn H (.str x) (.str x)
 |lst {a:Addr} {xs:List V} {ds:List PyData} (h:Rd H a (.lst xs)) (r:Bz H xs ds):Fn H (.ref a) (.list ds)
 |tup {a:Addr} {xs:List V} {ds:List PyData} (h:H a=some (.tup xs)) (r:Bz H xs ds):Fn H (.ref a) (.tuple ds)
 |IU {a:Addr} {kvs:List (Key×V)} {ds:List PyData} (h:Rd H a (.dK kvs)) (r:Bz H (kvs.map (·.2)) ds):Fn H (.ref a) (.dict ((kvs.map fun p=>Hv p.1).zip ds))
 |lP {v:V} {d:PyData} (r:∀H',AF H H'->∀(P:Program)(w:World)(h:Heap),Et P w H' h->∀u,RelV v u->∃c,Reads h u d c/\∀b∈c,∃o,H' b=some o):Fn H v d
inductive Bz(H:Hp):List V->List PyData->Prop
 |nil:Bz H [] []
 |cons {x:V} {d:PyData} {xs:List V} {ds:List PyData} (h:Fn H x d) (t:Bz H xs ds):Bz H (x::xs) (d::ds)
end
theorem Bz.length{H:Hp}:∀{xs:List V}{ds:List PyData},Bz H xs ds->ds.length=xs.length
 |_,_,.nil=>rfl
 |_,_,.cons _ t=>by rw[List.length_cons,List.length_cons,t.length]
mutual
theorem Fn.up{H H':Hp}(e:AF H H'):∀{v:V}{d:PyData},Fn H v d->Fn H' v d
 |_,_,.As=>.As
 |_,_,.bl b=>.bl b
 |_,_,.int i=>.int i
 |_,_,.str x=>.str x
 |_,_,.lst h r=>.lst (h.up (e _)) (r.up e)
 |_,_,.tup h r=>.tup (e _ _ h) (r.up e)
 |_,_,.IU h r=>.IU (h.up (e _)) (r.up e)
 |_,_,.lP r=>.lP fun a s=>r a (e.trans s)
theorem Bz.up{H H':Hp}(e:AF H H'):∀{xs:List V}{ds:List PyData},Bz H xs ds->Bz H' xs ds
 |_,_,.nil=>.nil
 |_,_,.cons h t=>.cons (h.up e) (t.up e)
end
variable{H:Hp}
theorem Rd.some{a:Addr}{u:HO}(h:Rd H a u):∃o,H a=some o:=by
 rcases h with h|⟨o,h⟩
 ·exact⟨_,h⟩
 ·exact⟨_,h⟩
theorem ZU{a:Type}{kvs:List (a×V)}{b:List (a×Value)}(r:KV kvs b):Vals (kvs.map (·.2)) (b.map (·.2)):=by
 unfold KV at r
 induction r with
 |nil=>exact .nil
 |cons h _ c=>exact .cons h.2 c
theorem K_{P:Program}{w:World}:∀{a:List DictEntry}{b:List (Key×Value)},Pairs (BE P w) a b->a.map (·.val)=b.map (·.2)
 |_,_,.nil=>rfl
 |_,_,.cons _ c t=>by rw[List.map_cons,List.map_cons,c,K_ t]
theorem MQ{h:Heap}{P:Program}{w:World}:∀{c:List DictEntry}{d:List (Key×Value)},Pairs (BE P w) c d->ReadsAll h (c.map (·.key)) (d.map fun p=>Hv p.1) []
 |_,_,.nil=>.nil
 |_,_,.cons (e:=e) (kv:=kv) f g t=>by
  have:Reads h e.key (Hv kv.1) []:=by
   rcases Ba (show JJ kv.1 e.key=true from f)with⟨i,t,a,b⟩|⟨x,t,a,b⟩
   ·rw[a,b];exact .int i t
   ·rw[a,b];exact .str x t
  exact ReadsAll.cons this (MQ t)
mutual
theorem Fn.reads{P:Program}{w:World}{H:Hp}{h:Heap}(ok:Et P w H h):∀{v:V}{d:PyData},Fn H v d->∀{u:Value},RelV v u->∃g,Reads h u d g/\∀b∈g,∃o,H b=some o
 |_,_,.As,u,r=>by
  cases(show u=Value.none from r);exact⟨[],.none,fun b c=>nomatch c⟩
 |_,_,.bl b,u,r=>by
  cases(show u=Value.bool b from r);exact⟨[],.bool b,fun b c=>nomatch c⟩
 |_,_,.int i,u,r=>by
  obtain⟨t,rfl⟩:∃t,u=Value.int i t:=r;exact⟨[],.int i t,fun b c=>nomatch c⟩
 |_,_,.str x,u,r=>by
  obtain⟨t,rfl⟩:∃t,u=Value.str x t:=r;exact⟨[],.str x t,fun b c=>nomatch c⟩
 |_,_,.lst (a:=a) (xs:=xs) (ds:=ds) e t,u,r=>by
  cases(show u=Value.ref a from r);obtain⟨z,l,n,j,k⟩:=(show BJ P w H h a (.lst xs)from SY ok e);obtain⟨g,m,q⟩:=Bz.reads ok t j;refine⟨a::g,.list k rfl rfl (by simpa using m),fun b c=>?_⟩;rcases List.mem_cons.mp c with rfl|c
  ·exact e.some
  ·exact q b c
 |_,_,.tup (a:=a) (xs:=xs) (ds:=ds) e t,u,r=>by
  cases(show u=Value.ref a from r);obtain⟨z,l,j,A⟩:=(show BJ P w H h a (.tup xs)from ok a _ e);obtain⟨g,m,q⟩:=Bz.reads ok t j;obtain⟨o,k,B,n,s⟩:=A;exact⟨g,.tuple k B s (by simpa using m),q⟩
 |_,_,.IU (a:=a) (kvs:=kvs) (ds:=ds) e t,u,r=>by
  cases(show u=Value.ref a from r);obtain⟨z,G,C,j,o,I,J,k,D,s,_,y,_⟩:=(show BJ P w H h a (.dK kvs)from SY ok e);obtain⟨bs,E,c⟩:=Bz.reads ok t (ZU j);have lz:(kvs.map fun p=>Hv p.1).length=ds.length:=by rw[List.length_map,t.length,List.length_map]
  have k1:((kvs.map fun p=>Hv p.1).zip ds).map (·.1)=C.map fun p=>Hv p.1:=by
   rw[List.map_fst_zip (by lia)];have:=congrArg (List.map Hv) (KV.keys j);rw[List.map_map,List.map_map]at this;exact this
  have k2:((kvs.map fun p=>Hv p.1).zip ds).map (·.2)=ds:=List.map_snd_zip (by lia);refine⟨a::[]++bs,.dict k D.1 s (by rw[k1];exact MQ y) (by rw[k2,K_ y];exact E),fun b f=>?_⟩;rcases List.mem_cons.mp f with rfl|f
  ·exact e.some
  ·exact c b f
 |_,_,.lP F,u,r=>F H (AF.refl H) P w h ok u r
theorem Bz.reads{P:Program}{w:World}{H:Hp}{h:Heap}(ok:Et P w H h):∀{xs:List V}{ds:List PyData},Bz H xs ds->∀{a:List Value},Vals xs a->∃c,ReadsAll h a ds c/\∀b∈c,∃o,H b=some o
 |_,_,.nil,a,r=>by
  cases r;exact⟨[],.nil,fun b d=>nomatch d⟩
 |_,_,.cons q t,a,r=>by
  cases r with
  |cons e f=>
   obtain⟨c,g,i⟩:=q.reads ok e;obtain⟨bs,j,d⟩:=Bz.reads ok t f;exact⟨c++bs,.cons g j,fun b h=>(List.mem_append.mp h).elim (i b) (d b)⟩
end
inductive cz(xs:List V)(H:Hp)(Q:VK):Prop
 |mk(a:Addr)(d:PyData)(e:xs=[.ref a])(h:Fn H (.ref a) d)(s:d.showable=true)(z:d.shown.length<=sizeLine)(dp:d.depth<=150)(q:Q (.str d.shown) H)
def gz:List V->Hp->VK->Prop:=fun a H Q=>cz a H Q
theorem MR{X:Cx}{k:Nat}(b:BZ k X.A)(c:∃o,X.K.lookup sysModules=some o):CW X (.builtin "repr") gz:=by
 intro pins s w H x y Q I r h;obtain⟨a,d,rfl,f,g,z,dp,q⟩:=h;obtain⟨u,rfl,i⟩:=vals1 r;cases(show u=Value.ref a from i);obtain⟨j,l,n⟩:=f.reads I.Bb (show RelV (.ref a) (Value.ref a)from rfl);have no:sysModules∉j:=fun m=>by
  obtain⟨o,p⟩:=n _ m;obtain⟨B,lk⟩:=c;have:=(I.bs _ _ (I.ok.mod.bZ _ _ lk)).2;rw[p]at this;cases this
 have un:=b.un;exact repr_of_reads' (h₀:=s.heap) l g (fun _=>no) b.gd (by lia) (fun _ _ e=>e) (fun C u t v=>⟨.str d.shown,H,I.kept (t':=t) v,⟨_,rfl⟩,q⟩) z
variable{x:V}
theorem Ec{r:List V}:Of (x::r) 0=some x:=BV (j:=0) rfl
theorem Cy{y:V}{r:List V}:Of (x::y::r) 1=some y:=BV (j:=1) rfl
theorem at2{y z:V}{r:List V}:Of (x::y::z::r) 2=some z:=BV (j:=2) rfl
variable{c:Bool}
theorem Eg{b:Bool}{A B:Prop}(a:b=true->A)(d:b=false->B):if(if false=true then c else b)=true then A else B:=by
 rw[if_neg Bool.false_ne_true];cases b with
 |true=>exact Aj (a rfl)
 |false=>exact Ae (d rfl)
theorem bD{b:Bool}{A B:Prop}(a:c=true->A)(d:c=false->B):if(if true=true then c else b)=true then A else B:=by
 rw[if_pos rfl];cases c with
 |true=>exact Aj (a rfl)
 |false=>exact Ae (d rfl)
theorem MS{A B:Prop}(a:c=true->A)(b:c=false->B):if c=true then A else B:=by
 cases c with
 |true=>exact Aj (a rfl)
 |false=>exact Ae (b rfl)
theorem UX{X:Cx}{ss rest:List Stmt}{st:Stmt}{t u:TS}(e:ss=st::rest)(a:PS X st t)(b:Lr X rest u):Lr X ss (VW t u):=by
 subst e;exact AD a b
theorem Wj:bootBuiltins "repr"=some (.builtin "repr"):=by decide+kernel
theorem Co{t u:TS}{D:Ends}{σ:St}(R:St->Hp->Prop)(k:∀a H',R a H'->u D a H')(h:(∀a H',R a H'->u D a H')->t {D with nx:=u D} σ H):VW t u D σ H:=h k
noncomputable def MT:V->Bool
 | .str _=>false
 |_=>true
def K'(ys xs:List V):V:=if BQ (ys.take xs.length) xs&&decide (xs.length<ys.length)&&MT (ys.getD xs.length .As)then ys.getD xs.length .As else .As
def CD(a xs:List V):List V:=
 match a[xs.length-1]?,xs.getLast? with
 |some (.int i),some (.int j)=>if BQ (a.take (xs.length-1)) xs.dropLast=true/\(j<i∨(i=j/\xs.length<a.length))then a.set (xs.length-1) (.int (i+1))else a
 |_,_=>a
def CT(w:Str)(xs a:List V):List V:=if w="copy"then a else if w="move"then CD a xs else xs
def steps(xs:List V):Prop:=∀z∈xs,Dc.Bi z
theorem step_eq{y:V}(a:Dc.Bi x)(b:Dc.Bi y)(h:JL x y=true):x=y:=by
 rcases a with⟨i,rfl⟩|⟨k,rfl,_⟩<;>rcases b with⟨j,rfl⟩|⟨l,rfl,_⟩<;>simp_all [JL]
variable{ys:List V}
theorem FH(c:steps xs)(d:steps ys)(h:BQ xs ys=true):xs=ys:=by
 unfold BQ at h;simp only[Bool.and_eq_true,beq_iff_eq]at h;obtain⟨e,f⟩:=h;refine List.ext_getElem f fun i a b=>?_;have:=(List.all_eq_true.mp e) i (List.mem_range.mpr (by lia));rw[List.getD_eq_getElem?_getD,List.getD_eq_getElem?_getD,ux a,ux b]at this;exact step_eq (c _ (List.getElem_mem a)) (d _ (List.getElem_mem b)) this
variable{v:V}
theorem Sv(h:Dc.Bi v)(p:MT v=true):∃i:Nat,v=.int (i:Int):=by
 rcases h with h|⟨k,rfl,_⟩
 ·exact h
 ·cases p
variable{a b:List V}
theorem MU(sz:steps b)(h:(BQ (b.take a.length) a&&decide (a.length<b.length)&&MT (b.getD a.length .As))=true):
  ∃i:Nat,b[a.length]?=some (.int (i:Int))/\K' b a=.int (i:Int)/\BQ (b.take a.length) a=true/\a.length<b.length:=by
 have d:=h;simp only[Bool.and_eq_true,decide_eq_true_eq]at d;obtain⟨⟨k,c⟩,e⟩:=d;have g:b[a.length]?=some b[a.length]:=ux c;have f:b.getD a.length .As=b[a.length]:=by rw[List.getD_eq_getElem?_getD,g];rfl
 rw[f]at e;obtain⟨i,j⟩:=Sv (sz _ (List.getElem_mem c)) e;refine⟨i,by rw[g,j],?_,k,c⟩;unfold K';rw[h,if_pos rfl,f,j]
theorem MV(h:(BQ (b.take a.length) a&&decide (a.length<b.length)&&MT (b.getD a.length .As))=false):K' b a=.As:=by
 unfold K';rw[h,if_neg Bool.false_ne_true]
theorem Hy(b a:List V)(c:V):CD b (a++[c])=match b[a.length]?,c with
  |some (.int i),.int j=>if BQ (b.take a.length) a=true/\(j<i∨(i=j/\a.length+1<b.length))then b.set a.length (.int (i+1))else b
  |_,_=>b:=by
 unfold CD;have d:(a++[c]).length-1=a.length:=by simp
 have e:(a++[c]).getLast?=some c:=by simp
 have f:(a++[c]).dropLast=a:=by simp
 have g:(a++[c]).length=a.length+1:=by simp
 rw[d,e,f,g];cases b[a.length]? with
 |none=>rfl
 |some z=>cases z<;>cases c<;>rfl
theorem HE{d:V}(h:(BQ (b.take a.length) a&&decide (a.length<b.length)&&MT (b.getD a.length .As))=false):CD b (a++[d])=b:=by
 rw[Hy];by_cases e:a.length<b.length
 ·have g:b[a.length]?=some b[a.length]:=ux e;have f:b.getD a.length .As=b[a.length]:=by rw[List.getD_eq_getElem?_getD,g];rfl
  rw[f,decide_eq_true e,Bool.and_true]at h;rw[g];cases k:b[a.length]with
  |int i=>
   rw[k]at h;have l:BQ (b.take a.length) a=false:=by simpa[MT]using h
   cases d with
   |int j=>exact if_neg fun c=>by rw[l]at c;exact Bool.false_ne_true c.1
   |_=>rfl
  |_=>rfl
 ·rw[List.getElem?_eq_none_iff.mpr (by lia)]
theorem MW{k:Str}:CD a (b++[.str k])=a:=by
 rw[Hy];cases a[b.length]? with
 |none=>rfl
 |some z=>cases z<;>rfl
theorem UY{c:V}(d:Dc.Bi c)(h:(decide (a.length<b.length)&&BQ (b.take a.length) a&&MT c)=false):CD b (a++[c])=b:=by
 rcases d with⟨j,rfl⟩|⟨k,rfl,_⟩
 ·refine HE ?_;have e:(decide (a.length<b.length)&&BQ (b.take a.length) a)=false:=by simpa[MT]using h
  rw[Bool.and_comm (BQ _ _),e,Bool.false_and]
 ·exact MW
theorem MX{d:List V}{i j:Int}(g:a[d.length]?=some (.int i))(b:BQ (a.take d.length) d=true):CD a (d++[.int j])=if j<i∨(i=j/\d.length+1<a.length)then a.set d.length (.int (i+1))else a:=by
 rw[Hy,g];by_cases c:j<i∨(i=j/\d.length+1<a.length)
 ·rw[if_pos c];exact if_pos ⟨b,c⟩
 ·rw[if_neg c];exact if_neg fun z=>c z.2
theorem Cr(h:b.take a.length=a)(c:a.length<b.length):a++[v]++b.drop (a.length+1)=b.set a.length v:=by
 rw[List.set_eq_take_append_cons_drop,if_pos c,h,List.append_assoc];rfl
theorem Cd(a xs:List V):(CD a xs).length=a.length:=by
 unfold CD;split
 ·split<;>simp
 ·rfl
theorem GC(h:steps b):steps (CD b xs):=by
 unfold CD;split
 ·rename_i i j c d
  split
  ·intro z a;rcases List.mem_or_eq_of_mem_set a with a|rfl
   ·exact h z a
   ·have:=h _ (u_ c);rcases this with⟨k,e⟩|⟨k,e,_⟩
    ·cases e;exact .inl ⟨k+1,by simp⟩
    ·cases e
  ·exact h
 ·exact h
def Eh:Sp:=fun a H Q _=>∃z,a=[z]/\Dc.Bi z/\Q (.bl (MT z)) H
def RA:Sp:=fun d H Q _=>∃(p h:Addr)(a b:List V),d=[.ref p,.ref h]/\H p=some (.tup a)/\H h=some (.tup b)/\steps a/\steps b/\∀c,AF H c->Q (K' a b) c
def RC:Sp:=fun d H Q _=>∃(p h:Addr)(b a:List V)(i:Int),d=[.ref p,.ref h,.int i]/\H p=some (.tup b)/\H h=some (.tup a)/\b.length<=400/\a.length<=400/\∀q c,AF H c->c q=some (.tup (a++[.int i]++b.drop (a.length+1)))->Q (.ref q) c
def PX:Sp:=fun d H Q _=>∃(t p:Addr)(b a:List V),d=[.ref t,.ref p]/\H t=some (.tup b)/\H p=some (.tup a)/\a≠[]/\steps b/\steps a/\b.length<=400/\a.length<=400/\∀q c,AF H c->c q=some (.tup (CD b a))->Q (.ref q) c
def DH:List Str:=["put","take","move","copy","change","ask","has","lacks","is"]
structure Rw(H:Hp)(r:V)(w:Str)(xs zs:List V)(p:Addr):Prop where
 ex:∃(a:Addr)(rest:List V),r=.ref a/\H a=some (.tup (.str w::.ref p::rest))/\(w="copy"∨w="move"->∃p2,rest=[.ref p2]/\H p2=some (.tup zs))
 hp:H p=some (.tup xs)
 sx:steps xs
 sz:steps zs
 lx:xs.length<=100
 lz:zs.length<=100
 wd:w∈DH
 nx:w="put"∨w="lacks"∨w="take"∨w="move"->xs≠[]
 nz:w="copy"∨w="move"->zs≠[]
variable{w:Str}
theorem Rw.up{H':Hp}{r:V}{p:Addr}(h:Rw H r w xs b p)(s:AF H H'):Rw H' r w xs b p:=by
 obtain⟨⟨a,rest,e,c,d⟩,f,g,sz,i,lz,j,k,nz⟩:=h;exact⟨⟨a,rest,e,s _ _ c,fun hw=>by obtain⟨l,m,n⟩:=d hw;exact⟨l,m,s _ _ n⟩⟩,s _ _ f,g,sz,i,lz,j,k,nz⟩
def Fh(ws:List V):Sp:=fun b H Q _=>∃(r:V)(w:Str)(c d:List V)(p:Addr),b=[r]/\Rw H r w c d p/\∀a,AF H a->Q (if Cm (.str w) ws then .ref p else .As) a
def Ei:Sp:=fun a H Q _=>∃(r:V)(w:Str)(b c:List V)(p:Addr),a=[r]/\Rw H r w b c p/\Q (if decide (V.str w=.str "move")then .ref p else .As) H
def EH(H:Hp)(v:V)(ys:List V):Prop:=∃(t h:Addr)(l:V),v=.ref t/\H t=some (.tup [.ref h,l])/\H h=some (.tup ys.dropLast)/\ys.getLast?=some l
def H_:List Str:=["put","copy","move"]
def NU:List Str:=["take","change","move","copy","ask","has","is"]
abbrev BY:List V:=H_.map V.str
abbrev NV:List V:=NU.map V.str
theorem EU(w:Str):∀ws:List Str,Cm (.str w) (ws.map V.str)=decide (w∈ws)
 |[]=>by simp[Cm]
 |x::ws=>by
  have a:=EU w ws;simp only[Cm,List.map_cons,List.any_cons]at a⊢;rw[a];by_cases e:w=x
  ·subst e;simp[JL]
  ·have b:¬x=w:=fun z=>e z.symm;simp[JL,e,b]
theorem oJ(h:Cm (.str w) BY=true):w="put"∨w="copy"∨w="move":=by
 rw[EU]at h;have:=of_decide_eq_true h;simpa[H_]using this
noncomputable def LA:List Value->List Str->Bool
 |[],[]=>true
 | .str x _::a,y::ys=>x==y&&LA a ys
 |_,_=>false
def RD(K:vA)(a:Addr)(ws:List Str):Bool:=match K.lookup a with
 |some o=>o.cls==.type "tuple"&&(match o.data with
  | .seq b _=>decide (b.size<=1000)&&LA b.toList ws
  |_=>false)
 |none=>false
theorem MY:∀{a:List Value}{ws:List Str},LA a ws=true->Vals (ws.map V.str) a
 |[],[],_=>.nil
 |[],_::_,h=>by simp[LA]at h
 |u::a,[],h=>by cases u<;>simp[LA]at h
 |u::a,y::ys,h=>by
  cases u with
  |str x t=>
   simp only[LA,Bool.and_eq_true,beq_iff_eq]at h;obtain⟨rfl,h⟩:=h;exact .cons ⟨t,rfl⟩ (MY h)
  |_=>simp[LA]at h
theorem Ah.lQ{K:vA}{a:Addr}{ws:List Str}(h:RD K a ws=true)(H:Hp):Ah K H a (ws.map V.str):=by
 unfold RD at h;split at h
 ·rename_i o lk
  simp only[Bool.and_eq_true,beq_iff_eq]at h;obtain⟨c,h⟩:=h;split at h
  ·rename_i b n d
   simp only[Bool.and_eq_true,decide_eq_true_eq]at h;exact .inr ⟨o,b,n,lk,c,d,Ap h.1,MY h.2⟩
  ·cases h
 ·cases h
def GD(H:Hp)(v:V)(w:Str)(xs a:List V):Prop:=if Cm (.str w) BY then EH H v (CT w xs a)else v=.As
def Cs:Sp:=fun d H Q _=>∃(r:V)(w:Str)(b c:List V)(p:Addr),d=[r]/\Rw H r w b c p/\∀v a,AF H a->GD a v w b c->Q v a
inductive Bu(H:Hp):List Addr->List (List V)->Prop
 |nil:Bu H [] []
 |cons {a:Addr} {xs:List V} {c:List Addr} {b:List (List V)} (h:H a=some (.tup xs)) (t:Bu H c b):Bu H (a::c) (xs::b)
def nA(w:Str)(xs:List V):List (List V):=if Cm (.str w) NV then[xs]else[]
def nB(w:Str)(xs:List V):List (List V):=if w="lacks"then[xs.dropLast]else[]
def nC(w:Str)(xs a:List V):List (List V):=if Cm (.str w) BY then[(CT w xs a).dropLast]else[]
def BU(w:Str)(xs a:List V):List (List V):=(nA w xs++nB w xs)++nC w xs a
theorem LB(w:Str)(xs a:List V):(nA w xs++nC w xs a)++nB w xs=BU w xs a:=by
 unfold BU nB;by_cases h:w="lacks"
 ·subst h;have:nC "lacks" xs a=[]:=by unfold nC;rw[if_neg (by rw[EU];decide)]
  rw[this,List.append_nil,List.append_nil]
 ·rw[if_neg h,List.append_nil,List.append_nil]
theorem Ip(h:w∈DH):(!Cm (.str w) [.str "put",.str "lacks"])=Cm (.str w) NV:=by
 have e:Cm (.str w) [.str "put",.str "lacks"]=decide (w∈(["put","lacks"]:List Str)):=EU w ["put","lacks"];rw[e,EU];simp only[DH,List.mem_cons,List.not_mem_nil,or_false]at h;rcases h with rfl|rfl|rfl|rfl|rfl|rfl|rfl|rfl|rfl<;>decide
variable{ps:List Addr}
theorem Bu.length{a:List (List V)}(h:Bu H ps a):ps.length=a.length:=by
 induction h with
 |nil=>rfl
 |cons _ _ b=>rw[List.length_cons,List.length_cons,b]
theorem Bu.up{H':Hp}{a:List (List V)}(h:Bu H ps a)(s:∀b ys,H b=some (.tup ys)->H' b=some (.tup ys)):Bu H' ps a:=by
 induction h with
 |nil=>exact .nil
 |cons h _ c=>exact .cons (s _ _ h) c
theorem Bu.push{a:List (List V)}{p:Addr}(h:Bu H ps a)(b:H p=some (.tup ys)):Bu H (ps++[p]) (a++[ys]):=by
 induction h with
 |nil=>exact .cons b .nil
 |cons h _ c=>exact .cons h c
structure Nd(H H':Hp)(l:Addr)(ps:List Addr)(rB:List (List V)):Prop where
 same:AF H H'
 nl:H l=none
 hl:H' l=some (.lst (ps.map V.ref))
 tu:Bu H' ps rB
theorem Nd.up{H c H2:Hp}{l:Addr}{ps:List Addr}{a:List (List V)}(h:Nd H c l ps a)(s:AF c H2):Nd H H2 l ps a:=⟨h.same.trans s,h.nl,s _ _ h.hl,h.tu.up fun b d e=>s _ _ e⟩
theorem Nd.push{H a:Hp}{l p:Addr}{ps:List Addr}{c:List (List V)}{ys:List V}(h:Nd H a l ps c)(f:a p=some (.tup ys)):Nd H (upd a l (.lst (ps.map V.ref++[.ref p]))) l (ps++[p]) (c++[ys]):=by
 have k:∀b d,a b=some (.tup d)->upd a l (.lst (ps.map V.ref++[.ref p])) b=some (.tup d):=fun b d e=>by
  rw[AN (Es e h.hl (by intro z;cases z))];exact e
 exact⟨h.same.put h.nl,h.nl,by rw[AB,List.map_append];rfl,(h.tu.up k).push (k _ _ f)⟩
def IA:Sp:=fun e H Q _=>∃(r:V)(w:Str)(b c:List V)(p:Addr),e=[r]/\Rw H r w b c p/\∀(l:Addr)(d:List Addr)(a:Hp),AF H a->H l=none->a l=some (.lst (d.map V.ref))->Bu a d (BU w b c)->Q (.ref l) a
def NW(H:Hp)(v:V)(w:Str)(xs a:List V):Prop:=if w="lacks"then EH H v xs else if Cm (.str w) BY=true/\MT ((CT w xs a).getLastD .As)=false then EH H v (CT w xs a)else v=.As
def LC:Sp:=fun d H Q _=>∃(r:V)(w:Str)(b c:List V)(p:Addr),d=[r]/\Rw H r w b c p/\∀v a,AF H a->NW a v w b c->Q v a
theorem CU(c:steps xs)(b:steps a):steps (CT w xs a):=by
 unfold CT;split
 ·exact b
 ·split
  ·exact GC b
  ·exact c
theorem GF{e:List V}(b:steps xs)(c:steps e):∀ys∈BU w xs e,steps ys:=by
 intro ys a;unfold BU nA nB nC at a;have d:∀l:List V,steps l->steps l.dropLast:=fun l h z c=>h z (List.dropLast_subset _ c);rcases List.mem_append.mp a with a|a
 ·rcases List.mem_append.mp a with a|a
  ·split at a
   ·rw[List.mem_singleton.mp a];exact b
   ·cases a
  ·split at a
   ·rw[List.mem_singleton.mp a];exact d _ b
   ·cases a
 ·split at a
  ·rw[List.mem_singleton.mp a];exact d _ (CU b c)
  ·cases a
theorem MZ:(BU w xs a).length<=3:=by
 unfold BU nA nB nC;rw[List.length_append,List.length_append];split<;>split<;>split<;>simp
theorem EH.up{H':Hp}(h:EH H v ys)(s:AF H H'):EH H' v ys:=by
 obtain⟨t,a,l,e,b,c,d⟩:=h;exact⟨t,a,l,e,s _ _ b,s _ _ c,d⟩
theorem Dc.ZV{j:List V}:∀{d e n:Dc},d.Wf->d.sub j=some e->d.ok->n.ok->(d.Cc j n).ok:=by
 induction j with
 |nil=>
  intro d e n _ h _ f;have:Dc.Cc d [] n=n:=by cases d<;>rfl
  rw[this];exact f
 |cons z r p=>
  intro d e n s h b f;rcases Dc.CC h with⟨a,u,i,x,rfl,rfl,g,l⟩|⟨a,A,u,k,x,rfl,rfl,g,l⟩
  ·cases s with
   |row m=>
    simp only[Dc.ok]at b;have c:=u_ g;have o:=p (m x c) l (Dc.Bo.mp b x c) f;rw[Dc.DQ g];simp only[Dc.ok];refine Dc.Bo.mpr fun y q=>?_;rcases List.mem_or_eq_of_mem_set q with q|q
    ·exact Dc.Bo.mp b y q
    ·rw[q];exact o
  ·cases s with
   |tab v w m=>
    have t:=Dc.CA v w g;simp only[Dc.ok]at b;have c:=u_ t;have o:=p (m x c) l (Dc.Bo.mp b.2 x c) f;rw[Dc.EB t];simp only[Dc.ok];refine⟨b.1,Dc.Bo.mpr fun y q=>?_⟩;rcases List.mem_or_eq_of_mem_set q with q|q
    ·exact Dc.Bo.mp b.2 y q
    ·rw[q];exact o
theorem Dc.ZW{e:Dc}{z:V}(h:e.ok):(Dc.Ck e z).ok:=by
 cases e with
 |leaf v=>cases z<;>exact h
 |row a b=>
  cases z with
  |int i=>
   simp only[Dc.Ck,Dc.ok]at h⊢;exact Dc.Bo.mpr fun y q=>Dc.Bo.mp h y (List.mem_of_mem_eraseIdx q)
  |_=>exact h
 |tab a c b=>
  cases z with
  |str k=>
   simp only[Dc.Ck,Dc.ok]at h⊢;exact⟨fun y q=>h.1 y (List.mem_of_mem_eraseIdx q),Dc.Bo.mpr fun y q=>Dc.Bo.mp h.2 y (List.mem_of_mem_eraseIdx q)⟩
  |_=>exact h
theorem Dc.ZX{d:Dc}(h:d.At H):decide (d.val=.As)=false:=by
 cases d with
 |leaf v=>
  rcases(show Dc.Lf v from h)with⟨i,rfl⟩|⟨x,rfl,_⟩<;>rfl
 |row a b=>rfl
 |tab a c b=>rfl
def Sw:Sp:=fun e H Q _=>∃c d:Int,e=[.int c,.int d]/\∀(p:Dc)(b:Hp),AF H b->p.At b->p.Kk->(∀a∈p.addrs,∀o u,b a≠some (.DT o u))->(∀a∈p.addrs,H a=none)->Q p.val b
def Wk(K:vA):Sp:=fun f H Q _=>∃(a n:Addr)(c:List Int)(k m:Nat)(b:List Str),f=[.ref a,.int (k:Int),.int (m:Int),.ref n]/\Ay K H a (c.map V.int)/\c.length<=63/\k<=1000/\1<=m/\m<=24/\H n=some (.lst (b.map V.str))/\b.length<=100/\0<b.length/\(∀y∈b,Bn y=true)/\
 ∀(d:Dc)(e:Hp),Made H e d->d.size<=m->d.named b->Q d.val e
def low(xs:List V):Prop:=∀z∈xs,∀i:Int,z=.int i->i.natAbs<1000
def GG(K:vA):Sp:=fun b H Q _=>∃(l:Addr)(a:List V)(c:Int)(j:Nat),b=[.ref l,.int c,.int (j:Int)]/\Ay K H l a/\0<a.length/\j<=1000/\∀v∈a,Q v H
def DA(H:Hp)(v:V)(b n:Nat):Prop:=∃D:PyData,Fn H v D/\D.showable=true/\D.leavesShort 2000=true/\D.bulk<=b/\D.depth<=n
def Ed(H:Hp)(xs:List V)(b n:Nat):Prop:=∃a:List PyData,Bz H xs a/\PyData.showableAll a=true/\PyData.leavesShortAll 2000 a=true/\PyData.bulkAll a<=b/\PyData.depthAll a<=n
theorem Ed.nil{H:Hp}{n:Nat}:Ed H [] 0 n:=⟨[],.nil,rfl,rfl,Nat.le_refl _,Nat.zero_le _⟩
theorem Ed.cons{H:Hp}{v:V}{xs:List V}{b a n:Nat}(h:DA H v b n)(t:Ed H xs a n):Ed H (v::xs) (b+1+a) n:=by
 obtain⟨D,c,d,e,k,l⟩:=h;obtain⟨f,g,i,j,m,o⟩:=t;exact⟨D::f,.cons c g,by simp[PyData.showableAll,d,i],by simp[PyData.leavesShortAll,e,j],by simp only[PyData.bulkAll];lia,by simp only[PyData.depthAll];lia⟩
theorem DA.mono{b a n c:Nat}(h:DA H v b n)(g:b<=a)(i:n<=c):DA H v a c:=by
 obtain⟨D,d,e,f,j,k⟩:=h;exact⟨D,d,e,f,by lia,by lia⟩
theorem Ed.mono{b a n c:Nat}(h:Ed H xs b n)(g:b<=a)(i:n<=c):Ed H xs a c:=by
 obtain⟨D,d,e,f,j,k⟩:=h;exact⟨D,d,e,f,by lia,by lia⟩
theorem DA.tup{H:Hp}{a:Addr}{xs:List V}{b n:Nat}(h:H a=some (.tup xs))(t:Ed H xs b n):DA H (.ref a) b (n+1):=by
 obtain⟨c,d,e,f,g,i⟩:=t;exact⟨.tuple c,.tup h d,by simpa[PyData.showable]using e,by simpa[PyData.leavesShort]using f,by simpa[PyData.bulk]using g,by simp only[PyData.depth];lia⟩
theorem DA.lst{H:Hp}{a:Addr}{xs:List V}{b n:Nat}(h:Rd H a (.lst xs))(t:Ed H xs b n):DA H (.ref a) b (n+1):=by
 obtain⟨c,d,e,f,g,i⟩:=t;exact⟨.list c,.lst h d,by simpa[PyData.showable]using e,by simpa[PyData.leavesShort]using f,by simpa[PyData.bulk]using g,by simp only[PyData.depth];lia⟩
theorem DA.int{H:Hp}{i:Int}{n:Nat}(h:i.natAbs<2 ^ 400):DA H (.int i) 0 n:=by
 have a:i.natAbs.log2<400:=by
  by_cases z:i.natAbs=0
  ·rw[z];decide
  ·exact(Nat.log2_lt z).mpr h
 refine⟨.int i,.int i,by simp only[PyData.showable,decide_eq_true_eq];lia,?_,Nat.le_refl _,Nat.zero_le _⟩;simp only[PyData.leavesShort,decide_eq_true_eq,PyData.shown];exact decide_eq_true (Nat.le_trans (int_text_len_1921 (i:=i) (by lia)) (show 1921<=2000 by decide))
theorem Ma{c:Nat}(h:Ow c=true):c<16 ^ 8:=by
 have:=of_decide_eq_true h;have all:∀c∈YY,c<16 ^ 8:=by decide+kernel
 exact all c this
theorem DA.str{H:Hp}{x:Str}{n b:Nat}(h:(sgn x).all Ow=true)(l:x.length<=b):DA H (.str x) b n:=by
 refine⟨.str x,.str x,rfl,?_,l,Nat.zero_le _⟩;simp only[PyData.leavesShort,List.all_eq_true,decide_eq_true_eq];exact fun c a=>Ma (List.all_eq_true.mp h c a)
theorem Mb{x:Str}(h:Bn x=true):(sgn x).all Ow=true:=by
 unfold Bn JM at h;simp only[Bool.and_eq_true]at h;exact h.2
theorem bE{H:Hp}:∀{ks:List Str}{xs:List Dc},ks.length=xs.length->(∀k∈ks,Bn k=true)->(∀x∈xs,∃b,b+10<=22*x.size/\DA H x.val b x.size)->
  ∃a:List PyData,Bz H ((Dc.kvs ks xs).map (·.2)) a/\PyData.showableKv (((Dc.kvs ks xs).map fun p=>Hv p.1).zip a)=true/\PyData.leavesShortKv 2000 (((Dc.kvs ks xs).map fun p=>Hv p.1).zip a)=true/\PyData.bulkKv (((Dc.kvs ks xs).map fun p=>Hv p.1).zip a)<=22*Dc.AZ xs/\PyData.depthKv (((Dc.kvs ks xs).map fun p=>Hv p.1).zip a)<=Dc.AZ xs
 |[],[],_,_,_=>⟨[],.nil,rfl,rfl,Nat.zero_le _,Nat.zero_le _⟩
 |k::ks,x::xs,l,g,h=>by
  obtain⟨b,u,D,j,m,n,v,w⟩:=h x List.mem_cons_self;obtain⟨a,o,q,r,z,A⟩:=bE (H:=H) (ks:=ks) (xs:=xs) (by simpa using l) (fun y f=>g y (List.mem_cons_of_mem _ f)) fun y f=>h y (List.mem_cons_of_mem _ f);have e:Dc.kvs (k::ks) (x::xs)=(Sum.inr k,x.val)::Dc.kvs ks xs:=rfl;have i:=g k List.mem_cons_self;have lk:k.cps.size<=8:=(MF i).2;have s:k.cps.toList.all (fun c=>decide (c<16 ^ 8))=true:=by
   simp only[List.all_eq_true,decide_eq_true_eq];exact fun c t=>Ma (List.all_eq_true.mp (Mb i) c t)
  rw[e];have d:Hv (Sum.inr k)=.str k:=rfl;refine⟨D::a,.cons j o,?_,?_,?_,?_⟩
  ·simp only[List.map_cons,List.zip_cons_cons,d,PyData.showableKv,PyData.showable,m,q,Bool.and_self]
  ·simp only[List.map_cons,List.zip_cons_cons,d,PyData.leavesShortKv,PyData.leavesShort,n,r,s,Bool.and_self]
  ·simp only[List.map_cons,List.zip_cons_cons,d,PyData.bulkKv,PyData.bulk,Dc.AZ];lia
  ·simp only[List.map_cons,List.zip_cons_cons,d,PyData.depthKv,PyData.depth,Dc.AZ];have:=Dc.size_pos x;lia
theorem Wl{H:Hp}:∀{xs:List Dc},(∀x∈xs,∃b,b+10<=22*x.size/\DA H x.val b x.size)->Ed H (xs.map Dc.val) (22*Dc.AZ xs) (Dc.AZ xs)
 |[],_=>Ed.nil.mono (Nat.zero_le _) (Nat.le_refl _)
 |x::xs,a=>by
  obtain⟨b,d,h⟩:=a x List.mem_cons_self;have t:=Wl (H:=H) (xs:=xs) fun y c=>a y (List.mem_cons_of_mem _ c);have:=Ed.cons (h.mono (Nat.le_refl _) (show x.size<=Dc.AZ (x::xs)by simp only[Dc.AZ];lia)) (t.mono (Nat.le_refl _) (show Dc.AZ xs<=Dc.AZ (x::xs)by simp only[Dc.AZ];lia));exact this.mono (by simp only[Dc.AZ];lia) (Nat.le_refl _)
mutual
theorem Dc.fin{H:Hp}:∀d:Dc,d.ok->d.At H->∃b,b+10<=22*d.size/\DA H d.val b d.size
 | .leaf v,ok,_=>by
  rcases(show Kj v from ok)with⟨i,rfl,g⟩|⟨x,rfl,f⟩
  ·exact⟨0,by simp[Dc.size],.int g⟩
  ·have l:=PD f;have a:(sgn x).all Ow=true:=by
    unfold WK at f;simp only[Bool.and_eq_true]at f;exact f.2
   exact⟨12,by simp[Dc.size],.str a l⟩
 | .row a e,ok,c=>by
  simp only[Dc.ok]at ok;simp only[Dc.At]at c;exact⟨22*Dc.AZ e,by simp only[Dc.size];lia,(DA.lst c.1 (Wl (Dc.c_ e ok c.2))).mono (Nat.le_refl _) (by simp only[Dc.size];lia)⟩
 | .tab a h e,ok,c=>by
  simp only[Dc.ok]at ok;simp only[Dc.At]at c;obtain⟨j,k,m,n,o,q⟩:=bE c.2.1 ok.1 (Dc.c_ e ok.2 c.2.2.2);exact⟨22*Dc.AZ e,by simp only[Dc.size];lia,.dict (((Dc.kvs h e).map fun(p:Key×V)=>Hv p.1).zip j),Fn.IU c.1 k,by simpa[PyData.showable]using m,by simpa[PyData.leavesShort]using n,by simpa[PyData.bulk]using o,by simp only[PyData.depth,Dc.size];lia⟩
theorem Dc.c_{H:Hp}:∀xs:List Dc,Dc.Jj xs->Dc.DP H xs->∀x∈xs,∃b,b+10<=22*x.size/\DA H x.val b x.size
 |[],_,_=>fun x c=>nomatch c
 |y::r,ok,a=>by
  simp only[Dc.Jj]at ok;simp only[Dc.DP]at a;intro x c;rcases List.mem_cons.mp c with e|c
  ·rw[e];exact Dc.fin y ok.1 a.1
  ·exact Dc.c_ r ok.2 a.2 x c
end
theorem Dc.NX{f:List V}:∀{d e:Dc},d.sub f=some e->d.size<=900->low f:=by
 induction f with
 |nil=>intro d e _ _ z b;cases b
 |cons y r m=>
  intro d e h sz;rcases Dc.CC h with⟨a,n,i,x,rfl,rfl,c,g⟩|⟨a,p,n,k,x,rfl,rfl,c,g⟩
  ·have l:=u_ c;have o:=Dc.CQ l;have q:=(uy c).1;have s:=Dc.Gv n;simp only[Dc.size]at sz;intro z b j e;rcases List.mem_cons.mp b with rfl|b
   ·cases e;lia
   ·exact m g (by lia) z b j e
  ·have l:=(Dc.Ad c).2;have o:=Dc.CQ l;simp only[Dc.size]at sz;intro z b j e;rcases List.mem_cons.mp b with rfl|b
   ·cases e
   ·exact m g (by lia) z b j e
theorem Wm(h:w∈DH){n:Nat}:DA H (.str w) 6 n:=by
 have all:∀w∈DH,(sgn w).all Ow=true/\w.length<=6:=by decide+kernel
 exact .str (all w h).1 (all w h).2
section
variable{prog:Program} {w:World} {A:Around} {E:Value->Shared->Prop} {s:Shared}
end
section
variable{prog:Program} {w:World} {A:Around} {s:Shared} {R:Result->Shared->Prop} {xs ys:Array Value}
end
section
variable{prog:Program} {w:World} {A:Around} {E:Value->Shared->Prop} {s:Shared} {xs ys:Array Value}
end
section
variable{X:Cx} {pins:List (Addr×Obj)} {σ:St} {H:Hp} {s:Shared}
end
section
variable{prog:Program} {w:World} {A:Around} {E:Value->Shared->Prop} {s:Shared}
end
open PySem.AutoSeq1 (wpAny_loadPart')
open PySem.MeetsSeq3
section
variable{prog:Program} {w:World} {A:Around} {s:Shared}
end
class A_(K:outParam vA):Prop where
 x:True
section
variable{X:Cx}
end
inductive Pt where
 |int (i:Int)
 |str (x:Str)
 |bl (b:Bool)
 |As
 |lst (xs:List Pt)
 |tup (xs:List Pt)
 |IU (ks:List Str) (xs:List Pt)
namespace Pt
mutual
noncomputable def size:Pt->Nat
 |int _|str _|bl _|As=>1
 |lst xs|tup xs=>1+AZ xs
 |IU _ xs=>1+AZ xs
noncomputable def AZ:List Pt->Nat
 |[]=>0
 |x::r=>size x+AZ r
end
mutual
noncomputable def deep:Pt->Nat
 |int _|str _|bl _|As=>1
 |lst xs|tup xs=>1+ET xs
 |IU _ xs=>1+ET xs
noncomputable def ET:List Pt->Nat
 |[]=>0
 |x::r=>max (deep x) (ET r)
end
mutual
def doc:Pt->Prop
 |int _=>True
 |str x=>x.length<=100
 |bl _=>False
 |As=>False
 |tup _=>False
 |lst xs=>dA xs
 |IU ks xs=>ks.length=xs.length/\ks.Nodup/\(∀k∈ks,Bn k=true)/\ks.length<64/\dA xs
def dA:List Pt->Prop
 |[]=>True
 |x::r=>doc x/\dA r
end
def look(ks:List Str)(xs:List Pt)(k:Str):Option Pt:=(ks.zip xs).lookup k
mutual
noncomputable def lR:Pt->Pt->Bool
 |int i,int j=>i==j
 |str x,str y=>x==y
 |bl a,bl b=>a==b
 |As,As=>true
 |lst xs,lst ys=>dB xs ys
 |tup xs,tup ys=>dB xs ys
 |IU ks xs,IU ls ys=>ks.length==ls.length&&g_ ks xs ls ys
 |_,_=>false
noncomputable def dB:List Pt->List Pt->Bool
 |[],[]=>true
 |x::xs,y::ys=>lR x y&&dB xs ys
 |_,_=>false
noncomputable def g_:List Str->List Pt->List Str->List Pt->Bool
 |k::ks,x::xs,ls,ys=>(match look ls ys k with|some y=>lR x y|none=>false)&&g_ ks xs ls ys
 |_,_,_,_=>true
end
end Pt
mutual
inductive Val{K:vA}[A_ K](H:Hp):V->Pt->Prop
 |int (i:Int):Val H (.int i) (.int i)
 |str (x:Str):Val H (.str x) (.str x)
 |bl (b:Bool):Val H (.bl b) (.bl b)
 |As:Val H .As .As
 |lst {a:Addr} {d:List V} {c:List Pt} (h:Rd H a (.lst d)) (r:UZ H d c):Val H (.ref a) (.lst c)
 |tup {a:Addr} {d:List V} {c:List Pt} (h:Ah K H a d) (r:UZ H d c):Val H (.ref a) (.tup c)
 |IU {a:Addr} {kvs:List (Key×V)} {ks:List Str} {c:List Pt} (h:Rd H a (.dK kvs)) (e:kvs.map (·.1)=ks.map Sum.inr) (r:UZ H (kvs.map (·.2)) c):Val H (.ref a) (.IU ks c)
inductive UZ{K:vA}[A_ K](H:Hp):List V->List Pt->Prop
 |nil:UZ H [] []
 |cons {v:V} {t:Pt} {a:List V} {b:List Pt} (h:Val H v t) (r:UZ H a b):UZ H (v::a) (t::b)
end
section
variable{K:vA} [A_ K]
end
section
variable{K:vA} [A_ K]
end
section
variable{X:Cx} [A_ X.K] {pins:List (Addr×Obj)} {σ:St} {H:Hp} {s:Shared}
end
section
end
section
variable{X:Cx}
end
inductive dC:Pt->Prop
 |int (i:Int):dC (.int i)
 |str (x:Str):dC (.str x)
 |nil:dC (.lst [])
 |emp:dC (.IU [] [])
inductive Sm:Pt->Prop
 |one {t:Pt} (h:dC t):Sm t
 |row {xs:List Pt} (h:∀x∈xs,dC x):Sm (.lst xs)
 |tab {ks:List Str} {xs:List Pt} (h:∀x∈xs,dC x):Sm (.IU ks xs)
section
variable{A:Around} {s:Shared}
end
section
variable{X:Cx} [A_ X.K] {pins:List (Addr×Obj)} {σ:St} {H:Hp} {s:Shared}
end
section
end
section
variable{X:Cx}
end
def lk{a:Type}(ks:List Str)(xs:List a)(k:Str):Option a:=(ks.zip xs).lookup k
noncomputable def pk{a:Type}(f:a->Pt->Bool):Option a->Option Pt->Bool
 |some x,some y=>f x y
 |_,_=>false
section
variable{K:vA} [A_ K]
noncomputable def Pt.MH:Pt->String
 | .int _=>"int"
 | .str _=>"str"
 | .bl _=>"bool"
 | .As=>"NoneType"
 | .lst _=>"list"
 | .tup _=>"tuple"
 | .IU _ _=>"dict"
end
section
variable{X:Cx}
inductive lS(K:vA)(xs:List V)(H:Hp)(Q:VK):Prop
 |mk(p:Addr)(bs:List Bool)(a:xs=[.ref p])(b:Ay K H p (bs.map V.bl))(c:Q (.bl (bs.any id)) H)
theorem Wn(x:X.calm=true):CW X (.builtin "any") (lS X.K):=by
 intro pins s L H M N Q I r h;obtain⟨p,bs,rfl,y,q⟩:=h;obtain⟨u,rfl,k⟩:=vals1 r;cases k;obtain⟨c,l,t,O⟩:=I.list y;obtain⟨B,d,f⟩:=id t.isList;have m:p<s.heap.objs.size:=Heap.lt_size d;have n:X.A.in1.handled=none:=I.ok.hd x;have hlen:c.toArray.size=bs.length:=by rw[List.size_toArray,<-l.length,List.length_map]
 refine call_any_walk (wpAny_pyIter_list t.isList ⟨s.heap.objs.size,_,_,_,_,_,fun i=>bs.getD i true,rfl,Walks.list n s.heap.objs.size p (Nat.ne_of_lt m) c.toArray,⟨⟨_,Heap.get?_push_size _ rfl,rfl,rfl⟩,⟨B,Heap.get?_push_of_some _ d,f⟩⟩,?_,fun P C kept=>?_⟩)
 ·intro i v D E R g j;have g:c[i]?=some v:=by simpa using g
  have a:i<bs.length:=by
   have:=(uy g).1;rw[<-l.length,List.length_map]at this;exact this
  have e:(bs.map V.bl)[i]?=some (V.bl bs[i]):=by rw[List.getElem?_map,ux a];rfl
  obtain⟨u,w,k⟩:=l.get e;rw[g]at w;cases w;cases k;have F:bs.getD i true=bs[i]:=by rw[List.getD_eq_getElem?_getD,ux a];rfl
  have j:E (bs.getD i true) D:=j;rw[F]at j;exact wpAny_truthy_bool j
 ·refine⟨.bl (bs.any id),H,I.kept (t':=C) fun b o e=>kept b o (fun z=>?_) (Heap.get?_push_of_some _ e),?_,q⟩
  ·have G:b=s.heap.objs.size:=by simpa using z
   exact Nat.ne_of_lt (Heap.lt_size e) G
  ·show Value.bool _=Value.bool _;congr 1;rw[hlen,Bool.eq_iff_iff,List.any_eq_true,List.any_eq_true];constructor
   ·intro⟨i,a,h⟩;have a:=List.mem_range.mp a;rw[List.getD_eq_getElem?_getD,ux a]at h;exact⟨_,List.getElem_mem a,h⟩
   ·intro⟨b,J,h⟩;obtain⟨i,a,rfl⟩:=List.mem_iff_getElem.mp J;exact⟨i,List.mem_range.mpr a,by rw[List.getD_eq_getElem?_getD,ux a];exact h⟩
end
inductive Ak where
 |any
 |HF (d:Pt)
 |row (xs:List Ak) (m:Bool)
 |tab (ks:List Str) (xs:List Ak) (ls:List Str) (m:Bool)
namespace Ak
mutual
noncomputable def pt:Ak->Pt
 |any=>.tup [.str "any"]
 |HF d=>.tup [.str "just",d]
 |row xs m=>.tup [.str "row",.lst (hF xs),.bl m]
 |tab ks xs ls m=>.tup [.str "table",.IU ks (hF xs),.lst (ls.map Pt.str),.bl m]
noncomputable def hF:List Ak->List Pt
 |[]=>[]
 |x::r=>pt x::hF r
end
mutual
noncomputable def size:Ak->Nat
 |any=>1
 |HF _=>1
 |row xs _=>1+AZ xs
 |tab _ xs _ _=>1+AZ xs
noncomputable def AZ:List Ak->Nat
 |[]=>0
 |x::r=>size x+AZ r
end
mutual
noncomputable def deep:Ak->Nat
 |any=>1
 |HF _=>1
 |row xs _=>1+ET xs
 |tab _ xs _ _=>1+ET xs
noncomputable def ET:List Ak->Nat
 |[]=>0
 |x::r=>max (deep x) (ET r)
end
mutual
def ok:Ak->Prop
 |any=>True
 |HF d=>Sm d/\d.doc/\d.size<=10
 |row xs _=>Jj xs
 |tab ks xs ls _=>ks.length=xs.length/\ks.Nodup/\(∀k∈ks,Bn k=true)/\ks.length<60/\(ls.length<=60/\ls.Nodup/\sortedS ls=true)/\(∀l∈ls,l∉ks)/\Jj xs
def Jj:List Ak->Prop
 |[]=>True
 |x::r=>ok x/\Jj r
end
mutual
def kr:Ak->Prop
 |any=>True
 |HF _=>True
 |row xs _=>dD xs
 |tab ks xs ls _=>ks.length+ls.length<=4/\dD xs
def dD:List Ak->Prop
 |[]=>True
 |x::r=>kr x/\dD r
end
def cnt(c l:Nat)(m:Bool):Bool:=c==l||(m&&decide (l<c))
mutual
noncomputable def lets:Ak->Pt->Bool
 |any,_=>true
 |HF d,t=>Pt.lR d t
 |row xs m,.lst ys=>cnt ys.length xs.length m&&bF xs ys
 |tab ks xs ls m,.IU a ys=>(ks.all (fun k=>decide (k∈a))&& !(ls.any fun k=>decide (k∈a))&&cnt a.length ks.length m)&&bG ks xs a ys
 |_,_=>false
noncomputable def bF:List Ak->List Pt->Bool
 |a::b,y::ys=>lets a y&&bF b ys
 |_,_=>true
noncomputable def bG:List Str->List Ak->List Str->List Pt->Bool
 |k::ks,x::xs,a,ys=>(match lk a ys k with|some y=>lets x y|none=>false)&&bG ks xs a ys
 |_,_,_,_=>true
end
noncomputable def hold:Ak->Pt
 |row xs _=>.lst (hF xs)
 |tab ks xs _ _=>.IU ks (hF xs)
 |_=>.lst []
end Ak
section
variable{K:vA} [A_ K]
end
section
variable{K:vA} [A_ K]
end
section
variable{K:vA} [A_ K]
def nw(H H':Hp):Hp:=fun b=>match H b with
 |none=>H' b
 |some _=>none
section
variable{J:It} {te:TE} {fs:List Nat} {σ:St} {H:Hp} {Q:VK}
end
mutual
def Pt.nice:Pt->Prop
 | .int _| .str _| .bl _| .As=>True
 | .lst xs| .tup xs=>xs.length<=900/\Pt.Wo xs
 | .IU ks xs=>ks.length=xs.length/\ks.Nodup/\ks.length<=900/\Pt.Wo xs
def Pt.Wo:List Pt->Prop
 |[]=>True
 |x::r=>Pt.nice x/\Pt.Wo r
end
mutual
noncomputable def Pt.wide:Pt->Nat
 | .int _| .str _| .bl _| .As=>0
 | .lst xs| .tup xs=>Pt.Wq xs
 | .IU ks xs=>max ks.length (Pt.Wq xs)
noncomputable def Pt.Wq:List Pt->Nat
 |[]=>0
 |x::r=>max (Pt.wide x) (Pt.Wq r)
end
def ov(G H H':Hp):Hp:=fun b=>match G b with
 |some o=>some o
 |none=>nw H H' b
end
section
variable{K:vA} [A_ K]
end
section
variable{X:Cx}
end
section
variable{K:vA} [A_ K]
namespace Ak
end Ak
section
variable{H H4:Hp} {l p6 p7:Addr} {ys:List Str} {d N:Nat} {i:Nat} {Hi:Hp} {ks:List Str} {as:List Ak} {ls:List Str} {uL:List Int} {ws:List V}
end
end
section
variable{K:vA} [A_ K]
section
variable{X:Cx}
end
end
section
variable{K:vA} [A_ K]
end
end L2
namespace PySem
open PyProof.Rows PySem.F PySem.Spec
end PySem
namespace L2
open PySem PySem.Spec PyProof.Rows
section
variable{prog:Program} {w:World} {K:Type} [DecidableEq K] {knd:KeyKind prog w K} {A:Around} {R:Result->Shared->Prop}
end
section
variable{X:Cx} {pins:List (Addr×Obj)} {σ:St} {H:Hp} {s:Shared}
end
section
variable{X:Cx} {tg:Expr}
end
section
variable{K:vA} [A_ K]
namespace Dc
mutual
noncomputable def tr:Dc->Pt
 |leaf (.int i)=>.int i
 |leaf (.str x)=>.str x
 |leaf _=>.int 0
 |row _ xs=>.lst (lT xs)
 |tab _ ks xs=>.IU ks (lT xs)
noncomputable def lT:List Dc->List Pt
 |[]=>[]
 |x::r=>tr x::lT r
end
end Dc
end
namespace Ak
mutual
def rC:Ak->Prop
 |any=>True
 |HF d=>d.doc
 |row xs _=>dE xs
 |tab ks xs ls _=>ks.length=xs.length/\ks.Nodup/\(∀k∈ks,Bn k=true)/\ks.length<60/\ls.length<=100/\(∀l∈ls,l∉ks)/\dE xs
def dE:List Ak->Prop
 |[]=>True
 |x::r=>rC x/\dE r
end
mutual
noncomputable def wt:Ak->Nat
 |any=>1
 |HF d=>d.size
 |row xs _=>1+lU xs
 |tab _ xs _ _=>1+lU xs
noncomputable def lU:List Ak->Nat
 |[]=>0
 |x::r=>wt x+lU r
end
mutual
noncomputable def dp:Ak->Nat
 |any=>1
 |HF d=>d.deep
 |row xs _=>1+lV xs
 |tab _ xs _ _=>1+lV xs
noncomputable def lV:List Ak->Nat
 |[]=>0
 |x::r=>max (dp x) (lV r)
end
end Ak
namespace Ak
end Ak
namespace Ak
noncomputable def dF:List Ak->Option (List Pt)
 |[]=>some []
 |HF d::r=>(dF r).map (d::·)
 |_::_=>none
def ZY(a:List Ak)(m:Bool):Ak:=if m then row a true else match dF a with
 |some b=>HF (.lst b)
 |none=>row a false
def ZZ(ss:List Str)(a:List Ak)(ls:List Str)(m:Bool):Ak:=if m then tab ss a ls true else match dF a with
 |some b=>HF (.IU ss b)
 |none=>tab ss a [] false
mutual
inductive Good:Ak->Ak->Prop
 |any:Good .any .any
 |HF (d:Pt):Good (.HF d) (.HF d)
 |row {xs a:List Ak} {m:Bool} (h:PY xs a):Good (.row xs m) (ZY a m)
 |tab {ks ss:List Str} {xs b a:List Ak} {ls:List Str} {m:Bool} (c:ss.Perm ks) (f:sortedS ss=true) (e:ss.map (lk ks xs)=b.map some) (h:PY b a):Good (.tab ks xs ls m) (ZZ ss a ls m)
inductive PY:List Ak->List Ak->Prop
 |nil:PY [] []
 |cons {x y:Ak} {xs ys:List Ak} (h:Good x y) (r:PY xs ys):PY (x::xs) (y::ys)
end
end Ak
noncomputable def Pt.hold:Pt->Pt
 | .tup (.str w::h::_)=>if w="row"∨w="table"then h else .lst []
 |_=>.lst []
mutual
inductive jc:Nat->Pt->Prop
 |leaf {w:Str} {r:List Pt} (a:w≠"row") (b:w≠"table"):jc 1 (.tup (.str w::r))
 |row {n:Nat} {xs r:List Pt} (z:xs.length<=900) (h:Wr n xs):jc (n+1) (.tup (.str "row"::.lst xs::r))
 |tab {n:Nat} {ks:List Str} {xs r:List Pt} (l:ks.length=xs.length) (c:ks.Nodup) (z:ks.length<64) (h:Wr n xs):jc (n+1) (.tup (.str "table"::.IU ks xs::r))
inductive Wr:Nat->List Pt->Prop
 |nil:Wr 0 []
 |cons {n m:Nat} {x:Pt} {r:List Pt} (h:jc n x) (t:Wr m r):Wr (n+m) (x::r)
end
namespace Ak
end Ak
section
variable{K:vA} [A_ K]
end
section
variable{prog:Program} {w:World} {A:Around} {E:Value->Shared->Prop} {s:Shared}
end
section
variable{prog:Program} {w:World} {A:Around} {R:Result->Shared->Prop}
end
section
variable{prog:Program} {w:World} {A:Around} {E:Value->Shared->Prop} {s:Shared}
end
section
variable{prog:Program} {w:World} {A:Around} {E:Value->Shared->Prop} {s:Shared}
end
section
variable{prog:Program} {w:World} {A:Around} {E:Value->Shared->Prop} {s:Shared}
end
section
variable{prog:Program} {w:World} {A:Around} {E:Value->Shared->Prop} {s:Shared}
end
section
variable{prog:Program} {w:World} {A:Around} {E:Value->Shared->Prop} {s:Shared}
end
section
variable{prog:Program} {w:World} {A:Around} {E:Value->Shared->Prop} {s:Shared}
end
section
variable{prog:Program} {w:World} {A:Around} {E:Value->Shared->Prop} {s:Shared}
end
section
variable{X:Cx}
end
open PySem.AutoSeq1 (wpAny_loadPart')
open PySem.MeetsSeq3
section
variable{prog:Program} {w:World} {A:Around} {s:Shared}
end
namespace Pt
mutual
def rD:Pt->Prop
 |int _|str _|bl _|As=>True
 |lst xs|tup xs=>dG xs
 |IU ks xs=>ks.Nodup/\dG xs
def dG:List Pt->Prop
 |[]=>True
 |x::r=>rD x/\dG r
end
end Pt
section
variable{K:vA} [A_ K]
end
section
variable{X:Cx} [A_ X.K] {pins:List (Addr×Obj)} {σ:St} {H:Hp} {s:Shared}
end
section
variable{X:Cx}
end
structure EM(X:Cx)(scope:Scope)(x z:Str)(fv:List Str)(fs:List Nat):Prop where
 kind:scope.kind=.function
 Ws:∀p∈scope.names,p.2≠.cell
 names:∀p∈scope.names,p.2=.local->scope.names.lookup p.1=some .local
 tg:scope.names.lookup x=some .local
 tz:scope.names.lookup z=some .local
 free:∀p∈scope.names,p.2=.free->X.env.scope.names.lookup p.1=some .cell
 nd:(x::z::fv).Nodup
 ku:∀(j:Nat) y,fv[j]?=some y->∃i,fs[j]?=some i/\X.N[i]?=some y/\scope.names.lookup y=some .free
 len:fv.length=fs.length
def PZ(a:Scope)(N:List Str)(scope:Scope)(x z:Str)(fv:List Str)(fs:List Nat):Bool:=
 scope.kind==.function&&(scope.names.all fun p=>p.2 !=.cell)&&(scope.names.all fun p=>p.2 !=.local||scope.names.lookup p.1==some .local)&&scope.names.lookup x==some .local&&scope.names.lookup z==some .local&&
 (scope.names.all fun p=>p.2 !=.free||a.names.lookup p.1==some .cell)&&decide (x::z::fv).Nodup&&fs.map (N[·]?)==fv.map some&&(fv.all fun y=>scope.names.lookup y==some .free)
theorem EM.of{X:Cx}{scope:Scope}{x z:Str}{fv:List Str}{fs:List Nat}(h:PZ X.env.scope X.N scope x z fv fs=true):EM X scope x z fv fs:=by
 unfold PZ at h;simp only[Bool.and_eq_true,List.all_eq_true,Bool.or_eq_true,bne_iff_ne,beq_iff_eq,decide_eq_true_eq]at h;obtain⟨⟨⟨⟨⟨⟨⟨⟨g,i⟩,k⟩,m⟩,n⟩,o⟩,q⟩,f⟩,r⟩:=h;have hlen:fs.length=fv.length:=by
  have:=congrArg List.length f;simpa using this
 refine⟨g,i,fun p b c=>(k p b).resolve_left fun z=>z c,m,n,fun p b c=>(o p b).resolve_left fun z=>z c,q,fun j y e=>?_,hlen.symm⟩;have s:j<fv.length:=(uy e).1;have d:=congrArg (fun l=>l[j]?) f;simp only[List.getElem?_map,e]at d;have a:j<fs.length:=by lia
 rw[ux a]at d;refine⟨fs[j],ux a,?_,r y (u_ e)⟩;simpa using d
section
variable{X:Cx} {pins:List (Addr×Obj)} {σ:St} {H H':Hp} {s s':Shared} {scope:Scope} {x z:Str} {fv:List Str} {fs:List Nat} {fp:List Addr}
theorem EM.cells(ok:EM X scope x z fv fs)(I:Inv X pins σ H s):∀p∈scope.names,p.2=.free->∃c,X.env.cells.lookup p.1=some c:=fun p a b=>I.ok.has p.1 (.inl (ok.free p a b))
theorem EM.look(ok:EM X scope x z fv fs)(I:Inv X pins σ H s){y:Str}{c:Addr}(h:(DL X.env.cells scope.names []).lookup y=some c):X.env.cells.lookup y=some c:=
 EL scope.names [] (ok.cells I) (fun _ _ z=>by cases z) h
theorem Pa(ok:EM X scope x z fv fs)(I:Inv X pins σ H s)(t:∀b∈fp,El X pins H b)(w:∀b∈fp,∃o,s.heap.get? b=some o){h:Heap}{m:Str->Option Value}{tk:Nat}(N:h.Ns s.heap.objs.size m)(kept:∀b o,s.heap.get? b=some o->h.get? b=some o):Inv (EJ X (x::z::fv) scope s.heap.objs.size s H fp) [] (none::none::Cf σ fs) H {s with heap:=h,toks:=tk}:=by
 have g:=fun{y c}=>ok.look I (y:=y) (c:=c);have A:X.env.scope.kind=.function:=I.ok.kind;refine⟨⟨I.ok.mod,ok.kind,I.ok.glob,I.ok.blt,Nat.le_refl _,fun y z c h O=>I.ok.inj y z c (g h) (g O),fun y d=>?_,fun y c B _=>(by cases B),I.ok.hd,I.ok.frames,.inl rfl,fun b f=>⟨?_,fun y c e z=>(t b f).2.2.2.2.1 y c (g e) z⟩,I.bs,
  Nat.le_trans I.ok.VP I.sz,fun b o e f=>?_,fun b f C=>?_,I.stack,I.HS⟩,rfl,I.bare,Un.kept kept,⟨m,N,fun i y v D a T=>?_⟩,fun y c e=>?_,I.fresh,fun y c e=>I.DV y c (g e),fun p P=>absurd (show p∈([]:List (Addr×Obj))from P) (by simp),I.Bb.kept kept,?_⟩
 ·have d:(relabel scope X.env).names.lookup y=some .cell∨(relabel scope X.env).names.lookup y=some .free:=d;rw[Cn]at d;have E:scope.names.lookup y=some .free:=by
   cases e:scope.names.lookup y with
   |none=>rw[e]at d;rcases d with z|z<;>cases z
   |some k=>
    rw[e]at d;have d:HZ X.env y k=.cell∨HZ X.env y k=.free:=d.elim (fun z=>.inl (uz z)) fun z=>.inr (uz z);by_cases F:k=.free
    ·rw[F]
    ·have a:HZ X.env y k=k:=by
      unfold HZ;have:(k==NameKind.free)=false:=by simpa using F
      rw[this];rfl
     rw[a]at d;rcases d with z|z
     ·subst z;exact absurd rfl (ok.Ws _ (PySem.mem_of_lookup e))
     ·exact absurd z F
  exact Option.isSome_iff_exists.mp (EN scope.names [] (.inr (PySem.mem_of_lookup E)))
 ·obtain⟨o,n⟩:=w b f;exact Nat.ne_of_lt (Heap.lt_size n)
 ·rcases(t b f).2.2.2.1 with z|z
  ·exact I.ok.QX b o e z
  ·exact absurd (Nat.lt_of_lt_of_le (Heap.lt_size e) (Nat.le_trans I.ok.VP z)) (Nat.lt_irrefl _)
 ·rcases List.mem_cons.mp (I.J' b C)with z|z
  ·exact(t b f).2.1 z
  ·exact(t b f).2.2.1 z
 ·cases i with
  |zero=>
   have a:(some none:Option (Option V))=some (some v):=a;cases a
  |succ j=>
   cases j with
   |zero=>
    have a:(some none:Option (Option V))=some (some v):=a;cases a
   |succ j=>
   have D:fv[j]?=some y:=D;have a:(Cf σ fs)[j]?=some (some v):=a;obtain⟨i,Q,R⟩:=MB a;obtain⟨U,M,S,G⟩:=ok.ku j y D;rw[Q]at M;cases M;have J:X.env.scope.names.lookup y=some .cell:=ok.free (y,.free) (PySem.mem_of_lookup G) rfl;obtain⟨W,_,K⟩:=I.loc;obtain⟨u,r,l⟩:=K i y v S R (.inr (.inl J));refine⟨u,r,?_⟩;rcases l with⟨k,_⟩|⟨_,c,e,o,n,hd⟩
   ·have k:X.env.scope.names.lookup y=some .local:=k;rw[J]at k;cases k
   ·obtain⟨Y,q⟩:=Option.isSome_iff_exists.mp (EN (cells:=X.env.cells) scope.names [] (.inr (PySem.mem_of_lookup G)));have:=g q;rw[e]at this;cases this;refine .inr ⟨.inl ?_,c,q,o,kept _ _ n,hd⟩;show(relabel scope X.env).names.lookup y=some .cell;rw[Cn,G];show some (HZ X.env y .free)=_;have L:X.env.kindOf y=some .cell:=J;unfold HZ;rw[A,L];rfl
 ·obtain⟨v,o,n,hd⟩:=I.cell y c (g e);exact⟨v,o,kept _ _ n,hd⟩
 ·show(none::none::Cf σ fs).length=(x::z::fv).length;simp[Cf,ok.len]
end
def NY(K:vA)(J:It)(j:TT)(k:TE)(fs:List Nat)(σ:St)(H:Hp)(Q:VK):Prop:=∀D,H D=none->∃W:Nat->Nat->Hp->Prop,(∃m,W 0 m (upd H D (.lst [])))/\∀i m c,W i m c-> (J.stop i c/\Q (.ref D) c)∨(J.go i c/\∀v e,J.Vb i c v e->∃(t:Addr)(a b:V),v=.ref t/\Ah K e t [a,b]/\j (some a::some b::Cf σ fs) e fun ok g=>
  if ok=true then k (some a::some b::Cf σ fs) g fun y h=>∃f,h D=some (.lst f)/\f.length<sizeLine/\∃d,d<m/\W (i+1) d (upd h D (.lst (f++[y])))else∃d,d<m/\W (i+1) d g)
def dH(K:vA)(b:TI)(c:TT)(d:TE)(fs:List Nat):TE:=fun a H Q=>b a H fun J e=>NY K J c d fs a e Q
section
variable{X:Cx} {elt iter:Expr} {x z:Str} {px pz pt pos:Pos} {kt:Nat} {ifs:List Expr} {scope:Scope} {fv:List Str} {fs:List Nat} {wi:TI} {te:TE} {tc:TT}
theorem Ua(hc:X.calm=true)(ok:EM X scope x z fv fs)(kx:∀C s0 H0 d,ZA (EJ X (x::z::fv) scope C s0 H0 d) ifs tc)(he:∀C s0 H0 d,PE (EJ X (x::z::fv) scope C s0 H0 d) elt te){pins:List (Addr×Obj)}{σ:St}{H:Hp}{s:Shared}{E:Value->Shared->Prop}{it:Addr}{d:List Addr}{F:Nat->Heap->Prop}{J:It}{Q:VK}(I:Inv X pins σ H s)(T:Turn X.prog X.w X.K (.Tuple [.Name x px,.Name z pz] kt pt) J d it F)(st:F 0 s.heap)(hf:∀b∈d,El X pins H b)(rd:NY X.K J tc te fs σ H Q){RR:Value->Addr->Result->Shared->Prop}(ky:∀D C s' H',Inv X pins σ H' s'->El X pins H' C->(∃m,s'.heap.Ns C m)->Q (.ref D) H'->RR (.ref D) C (.ok .next) s'):
  wpAny (model X.prog X.w) X.A (newList []) (fun G a=>wpAny (model X.prog X.w) X.A (newFunctionEnv scope X.env.globals (DL X.env.cells scope.names []) [] X.env.qual none .none (some X.env)) (fun g s4=>
   codeAny (model X.prog X.w) X.A (.compStart (.ListComp elt [⟨.Tuple [.Name x px,.Name z pz] kt pt,iter,ifs,0⟩] scope pos) 0 (.ref it) G {g with scope:=relabel scope X.env}) (RR G g.locals) s4) E a) E s:=by
 obtain⟨W,⟨m0,w0⟩,turn⟩:=rd s.heap.objs.size I.fresh;have V:Inv X pins σ (upd H s.heap.objs.size (.lst [])) {s with heap:=s.heap.push {cls:=.type "list",dict:=none,data:=.seq ([]:List Value).toArray}}:=I.cK (its:=[]) (ys:=[]) (t':=s.toks) .nil (Nat.zero_le _);refine wpAny_newObj_type ?_;show wpAny _ _ _ _ _ ({s with heap:=s.heap.push {cls:=.type "list",dict:=none,data:=.seq ([]:List Value).toArray}}:Shared);generalize kz:({s with heap:=s.heap.push {cls:=.type "list",dict:=none,data:=.seq ([]:List Value).toArray}}:Shared)=a at V⊢;refine wpAny_newFunctionEnv ok.Ws (fun y hy=>absurd hy (by simp)) (fun h1 k_ rE=>?_) ok.kind;have eh:a.heap=s.heap.push {cls:=.type "list",dict:=none,data:=.seq ([]:List Value).toArray}:=by rw[<-kz]
 have L:∀b o,s.heap.get? b=some o->a.heap.get? b=some o:=fun b o e=>by rw[eh];exact Heap.get?_push_of_some _ e
 have lB:∀b∈d,∃o,a.heap.get? b=some o:=fun b c=>let⟨o,ho,_⟩:=T.obj 0 _ st b c;⟨o,L b o ho⟩;have fA:∀b∈d,b≠s.heap.objs.size:=fun b c=>let⟨o,ho,_⟩:=T.obj 0 _ st b c;Nat.ne_of_lt (Heap.lt_size ho);have h:∀b∈d,El X pins (upd H s.heap.objs.size (.lst [])) b:=fun b c=>⟨by rw[AN (fA b c)];exact(hf b c).1,(hf b c).2⟩;have kept:∀b o,a.heap.get? b=some o->h1.get? b=some o:=fun b o e=>rE.extBut b o (Nat.ne_of_lt (Heap.lt_size e)) (Heap.get?_push_of_some _ e);have Y:=Pa (tk:=a.toks+([]:List (Str×Value)).length) ok V h lB k_ kept;have M:F 0 h1:=T.keep 0 _ _ st fun b c o e=>kept b o (L b o e);have f:∀{H':Hp},(∀b∈d,H' b=none)->∀b∈d,El (EJ X (x::z::fv) scope a.heap.objs.size a (upd H s.heap.objs.size (.lst [])) d) [] H' b:=fun hn b c=>
  ⟨hn b c,(Y.ok.bb b c).1,Y.ok.QY b c,.inl c,(Y.ok.bb b c).2,fun p hp=>absurd hp (by simp)⟩
 have hg:PG (EJ X (x::z::fv) scope a.heap.objs.size a (upd H s.heap.objs.size (.lst [])) d) (.Tuple [.Name x px,.Name z pz] kt pt) (fm X.K 2 (VX (Bm 0) (VX (Bm 1) fh))):=M' hc (Dz (FP (i:=0) ok.nd rfl (.inl (lookup_relabel_local ok.tg)) (.inr (lookup_relabel_local ok.tg))) (Dz (FP (i:=1) ok.nd rfl (.inl (lookup_relabel_local ok.tz)) (.inr (lookup_relabel_local ok.tz))) Jn));have loop:codeAny (model X.prog X.w) X.A (.compLoop (.ListComp elt [⟨.Tuple [.Name x px,.Name z pz] kt pt,iter,ifs,0⟩] scope pos) 0 (.ref it) (.ref s.heap.objs.size) (compEnvC scope (DL X.env.cells scope.names []) a.heap.objs.size X.env)) (RR (.ref s.heap.objs.size) a.heap.objs.size)
   {a with heap:=h1,toks:=a.toks+([]:List (Str×Value)).length}:=by
  refine KX (fun n s'=>∃i o o2 H',Inv (EJ X (x::z::fv) scope a.heap.objs.size a (upd H s.heap.objs.size (.lst [])) d) [] (o::o2::Cf σ fs) H' s'/\F i s'.heap/\(∀b∈d,H' b=none)/\W i n H') ?_ m0
   ⟨0,none,none,_,Y,M,fun b c=>(h b c).1,w0⟩
  rintro n s5 ⟨i,o,o2,Z,I5,N,O,w5⟩;rcases turn i n Z w5 with⟨stop,q⟩|⟨go,step⟩
  ·refine Bl (T.done (EJ X (x::z::fv) scope a.heap.objs.size a (upd H s.heap.objs.size (.lst [])) d) rfl rfl rfl hc i [] s5 _ Z _ I5 (f O) N stop) fun r s6 ⟨hr,I6⟩=>?_;subst hr;obtain⟨m,hm,_⟩:=I6.loc;exact ky _ _ s6 Z (Ka V h I6) (V.Qb (Nat.le_refl _) I6.free) ⟨m,hm⟩ q
  ·refine Bl (T.item (EJ X (x::z::fv) scope a.heap.objs.size a (upd H s.heap.objs.size (.lst [])) d) rfl rfl rfl hc i [] s5 _ Z _ I5 (f O) N go) fun r s6 ⟨u,hr,h6⟩=>?_;subst hr;refine Bl h6 fun _ s7 ⟨v,H7,I7,r7,y7,j,lC⟩=>?_;have lD:=I7.pinned (f lC) (T.obj _ _ j);have back:∀{P:St}{t:Hp}{R:Shared},Inv (EJ X (x::z::fv) scope a.heap.objs.size a (upd H s.heap.objs.size (.lst [])) d) ([]++IY d s7.heap) P t R->F (i+1) R.heap/\∀b∈d,t b=none:=fun{P t R} B=>
    ⟨T.keep _ _ _ j fun b c o e=>(B.pin (b,o) (De c e)).1,fun b c=>by
     obtain⟨o,e,_⟩:=T.obj _ _ j b c;exact(B.pin (b,o) (De c e)).2.1⟩
   obtain⟨ta,va,vb,rfl,rF,k⟩:=step v H7 y7;refine Bl (hg _ s7 _ H7 (.ref ta) u (fun σ2 H2=>σ2=some va::some vb::Cf σ fs/\H2=H7) lD r7 ⟨ta,_,rfl,rF,rfl,_,_,rfl,_,_,rfl,rfl,rfl,rfl⟩) fun _ s8 ⟨σ8,H8,I8,e8,lE⟩=>?_;subst e8 lE;refine Bl (kx _ _ _ _ _ s8 _ H8 _ I8 k) fun ok R ⟨t,B,q9⟩=>?_;cases ok with
   |false=>
    obtain⟨m',l,w9⟩:=q9;obtain⟨b1,b2⟩:=back B;exact⟨m',l,i+1,some va,some vb,t,B.ER,b1,b2,w9⟩
   |true=>
    refine Bl (he _ _ _ _ _ R _ t _ B q9) fun y s10 ⟨yv,S,lF,r10,ys,hD,hz,m',l,w10⟩=>?_;refine Bl (CI _ s10 _ S (.ref s.heap.objs.size) [yv] (.ref s.heap.objs.size) [y] (fun _ H'=>H'=upd S s.heap.objs.size (.lst (ys++[yv]))) lF rfl (.cons r10 .nil) ⟨_,ys,yv,rfl,rfl,hD,hz,rfl⟩) fun _ s11 ⟨_,gY,U,_,e11⟩=>?_;subst e11;obtain⟨b1,b2⟩:=back U;exact⟨m',l,i+1,some va,some vb,_,U.ER,b1,b2,w10⟩
 exact codeAny_compStart_list loop (T.self _ 0 _ _ _ M loop)
theorem Wt(g:X.calm=true)(ok:EM X scope x z fv fs)(i:PI X (.Tuple [.Name x px,.Name z pz] kt pt) iter wi)(b:∀C c d a,ZA (EJ X (x::z::fv) scope C c d a) ifs tc)(j:∀C c d a,PE (EJ X (x::z::fv) scope C c d a) elt te)(k:∀x,foldedSetIterable iter X.env x=pure x:=by intro _;rfl):PE X (.ListComp elt [⟨.Tuple [.Name x px,.Name z pz] kt pt,iter,ifs,0⟩] scope pos) (dH X.K wi tc te fs):=by
 intro pins s l H Q I h;rw[eval_ListComp];refine wpAny_comprehension_free (use:=none) rfl k (Dh (ok.cells I)) ok.kind ok.names (Bl (i pins s l H _ I h) fun B E n=>Bl n fun o F p=>?_);obtain⟨G,a,L,J,M,rfl,r,T,e,t,u⟩:=p;exact Ua g ok b j r T e t u fun D C N v w y ⟨m,A⟩ q=>⟨m,A,fun O f=>⟨.ref D,v,w.off y f,rfl,q⟩⟩
end
end L2
namespace PySem
variable{Q:Value->Shared->Prop}{its:Array Value}
section
variable{prog:Program} {w:World} {A:Around} {E:Value->Shared->Prop} {s:Shared}
theorem Wu{jt c:Addr}{n:Nat}{y:Value}(d:s.heap.IsTupleIter jt c n)(e:s.heap.IsTuple c its)(j:its[n]?=some y)(k:∀f,f.IsTupleIter jt c (n+1)->Heap.SameBut jt s.heap f->Q y {s with heap:=f}):wpAny (model prog w) A (Builtin.SmallTypes.nextOf (.ref jt)) Q E s:=by
 obtain⟨l,b,g,a⟩:=id d;obtain⟨m,h,_,o,i⟩:=e;unfold Builtin.SmallTypes.nextOf;refine wpAny_bind (wpAny_callSpecial?_slot (name:=Str.ofString "__next__") d.typeIs F.slot_tuple_iterator_next (wpAny_call_entry F.slot_tuple_iterator_next d.typeIs F.entry_tuple_iterator_next ?_ (F.args_tuple_iterator_next_1 _)));show wpAny _ _ (field (.ref jt) 0>>=_) _ _ s;refine wpAny_bind (wpAny_field b a (x:=.ref c) rfl ?_);show wpAny _ _ (if(Value.ref c==Value.none)=true then _ else _) _ _ s;rw[if_neg (show¬((Value.ref c==Value.none)=true)from Bool.false_ne_true)];show wpAny _ _ (field (.ref jt) 1>>=_) _ _ s;refine wpAny_bind (wpAny_field b a (x:=.int n 0) rfl ?_);show wpAny _ _ (seqItems? (.ref c)>>=_) _ _ s;refine wpAny_bind (wpAny_seqItems h i ?_);simp only[Int.toNat_natCast,j];refine wpAny_bind (wpAny_setField b a (by simp) (wpAny_pure ⟨y,rfl,wpAny_pure (k _ ?_ (Heap.SameBut.update ..))⟩));exact⟨_,Heap.get?_update_self _ b (Obj.isFreed_of_fields (Obj.data_mapFields a _)),(Obj.cls_mapFields ..).trans g,by rw[Obj.data_mapFields a];simp[rawInt]⟩
theorem Wv{jt d:Addr}{n:Nat}(j:A.handled=none)(e:s.heap.IsTupleIter jt d n)(f:s.heap.IsTuple d its)(l:its[n]?=none)(k:∀g x,Heap.ExtBut jt s.heap g->(∃o,g.get? x=some o/\o.cls=.type "StopIteration")->E (.ref x) {s with heap:=g}):wpAny (model prog w) A (Builtin.SmallTypes.nextOf (.ref jt)) Q E s:=by
 obtain⟨q,b,p,c⟩:=id e;obtain⟨r,h,_,t,i⟩:=f;unfold Builtin.SmallTypes.nextOf;refine wpAny_bind (wpAny_callSpecial?_slot (name:=Str.ofString "__next__") e.typeIs F.slot_tuple_iterator_next (wpAny_call_entry F.slot_tuple_iterator_next e.typeIs F.entry_tuple_iterator_next ?_ (F.args_tuple_iterator_next_1 _)));show wpAny _ _ (field (.ref jt) 0>>=_) _ _ s;refine wpAny_bind (wpAny_field b c (x:=.ref d) rfl ?_);show wpAny _ _ (if(Value.ref d==Value.none)=true then _ else _) _ _ s;rw[if_neg (show¬((Value.ref d==Value.none)=true)from Bool.false_ne_true)];show wpAny _ _ (field (.ref jt) 1>>=_) _ _ s;refine wpAny_bind (wpAny_field b c (x:=.int n 0) rfl ?_);show wpAny _ _ (seqItems? (.ref d)>>=_) _ _ s;refine wpAny_bind (wpAny_seqItems h i ?_);simp only[Int.toNat_natCast,l];refine wpAny_bind (wpAny_rule (wpAny_bind (wpAny_setField b c (by simp) ?_)));show wpAny _ _ (newExc (.type "StopIteration") []>>=_) _ _ _;refine wpAny_bind ?_;simp only[newExc,newTuple];refine wpAny_bind (wpAny_newObj_type ?_ (by size_fits));refine wpAny_bind (m:=firstArgMember _ _) (wpAny_of_eq (a:=Value.none) (by first|rfl|(simp only[firstArgMember];rfl)) ?_);refine wpAny_newObj_type ?_ (by size_fits);simp only[raiseNew];refine wpAny_bind (wpAny_handled ?_);(first|rw[show A.in1.handled=none from j]|rw[j]);refine wpAny_bind (wpAny_pure (wpAny_throw ?_));exact k _ _ (((Heap.SameBut.update ..).extBut.push _).push _) ⟨_,Heap.get?_push_size _ rfl,rfl⟩
end
variable{prog:Program}{A:Around}{w:World}
theorem Ww(hh:A.handled=none)(jt tp:Addr)(ne:tp≠jt)(its:Array Value):
  Draws prog w A jt [jt,tp] its.size (fun n v=>its[n]?=some v) (fun n h=>h.IsTupleIter jt tp n/\h.IsTuple tp its)where
 live:=fun _ _ st=>let⟨o,ho,_⟩:=st.1;⟨o,ho⟩
 frame:=fun _ _ _ st kp=>⟨st.1.at fun o e=>kp jt (by simp) o e,let⟨o,ho,r⟩:=st.2;⟨o,kp tp (by simp) o ho,r⟩⟩
 item:=fun n s Q E hn st k=>Wu st.1 st.2 (y:=its[n]) (by simp[hn]) fun h1 a b=>k _ h1 s.toks (by simp[hn]) ⟨a,st.2.extBut b.extBut ne⟩ b
 done:=fun s Q E st k=>Wv hh st.1 st.2 (by simp) k
theorem RE(a:Addr)(its:Array Value)(n:Nat)(dd:Option Addr)(ss:Array (Option Value)):
  Meets (Builtin.«enumerate.__new__» ⟨[.type "enumerate",.ref a],[]⟩) (fun _ R s=>s.heap.get? a=some {cls:=.type "tuple",dict:=dd,data:=.seq its n,slots:=ss}/\
   R (.ok (.ret (.ref (s.heap.push {cls:=.type "tuple_iterator",data:=.fields #[.ref a,.int 0 0]}).objs.size)))
    {s with heap:=(s.heap.push {cls:=.type "tuple_iterator",data:=.fields #[.ref a,.int 0 0]}).push {cls:=.type "enumerate",data:=.fields #[.none,.bool false,.ref s.heap.objs.size,rawInt 0,.none,.none]}}):=
 .of_wp fun prog w A R s h=>by
  obtain⟨i,g,d,j,os⟩:=s;obtain⟨b,h⟩:=h;have e:=sub_enumerate;have f:Heap.IsTuple (Shared.heap ⟨i,g,d,j,os⟩) a its:=⟨_,b,rfl,n,rfl⟩;wp_walk using AutoSeq1.wpAny_loadPart' b;refine wpAny_stack_any fun st=>wpAny_pure ?_;split
  ·rename_i c _ _ _ _ _
   cases(c==Value.type "enumerate")<;>(wp_walk using AutoSeq1.wpAny_loadPart' b,wpAny_pyIter_tuple f;exact⟨_,rfl,h⟩)
  ·wp_walk using AutoSeq1.wpAny_loadPart' b,wpAny_pyIter_tuple f;exact⟨_,rfl,h⟩
theorem Ub{E:Value->Shared->Prop}{s:Shared}{d:Addr}(l:s.heap.IsTuple d its)(h:∀e,IsEnum e (s.heap.objs.size+1) s.heap.objs.size 0 .none->e.IsTupleIter s.heap.objs.size d 0->e.objs.size=s.heap.objs.size+2-> (∀b o,s.heap.get? b=some o->e.get? b=some o)->Q (.ref (s.heap.objs.size+1)) {s with heap:=e}):wpAny (model prog w) A (call (.type "enumerate") [.ref d]) Q E s:=by
 obtain⟨⟨c,m,p,q⟩,r,g,n,i⟩:=l
 replace g:c=.type "tuple":=g
 replace i:p=.seq its n:=i
 subst g i;refine callType_new F.called_enumerate (by decide) (F.typeCall_enumerate_1 _) (F.newCall_enumerate_1 _) (fun j=>F.args_object_init_2 j _) F.entry_enumerate_new (RE d its n m q) ⟨r,?_⟩;obtain⟨a,f⟩:∃a,a=s.heap.push {cls:=.type "tuple_iterator",data:=.fields #[.ref d,.int 0 0]}:=⟨_,rfl⟩;have z1:a.objs.size=s.heap.objs.size+1:=by rw[f];exact Heap.size_push ..
 have t:a.get? s.heap.objs.size=some {cls:=.type "tuple_iterator",data:=.fields #[.ref d,.int 0 0]}:=by rw[f];exact Heap.get?_push_size _ rfl
 have k1:∀b o,s.heap.get? b=some o->a.get? b=some o:=fun b o x=>by rw[f];exact Heap.get?_push_of_some _ x
 rw[<-f,z1];have k:IsEnum (a.push {cls:=.type "enumerate",data:=.fields #[.none,.bool false,.ref s.heap.objs.size,rawInt 0,.none,.none]}) (s.heap.objs.size+1) s.heap.objs.size 0 .none:=by
  have:=Heap.get?_push_size a (o:={cls:=.type "enumerate",data:=.fields #[.none,.bool false,.ref s.heap.objs.size,rawInt 0,.none,.none]}) rfl;rw[z1]at this;exact this
 exact⟨⟨_,k,rfl⟩,h _ k ⟨_,Heap.get?_push_of_some _ t,rfl,rfl⟩ (by rw[Heap.size_push,z1]) fun b o x=>Heap.get?_push_of_some _ (k1 b o x)⟩
end PySem
namespace L2
open PySem PySem.Spec PyProof.Rows
variable{H:Hp}
theorem Inv.Za{X:Cx}{pins:List (Addr×Obj)}{σ:St}{s:Shared}{h':Heap}{t':Nat}{it jt:Addr}(I:Inv X pins σ H s)(k:∀b o,b≠it->b≠jt->s.heap.get? b=some o->h'.get? b=some o)(f:El X pins H it)(g:El X pins H jt):Inv X pins σ H {s with heap:=h',toks:=t'}:=by
 obtain⟨l,i,G,p,t,w⟩:=f;obtain⟨x,j,J,y,A,B⟩:=g;have d:∀b u,H b=some u->b≠it/\b≠jt:=fun b u e=>⟨(fun z=>by rw[z,l]at e;cases e),(fun z=>by rw[z,x]at e;cases e)⟩;have kk:∀b o,b∉[it,jt]->s.heap.get? b=some o->h'.get? b=some o:=fun b o a e=>k b o (fun z=>a (by simp[z])) (fun z=>a (by simp[z])) e;refine I.step (g':=s.gens) (d':=s.drawn) (ch:=[it,jt]) (fun b h=>?_) (fun b o _ _ a e _=>kk b o a e) (fun b o _ _ a e _=>⟨o.slots,kk b o a e⟩) (fun _ _ _ _ n=>n) (fun b o a e=>⟨o,kk b o a e⟩) (fun _ _ e=>e) (fun _ _ _ e=>e) (fun b K e=>⟨#[],by rw[e];simp⟩) (fun m C=>?_) (fun b u e=>?_) I.bare
 ·rcases List.mem_cons.mp h with rfl|h
  ·exact⟨p,i,t,w⟩
  ·rw[List.mem_singleton.mp h];exact⟨y,j,A,B⟩
 ·obtain⟨o,D,E,F,r⟩:=C;exact⟨o,D,E,k _ o (Ne.symm i) (Ne.symm j) F,r⟩
 ·refine(I.Bb b u e).Gf (fun c v a q=>?_) (fun _ q=>q) fun _ _ q=>q;have:c≠it/\c≠jt:=by
   rcases a with z|z
   ·rw[z];exact d b u e
   ·exact d c _ z
  exact k c v this.1 this.2 q
def lW(K:vA)(a:Addr):It:=
 ⟨fun i H=>∃b x,Ah K H a b/\b[i]?=some x,fun i H v c=>∃T x,(∀b,Ah K H a b->b[i]?=some x)/\v=.ref T/\H T=none/\c=upd H T (.tup [.int (i:Int),x]),fun i H=>∃b,Ah K H a b/\b.length=i⟩
theorem Uc{P:Program}{w:World}{K:vA}{es:List Expr}{kt:Nat}{pt:Pos}(a e it:Addr)(ne:e≠it):Turn P w K (.Tuple es kt pt) (lW K a) [e,it] e (fun i h=>(∃old,IsEnum h e it (i:Nat) old)/\h.IsTupleIter it a i)where
 mem:=by simp
 obj:=fun i h st b hb=>by
  rcases List.mem_cons.mp hb with rfl|hb
  ·obtain⟨⟨old,x⟩,_⟩:=st;exact⟨_,x,fun v z=>by cases z⟩
  ·rw[List.mem_singleton.mp hb];obtain⟨_,o,x,_,d⟩:=st;exact⟨o,x,fun v z=>by rw[d]at z;cases z⟩
 keep:=fun i h h' st k=>⟨let⟨old,x⟩:=st.1;⟨old,k e (by simp) _ x⟩,st.2.at fun o x=>k it (by simp) o x⟩
 item:=by
  intro X hP hw hK hc i pins s σ H E I hf st hg;subst hP hw hK;obtain⟨xs,x,hq,hx⟩:=hg;obtain⟨its,rv,p,hz⟩:=I.tuple hq;obtain⟨u,hu,ru⟩:=rv.get hx;obtain⟨⟨old,he⟩,hit⟩:=st;have ht:s.heap.IsTuple a its.toArray:=p;have lY:a≠it:=fun z=>by
   obtain⟨o,h1,h2,_⟩:=ht;obtain⟨o',g1,g2,_⟩:=hit;rw[z,g1]at h1;cases h1;rw[g2]at h2;exact absurd (Value.type.inj h2) (by decide)
  have rG:a≠e:=fun z=>by
   obtain⟨o,h1,h2,_⟩:=ht;rw[z,he]at h1;cases h1;exact absurd (Value.type.inj h2) (by decide)
  have rH:i<its.toArray.size:=by
   have:=(uy hu).1;simpa using this
  refine wpAny_pyNext_enum_itemD (Ww (A:=X.A.in1) (I.ok.hd hc) it a lY its.toArray) he ⟨hit,ht⟩ rH ne (by simp[ne,Ne.symm rG]) fun y h1 tk hy ho YZ hT hsz hk=>?_;have ey:y=u:=by
   have lZ:its.toArray[i]?=some y:=hy;rw[List.getElem?_toArray]at lZ;rw[hu]at lZ;exact(uz lZ).symm
  subst ey;refine⟨_,rfl,wpAny_letOwnedTupleGo_enum ho fun h2 rJ Zb=>?_⟩;have le:e<s.heap.objs.size:=Heap.lt_size he;have li:it<s.heap.objs.size:=by obtain⟨o,g1,_⟩:=hit;exact Heap.lt_size g1
  have nT:∀b∈[e,it],b≠s.heap.objs.size:=fun b hb=>by
   rcases List.mem_cons.mp hb with rfl|hb
   ·exact Nat.ne_of_lt le
   ·rw[List.mem_singleton.mp hb];exact Nat.ne_of_lt li
  have I1:Inv X pins σ (upd H s.heap.objs.size (.tup [.int (i:Int),x])) {s with heap:=s.heap.push {cls:=.type "tuple",data:=.seq #[.int i tk,y]},toks:=tk+1}:=
   I.laid (fun b o q=>Heap.get?_push_of_some _ q) (Nat.le_refl _) ⟨AR,[.int i tk,y],.cons ⟨tk,rfl⟩ (.cons ru .nil),⟨_,Heap.get?_push_size _ rfl,rfl,_,rfl⟩⟩
  have ff:∀b∈[e,it],El X pins (upd H s.heap.objs.size (.tup [.int (i:Int),x])) b:=fun b hb=>⟨by rw[AN (nT b hb)];exact(hf b hb).1,(hf b hb).2⟩;have I2:=Inv.Za (h':=h2) (t':=tk+1) (it:=e) (jt:=it) I1 (fun b o b1 b2 q=>by
   refine(Zb.2 b b1).trans ?_;by_cases hb:b=s.heap.objs.size
   ·subst hb;have q:(s.heap.push {cls:=.type "tuple",data:=.seq #[.int i tk,y]}).get? s.heap.objs.size=some o:=q;rw[Heap.get?_push_size _ rfl]at q;rw[hT];exact q
   ·refine hk b o b1 b2 ?_;have q:(s.heap.push {cls:=.type "tuple",data:=.seq #[.int i tk,y]}).get? b=some o:=q;rwa [Heap.get?_push_ne _ _ _ hb]at q) (ff e (by simp)) (ff it (by simp))
  refine⟨.ref s.heap.objs.size,_,I2,rfl,⟨_,x,(fun ys hy=>by rw[I.Ls hy hq];exact hx),rfl,I.fresh,rfl⟩,⟨⟨y,by simpa using rJ⟩,YZ.1.extBut Zb.extBut (Ne.symm ne)⟩,fun b hb=>(ff b hb).1⟩
 done:=by
  intro X hP hw hK hc i pins s σ H E I hf st hg;subst hP hw hK;obtain⟨xs,hq,hx⟩:=hg;obtain⟨its,rv,p,hz⟩:=I.tuple hq;obtain⟨⟨old,he⟩,hit⟩:=st;have ht:s.heap.IsTuple a its.toArray:=p;have lY:a≠it:=fun z=>by
   obtain⟨o,h1,h2,_⟩:=ht;obtain⟨o',g1,g2,_⟩:=hit;rw[z,g1]at h1;cases h1;rw[g2]at h2;exact absurd (Value.type.inj h2) (by decide)
  obtain⟨f0,f1,f2,f3,f4,f5⟩:=hf it (by simp);have hl:=rv.length;have en:i=its.toArray.size:=by simp;lia
  exact wpAny_pyNext_enum_endD (Ww (A:=X.A.in1) (I.ok.hd hc) it a lY its.toArray) he (by rw[<-en];exact⟨hit,ht⟩) fun h' eb=>⟨rfl,I.turned (t':=s.toks) (fun b o hb q=>eb b o hb q) f0 f1 f3 f4 f5⟩
 self:=fun _ _ _ _ _ st h=>let⟨_,x⟩:=st.1;wpAny_pyIter_enum x h
section
variable{X:Cx} {es:List Expr} {kt:Nat} {pt:Pos}
def hG(K:vA)(c:TA):TI:=fun d H R=>c d H fun e b=>∃a f,e=[.ref a]/\Ah K b a f/\R (lW K a) b
theorem Pb:bootBuiltins "enumerate"=some (.type "enumerate"):=by decide+kernel
theorem Zc{x:Str}{p pos:Pos}{e:Expr}{k:TA}(m:Gl X x)(n:X.mg x=none)(o:bootBuiltins x=some (.type "enumerate"))(r:PA X [e] k)(t:x≠"__name__":=by decide)(f:(x==("__debug__":Str))=false:=by decide)(v:starEach [e] X.env=(false,eval e X.env)::starEach [] X.env:=by rfl)(g:(backTo pos (starEach [] X.env)).any (·.1)=false:=by rfl):PI X (.Tuple es kt pt) (.Call (.Name x p) [e] [] pos) (hG X.K k):=by
 intro pins s w H R I h;refine wpAny_Call_Name_kw (Gn I m n o ?_ t f);refine PyProof.Rows.callWith_type1 (Bl (r pos pins s w H _ I h) fun J c y=>y.elim fun L z d A B=>?_) v g;obtain⟨a,M,rfl,C,q⟩:=B;obtain⟨u,rfl,D⟩:=vals1 A;cases D;obtain⟨i,N,E,O⟩:=d.tuple C;refine Ub (show c.heap.IsTuple a i.toArray from E) fun P l F sz G=>?_;refine wpAny_pyIter_enum l ?_;refine⟨c.heap.objs.size+1,[c.heap.objs.size+1,c.heap.objs.size],_,_,z,rfl,d.kept (t':=c.toks) G,Uc a _ _ (Nat.succ_ne_self _),⟨⟨_,l⟩,F⟩,fun b j=>?_,q⟩;have e:c.heap.objs.size<=b:=by
  rcases List.mem_cons.mp j with rfl|j
  ·exact Nat.le_succ _
  ·rw[List.mem_singleton.mp j];exact Nat.le_refl _
 exact d.Qb e (d.Bb.fresh e)
end
variable{xs:List V}
theorem Ud{K:vA}{a:Addr}{g:TE}{fs:List Nat}{σ:St}{Q:VK}(Ok:Nat->V->Prop)(u:Ah K H a xs)(I:xs.length<=sizeLine)(w:∀(i:Nat) (x:V) (H2:Hp) (R:VK),xs[i]?=some x->AF H H2->(∀y h,AF H2 h->Ok i y->R y h)->g (some (.int (i:Int))::some x::Cf σ fs) H2 R)(A:∀D H2 ys,H D=none->AF H H2->H2 D=some (.lst ys)->ys.length=xs.length->(∀(i:Nat) y,ys[i]?=some y->Ok i y)->Q (.ref D) H2):
  NY K (lW K a) UC g fs σ H Q:=by
 intro D k;refine⟨fun i m H2=>m=xs.length-i/\i<=xs.length/\AF H H2/\∃ys,H2 D=some (.lst ys)/\ys.length=i/\∀(j:Nat) y,ys[j]?=some y->Ok j y,⟨xs.length,by simp,Nat.zero_le _,AF.new k,[],AB,rfl,fun j y z=>by simp at z⟩,?_⟩;rintro i m H2 ⟨rfl,J,f,ys,r,l,s⟩;have b:=f.tup u;by_cases c:i<xs.length
 ·have B:xs[i]?=some xs[i]:=ux c;refine .inr ⟨⟨xs,_,b,B⟩,fun v h C=>?_⟩;obtain⟨T,x,n,rfl,E,rfl⟩:=C;have F:=n xs b;have p:=AF.new (o:=.tup [.int (i:Int),x]) E;refine⟨T,.int (i:Int),x,rfl,Ah.of AB,?_⟩;show g _ _ _;refine w i x _ _ F (f.trans p) fun y L t q=>⟨ys,t _ _ (p _ _ r),by lia,xs.length-(i+1),by lia,rfl,c,((f.trans p).trans t).put k,ys++[y],AB,by simp[l],fun j z d=>?_⟩;by_cases G:j<ys.length
  ·rw[List.getElem?_append_left G]at d;exact s j z d
  ·have e:j=i:=by
    have:=(uy d).1;simp only[List.length_append,List.length_singleton]at this;lia
   subst e;rw[List.getElem?_append_right (by lia),l,Nat.sub_self]at d;cases d;exact q
 ·have e:i=xs.length:=by lia
  subst e;exact .inl ⟨⟨xs,b,rfl⟩,A D H2 ys k f r l s⟩
def EV(xs:List V):Option Int:=match xs.getLast? with
 |some (.int j)=>some j
 |_=>none
def Cp(a:List V)(i:Int)(w:Str)(xs:List V):Int:=match EV xs with
 |some j=>if Cm (.str w) [.str "take",.str "move"]=true/\BQ xs.dropLast a=true/\j<i then i-1 else i
 |none=>i
def DW(b:List V)(i:Int)(w:Str)(xs a:List V)(ah:Bool):Int:=match EV (CT w xs a)with
 |some j=>if Cm (.str w) BY=true/\BQ (CT w xs a).dropLast b=true/\(j<i∨(ah=true/\j=i))then 1 else 0
 |none=>0
def Na:Sp:=fun f H Q _=>∃(h:Addr)(a:List V)(i:Int)(r:V)(w:Str)(b c:List V)(p:Addr)(d:Bool),f=[.ref h,.int i,r,.bl d]/\H h=some (.tup a)/\steps a/\Rw H r w b c p/\∀e,AF H e->Q (.int (Cp a i w b+DW a i w b c d)) e
def Sx:Sp:=fun e H Q _=>∃(h:Addr)(a:List V)(z r:V)(w:Str)(b c:List V)(p:Addr),e=[.ref h,z,r]/\H h=some (.tup a)/\steps a/\Dc.Bi z/\Rw H r w b c p/\∀d,AF H d->Q (match z with| .int i=>.int (Cp a i w b+DW a i w b c true)|_=>z) d
variable{l:List V}{j:Int}
theorem Mc(h:l.getLast?=some (.int j)):EV l=some j:=by unfold EV;rw[h]
theorem Md{k:Str}(h:l.getLast?=some (.str k)):EV l=none:=by unfold EV;rw[h]
variable{a b:List V}{w:Str}{i:Int}{ah:Bool}
theorem dI(h:¬Cm (.str w) BY=true):DW a i w xs b ah=0:=by
 unfold DW;split
 ·exact if_neg fun z=>h z.1
 ·rfl
theorem Zd(h:BQ (CT w xs b).dropLast a=false):DW a i w xs b ah=0:=by
 unfold DW;split
 ·exact if_neg fun z=>by rw[h]at z;exact Bool.false_ne_true z.2.1
 ·rfl
theorem Wx{k:Str}(h:(CT w xs a).getLast?=some (.str k)):DW b i w xs a ah=0:=by
 unfold DW;rw[Md h]
theorem Wy(h:(CT w xs a).getLast?=some (.int j))(c:Cm (.str w) BY=true)(d:BQ (CT w xs a).dropLast b=true):DW b i w xs a ah=if j<i∨(ah=true/\j=i)then 1 else 0:=by
 unfold DW;rw[Mc h];simp only[c,d,true_and]
theorem dJ(h:¬Cm (.str w) [.str "take",.str "move"]=true):Cp a i w xs=i:=by
 unfold Cp;split
 ·exact if_neg fun z=>h z.1
 ·rfl
theorem Ze(h:BQ xs.dropLast a=false):Cp a i w xs=i:=by
 unfold Cp;split
 ·exact if_neg fun z=>by rw[h]at z;exact Bool.false_ne_true z.2.1
 ·rfl
theorem Wz{k:Str}(h:xs.getLast?=some (.str k)):Cp a i w xs=i:=by
 unfold Cp;rw[Md h]
theorem less_int(h:xs.getLast?=some (.int j))(b:Cm (.str w) [.str "take",.str "move"]=true)(c:BQ xs.dropLast a=true):Cp a i w xs=if j<i then i-1 else i:=by
 unfold Cp;rw[Mc h];simp only[b,c,true_and]
noncomputable def HG:List V->Int->Int
 |[.int a],j=>if a<j then j-1 else j
 |_,j=>j
noncomputable def IB:List V->Int->Int
 |[.int b],j=>if b<=j then 1 else 0
 |_,_=>0
noncomputable def DJ:List V->V->List V
 |x::xs,j=>if x=j then xs else[]
 |[],_=>[]
noncomputable def EC(xs a:List V):V->V
 | .int j=>.int (HG xs j+IB a j)
 |j=>j
noncomputable def Iq:List V->List V->List V->List V
 |_,_,[]=>[]
 |xs,a,j::r=>EC xs a j::Iq (DJ xs j) (DJ a j) r
noncomputable def LY:List V->List V->List V
 |z::c,[x]=>match z,x with
  | .int b,.int a=>if a<b∨(b=a/\c≠[])then .int (b+1)::c else .int b::c
  |_,_=>z::c
 |z::c,x::xs=>if z=x then z::LY c xs else z::c
 |c,_=>c
theorem Pc(j:Int):HG [] j=j:=rfl
theorem W_(j:Int):IB [] j=0:=rfl
theorem W'(x y:V)(r:List V)(j:Int):HG (x::y::r) j=j:=by cases x<;>rfl
theorem FI(j:V):EC [] [] j=j:=by cases j<;>simp[EC,HG,IB]
theorem IC:∀q:List V,Iq [] [] q=q
 |[]=>rfl
 |j::r=>by
  show EC [] [] j::Iq [] [] r=_;rw[FI,IC r]
theorem Sy(x j:V):DJ [x] j=[]:=by simp[DJ]
variable{y:V}
theorem ID{x:V}{r:List V}{j:V}:EC (x::y::r) a j=EC [] a j:=by
 cases j<;>simp[EC,W',Pc]
variable{d x:Dc}{z v:V}{ks:List Str}
namespace Dc
theorem BC{e:Dc}{r:List V}:d.sub (z::r)=some e↔∃x,d.sub [z]=some x/\x.sub r=some e:=by
 constructor
 ·intro h;have:d.sub ([z]++r)=some e:=h;obtain⟨x,a,b⟩:=UU this;exact⟨x,a,b⟩
 ·rintro⟨x,a,b⟩;have:=sub_snoc a r;rw[b]at this;exact this
theorem Ge{a:Addr}{xs:List Dc} :(row a xs).sub [y]=some x↔∃i:Nat,y=.int (i:Int)/\xs[i]?=some x:=by
 constructor
 ·intro h;rcases sub_one h with⟨c,b,i,e,d,f⟩|⟨c,g,b,k,e,_,_⟩
  ·cases e;exact⟨i,d,f⟩
  ·cases e
 ·rintro⟨i,rfl,h⟩;rw[FW h,BS]
theorem Ej{a:Addr}{xs:List Dc}(l:ks.length=xs.length)(n:ks.Nodup) :(tab a ks xs).sub [y]=some x↔∃(i:Nat)(k:Str),y=.str k/\ks[i]?=some k/\xs[i]?=some x:=by
 constructor
 ·intro h;rcases sub_one h with⟨f,b,i,e,d,c⟩|⟨f,g,b,k,e,d,c⟩
  ·cases e
  ·cases e;exact⟨ix ks k,k,d,Ep (Ad c).1,CA l n c⟩
 ·rintro⟨i,k,rfl,j,m⟩;rw[FX (Il ks xs i n j m),BS]
theorem Eu(n:ks.Nodup){i j:Nat}{k:Str}(e:ks[i]?=some k)(f:ks[j]?=some k):i=j:=by
 obtain⟨l1,a⟩:=uy e;obtain⟨l2,b⟩:=uy f;have d:=List.pairwise_iff_getElem.mp n;rcases Nat.lt_trichotomy i j with c|c|c
 ·exact absurd (a.trans b.symm) (d i j l1 l2 c)
 ·exact c
 ·exact absurd (b.trans a.symm) (d j i l2 l1 c)
theorem Ct{b:Type}{l:List b}{i j:Nat}{x:b}:(l.eraseIdx i)[j]?=some x↔∃a,a≠i/\l[a]?=some x/\j=if i<a then a-1 else a:=by
 constructor
 ·intro h;by_cases c:j<i
  ·rw[List.getElem?_eraseIdx_of_lt c]at h;exact⟨j,by lia,h,by rw[if_neg (by lia)]⟩
  ·rw[List.getElem?_eraseIdx_of_ge (by lia)]at h;exact⟨j+1,by lia,h,by rw[if_pos (by lia)];lia⟩
 ·rintro⟨a,d,h,rfl⟩;by_cases c:i<a
  ·rw[if_pos c,List.getElem?_eraseIdx_of_ge (by lia)];have:a-1+1=a:=by lia
   rw[this];exact h
  ·rw[if_neg c,List.getElem?_eraseIdx_of_lt (by lia)];exact h
theorem Zf{e u:Dc}(w:e.Wf)(h:e.sub [z]=some u) :(Ck e z).sub [y]=some x↔∃d,d≠z/\e.sub [d]=some x/\y=EC [z] [] d:=by
 rcases sub_one h with⟨a,q,i,rfl,rfl,r⟩|⟨a,l,q,k,rfl,rfl,r⟩
 ·simp only[Ck,Int.toNat_natCast,Ge];constructor
  ·rintro⟨j,rfl,v⟩;obtain⟨b,f,g,rfl⟩:=Ct.mp v;refine⟨.int (b:Int),fun e=>f (by cases e;rfl),⟨b,rfl,g⟩,?_⟩;simp only[EC,HG,IB,Int.add_zero];congr 1;split<;>split<;>lia
  ·rintro⟨d,f,⟨b,rfl,g⟩,rfl⟩;refine⟨if i<b then b-1 else b,?_,Ct.mpr ⟨b,fun e=>f (by rw[e]),g,rfl⟩⟩;simp only[EC,HG,IB,Int.add_zero];congr 1;split<;>split<;>lia
 ·cases w with
  |tab n m H=>
   have A:=(Ad r).1;have s:=Ep A;have l2:(l.eraseIdx (ix l k)).length=(q.eraseIdx (ix l k)).length:=by rw[List.length_eraseIdx,List.length_eraseIdx,n]
   simp only[Ck];rw[Ej l2 (m.sublist (List.eraseIdx_sublist ..))];constructor
   ·rintro⟨j,k2,rfl,B,C⟩;obtain⟨b,D,c,o⟩:=Ct.mp B;obtain⟨E,I,p,F⟩:=Ct.mp C;have G:b=E:=by
     rw[F]at o;split at o<;>split at o<;>lia
    subst G;exact⟨.str k2,fun e=>D (Eu m c (by cases e;exact s)),(Ej n m).mpr ⟨b,k2,rfl,c,p⟩,rfl⟩
   ·rintro⟨d,f,g,rfl⟩;obtain⟨b,k2,rfl,c,p⟩:=(Ej n m).mp g;have t:b≠ix l k:=fun e=>f (by rw[e,s]at c;cases c;rfl);exact⟨_,k2,rfl,Ct.mpr ⟨b,t,c,rfl⟩,Ct.mpr ⟨b,t,p,rfl⟩⟩
theorem XA{t n:Dc}{r:List V}(w:d.Wf)(h:d.sub [z]=some t) :(Cc d (z::r) n).sub [y]=some x↔(y=z/\x=Cc t r n)∨(y≠z/\d.sub [y]=some x):=by
 rcases sub_one h with⟨a,u,i,rfl,rfl,g⟩|⟨a,v,u,k,rfl,rfl,g⟩
 ·rw[DQ g,Ge,Ge];have l:=(uy g).1;constructor
  ·rintro⟨j,rfl,c⟩;by_cases e:i=j
   ·subst e;rw[List.getElem?_set_self l]at c;exact .inl ⟨rfl,(uz c).symm⟩
   ·rw[List.getElem?_set_ne e]at c;exact .inr ⟨fun z=>e (by cases z;rfl),j,rfl,c⟩
  ·rintro(⟨rfl,rfl⟩|⟨q,j,rfl,c⟩)
   ·exact⟨i,rfl,List.getElem?_set_self l⟩
   ·exact⟨j,rfl,by rw[List.getElem?_set_ne fun e=>q (by rw[e])];exact c⟩
 ·cases w with
  |tab s o A=>
   have m:=CA s o g;have p:=Ep (Ad g).1;have l:=(uy m).1;rw[EB m,Ej s o,Ej (by rw[List.length_set];exact s) o];constructor
   ·rintro⟨j,k2,rfl,b,f⟩;by_cases e:ix v k=j
    ·subst e;rw[List.getElem?_set_self l]at f;rw[p]at b;cases b;exact .inl ⟨rfl,(uz f).symm⟩
    ·rw[List.getElem?_set_ne e]at f;exact .inr ⟨fun z=>e (Eu o p (by cases z;exact b)),j,k2,rfl,b,f⟩
   ·rintro(⟨rfl,rfl⟩|⟨q,j,k2,rfl,b,f⟩)
    ·exact⟨_,k,rfl,p,List.getElem?_set_self l⟩
    ·exact⟨j,k2,rfl,b,by rw[List.getElem?_set_ne fun e=>q (by rw[<-e,p]at b;cases b;rfl)];exact f⟩
theorem Pd(h:d.sub [z]=some x):d≠leaf v:=by
 rintro rfl;rcases sub_one h with⟨a,b,i,e,_⟩|⟨a,c,b,k,e,_⟩<;>cases e
end Dc
theorem JS(z:V)(r:List V):∀a:List V,Iq (a++[z]) [] (a++r)=a++Iq [z] [] r
 |[]=>rfl
 |u::a=>by
  have e:(u::a)++[z]=u::(a++[z]):=rfl;have n:DJ (u::(a++[z])) u=a++[z]:=by simp[DJ]
  show EC (u::(a++[z])) [] u::Iq (DJ (u::(a++[z])) u) [] (a++r)=_;rw[n,JS z r a];cases a with
  |nil=>rw[show u::([]++[z])=u::z::[]from rfl,ID,FI];rfl
  |cons b a=>rw[show u::(b::a++[z])=u::b::(a++[z])from rfl,ID,FI];rfl
theorem JT(z:V):∀a q:List V,¬a<+:q->Iq (a++[z]) [] q=q
 |[],_,h=>absurd List.nil_prefix h
 |u::a,[],_=>rfl
 |u::a,j::r,h=>by
  show EC (u::(a++[z])) [] j::Iq (DJ (u::(a++[z])) j) [] r=_;have e:EC (u::(a++[z])) [] j=j:=by
   cases a with
   |nil=>rw[show u::([]++[z])=u::z::[]from rfl,ID,FI]
   |cons b a=>rw[show u::(b::a++[z])=u::b::(a++[z])from rfl,ID,FI]
  rw[e];by_cases c:u=j
  ·have n:DJ (u::(a++[z])) j=a++[z]:=by simp[DJ,c]
   rw[n,JT z a r fun d=>h (by rw[c];exact List.cons_prefix_cons.mpr ⟨rfl,d⟩)]
  ·have n:DJ (u::(a++[z])) j=[]:=by simp[DJ,c]
   rw[n,IC]
theorem XB{q:List V}(h:a++[z]<+:a++q):[z]<+:q:=(List.prefix_append_right_inj a).mp h
theorem Pe{x:V}(h:Dc.Bi x):JL x x=true:=by
 rcases h with⟨i,rfl⟩|⟨k,rfl,_⟩<;>simp[JL]
theorem Bk{ys:List V}(b:steps xs)(c:steps ys):BQ xs ys=true↔xs=ys:=by
 constructor
 ·exact FH b c
 ·rintro rfl;unfold BQ;simp only[Bool.and_eq_true,beq_self_eq_true,and_true,List.all_eq_true,List.mem_range];intro j d;have a:j<xs.length:=by lia
  rw[List.getD_eq_getElem?_getD,ux a];exact Pe (b _ (List.getElem_mem a))
def lX(w:Str)(xs:List V):List V:=if Cm (.str w) [.str "take",.str "move"]=true then xs else[]
def mX(w:Str)(xs a:List V):List V:=if Cm (.str w) BY=true then CT w xs a else[]
def fG(w:Str)(xs b a:List V)(z:V):V:=match z with| .int i=>.int (Cp a i w xs+DW a i w xs b true)|_=>z
noncomputable def fH(w:Str)(xs a:List V):List V->List V->List V
 |_,[]=>[]
 |b,s::r=>fG w xs a b s::fH w xs a (b++[s]) r
theorem go_eq{w:Str}{xs b:List V}:∀(q a ys:List V),ys.length=q.length->(∀(i:Nat)(y s:V),ys[i]?=some y->q[i]?=some s->y=fG w xs b (a++q.take i) s)->ys=fH w xs b a q
 |[],_,ys=>fun l _=>by cases ys with|nil=>rfl|cons _ _=>simp at l
 |s::r,a,ys=>fun l h=>by
  cases ys with
  |nil=>simp at l
  |cons y t=>
   have c:=h 0 y s rfl rfl;rw[List.take_zero,List.append_nil]at c;show y::t=fG w xs b a s::fH w xs b (a++[s]) r;rw[c];congr 1;refine go_eq r (a++[s]) t (by simpa using l) fun i d e f g=>?_;have:=h (i+1) d e (by simpa using f) (by simpa using g);rw[this];simp
def GH(l a:List V):List V:=if a<+:l then l.drop a.length else[]
theorem Pf(l a:List V)(s:V):DJ (GH l a) s=GH l (a++[s]):=by
 unfold GH;by_cases c:a<+:l
 ·obtain⟨t,rfl⟩:=c;rw[if_pos (List.prefix_append a t),List.drop_left];cases t with
  |nil=>
   rw[if_neg fun b=>by have:=b.length_le;simp only[List.length_append,List.length_singleton,List.length_nil]at this;lia];rfl
  |cons x t=>
   by_cases e:x=s
   ·subst e;have b:a++[x]<+:a++x::t:=⟨t,by simp⟩;rw[if_pos b];simp[DJ]
   ·rw[if_neg fun b=>e (List.cons_prefix_cons.mp ((List.prefix_append_right_inj a).mp b)).1.symm];simp[DJ,e]
 ·rw[if_neg c,if_neg fun b=>c ((List.prefix_append a [s]).trans b)];rfl
theorem FJ{a:V}:GH l b=[a]↔l=b++[a]:=by
 unfold GH;constructor
 ·intro h;split at h
  ·rename_i c
   obtain⟨t,rfl⟩:=c;rw[List.drop_left]at h;rw[h]
  ·cases h
 ·rintro rfl;rw[if_pos (List.prefix_append _ _),List.drop_left]
theorem Ir(h:EV l=some j):l=l.dropLast++[.int j]:=by
 unfold EV at h;split at h
 ·rename_i i e
  cases h;have a:l≠[]:=by rintro rfl;cases e
  rw[List.getLast?_eq_some_getLast a]at e;have:=List.dropLast_concat_getLast a;rw[uz e]at this;exact this.symm
 ·cases h
theorem Me(b:List V)(a:V):EV (b++[a])=match a with| .int j=>some j|_=>none:=by
 unfold EV;rw[List.getLast?_concat];cases a<;>rfl
theorem Zg(k:steps xs)(g:steps b):Cp b i w xs=HG (GH (lX w xs) b) i:=by
 unfold Cp lX;by_cases d:Cm (.str w) [.str "take",.str "move"]=true
 ·rw[if_pos d];have h:steps xs.dropLast:=fun z l=>k z (List.dropLast_subset _ l);cases f:EV xs with
  |none=>
   show i=_;unfold HG;split
   ·rename_i a e
    rw[FJ.mp e,Me]at f;cases f
   ·rfl
  |some j=>
   show(if _ then _ else _)=_;have m:=Ir f;by_cases c:xs.dropLast=b
   ·have n:GH xs b=[.int j]:=FJ.mpr (by rw[<-c];exact m);rw[n];simp only[HG,d,(Bk h g).mpr c,true_and]
   ·rw[if_neg fun z=>c (FH h g z.2.1)];unfold HG;split
    ·rename_i a e
     have:=FJ.mp e;exact absurd (by rw[this];simp) c
    ·rfl
 ·rw[if_neg d];have:GH [] b=[]:=by unfold GH;split<;>simp
  rw[this,Pc];cases f:EV xs with
  |none=>rfl
  |some j=>exact if_neg fun z=>d z.1
theorem Zh{d:List V}(l:steps xs)(sz:steps b)(h:steps d):DW d i w xs b true=IB (GH (mX w xs b) d) i:=by
 unfold DW mX;by_cases f:Cm (.str w) BY=true
 ·rw[if_pos f];have st:=CU (w:=w) l sz;have k:steps (CT w xs b).dropLast:=fun z m=>st z (List.dropLast_subset _ m);cases g:EV (CT w xs b)with
  |none=>
   show(0:Int)=_;unfold IB;split
   ·rename_i a e
    rw[FJ.mp e,Me]at g;cases g
   ·rfl
  |some j=>
   show(if _ then _ else _)=_;have n:=Ir g;by_cases c:(CT w xs b).dropLast=d
   ·have o:GH (CT w xs b) d=[.int j]:=FJ.mpr (by rw[<-c];exact n);rw[o];simp only[IB,f,(Bk k h).mpr c,true_and];by_cases c2:j<=i
    ·rw[if_pos c2,if_pos (by lia)]
    ·rw[if_neg c2,if_neg (by lia)]
   ·rw[if_neg fun z=>c (FH k h z.2.1)];unfold IB;split
    ·rename_i a e
     have:=FJ.mp e;exact absurd (by rw[this];simp) c
    ·rfl
 ·rw[if_neg f];have:GH [] d=[]:=by unfold GH;split<;>simp
  rw[this,W_];cases g:EV (CT w xs b)with
  |none=>rfl
  |some j=>exact if_neg fun z=>f z.1
theorem bH{w:Str}{xs c:List V}(d:steps xs)(sz:steps c):∀(q a:List V),steps a->steps q->fH w xs c a q=Iq (GH (lX w xs) a) (GH (mX w xs c) a) q
 |[],_=>fun _ _=>rfl
 |s::r,a=>fun e f=>by
  show fG w xs c a s::fH w xs c (a++[s]) r=EC _ _ s::Iq (DJ _ s) (DJ _ s) r;rw[Pf,Pf,bH d sz r (a++[s]) (fun z b=>by
   rcases List.mem_append.mp b with b|b
   ·exact e z b
   ·rw[List.mem_singleton.mp b];exact f s List.mem_cons_self) fun z b=>f z (List.mem_cons_of_mem _ b)]
  congr 1;cases s with
  |int i=>simp only[fG,EC,Zg d e,Zh d sz e]
  |_=>rfl
theorem Pg(l:List V):GH l []=l:=by unfold GH;rw[if_pos List.nil_prefix];rfl
theorem up_eq(d:V):∀(b a:List V),steps b->steps a->LY a (b++[d])=match a[b.length]?,d with
  |some (.int i),.int j=>if BQ (a.take b.length) b=true/\(j<i∨(i=j/\b.length+1<a.length))then a.set b.length (.int (i+1))else a
  |_,_=>a
 |[],[],_,_=>by cases d<;>rfl
 |[],z::a,_,_=>by
  have e:(BQ ((z::a).take ([]:List V).length) []=true)=True:=by simp[BQ]
  cases z<;>cases d<;>try rfl
  rename_i i _ j
  show LY (.int i::a) [.int j]=if _ then _ else _;have c:(i=j/\([]:List V).length+1<(V.int i::a).length)↔(i=j/\a≠[]):=by
   cases a<;>simp
  simp only[LY];by_cases c1:j<i∨(i=j/\a≠[])
  ·rw[if_pos c1,if_pos ⟨e.mpr trivial,c1.imp id c.mpr⟩];rfl
  ·rw[if_neg c1,if_neg fun z=>c1 (z.2.imp id c.mp)]
 |u::b,[],_,_=>by cases d<;>(show LY [] (u::(b++[_]))=_;simp[LY])
 |u::b,z::a,l,sz=>by
  have g:steps b:=fun v f=>l v (List.mem_cons_of_mem _ f);have k:steps a:=fun v f=>sz v (List.mem_cons_of_mem _ f);have m:LY (z::a) ((u::b)++[d])=if z=u then z::LY a (b++[d])else z::a:=by
   cases b<;>rfl
  have o:(z::a)[(u::b).length]?=a[b.length]?:=by simp
  have st:∀n,steps (a.take n):=fun n v f=>k v (List.mem_of_mem_take f);have p:(BQ ((z::a).take (u::b).length) (u::b)=true)↔(z=u/\BQ (a.take b.length) b=true):=by
   rw[Bk (fun v f=>sz v (List.mem_of_mem_take f)) l,Bk (st _) g];simp
  rw[m,o,up_eq d b a g k];cases q:a[b.length]? with
  |none=>simp only;split<;>rfl
  |some c=>
   cases c with
   |int i=>
    cases d with
    |int j=>
     simp only[p];by_cases c1:z=u
     ·rw[if_pos c1];by_cases c2:BQ (a.take b.length) b=true/\(j<i∨(i=j/\b.length+1<a.length))
      ·rw[if_pos c2,if_pos ⟨⟨c1,c2.1⟩,by simpa using c2.2⟩];rfl
      ·rw[if_neg c2,if_neg fun h=>c2 ⟨h.1.2,by simpa using h.2⟩]
     ·rw[if_neg c1,if_neg fun h=>c1 h.1.1]
    |_=>simp only;split<;>rfl
   |_=>simp only;split<;>rfl
theorem XC(ne:xs≠[])(d:steps xs)(sz:steps a):CD a xs=LY a xs:=by
 obtain⟨b,c,rfl⟩:∃b c,xs=b++[c]:=⟨xs.dropLast,xs.getLast ne,(List.dropLast_concat_getLast ne).symm⟩;rw[Hy];refine Eq.trans ?_ (up_eq c b a (fun v e=>d v (List.mem_append_left _ e)) sz).symm;cases a[b.length]? with
 |none=>rfl
 |some z=>cases z<;>cases c<;>rfl
def B_(w:Str)(xs a q:List V):Option (List V):=
 if Cm (.str w) [.str "take",.str "change"]=true/\xs<+:q then none
 else if w="move"/\xs<+:q then some (a++q.drop xs.length)
 else some (Iq (lX w xs) (mX w xs a) q)
theorem la{a b:Str}:Cm (.str w) [.str a,.str b]=true↔w=a∨w=b:=by
 rw[show([.str a,.str b]:List V)=[a,b].map V.str from rfl,EU];simp
def big(y:V):Prop:=∃i:Int,y=.int i/\10 ^ 20<=i
def DK(v:Dc):Prop:=∀t y,v.sub t=some (.leaf y)->¬big y
def hI(d d':Dc):Prop:=∀q y,d.sub q=some (.leaf y)↔d'.sub q=some (.leaf y)
theorem hI.of{d':Dc}(w:d.Wf)(f:d'.Wf)(h:Dc.Eqv d d'):hI d d':=by
 intro q y;constructor
 ·intro a;obtain⟨e,b,c⟩:=Dc.Eqv.sub w f h a;cases c;exact b
 ·intro a;obtain⟨e,b,c⟩:=Dc.Eqv.sub f w h.symm a;cases c;exact b
theorem DK.of{d':Dc}(h:DK d)(l:hI d d'):DK d':=fun t y a=>h t y ((l _ _).mpr a)
def DX(H:Hp)(v:V):Option (List V)->Prop
 |none=>v=.As
 |some ys=>∃a:Addr,v=.ref a/\H a=some (.tup ys)
def Nb:Sp:=fun e H Q _=>∃(t:Addr)(a:List V)(r:V)(w:Str)(c d:List V)(p:Addr),e=[.ref t,r]/\H t=some (.tup a)/\steps a/\a.length<=100/\Rw H r w c d p/\∀v b,AF H b->DX b v (B_ w c d a)->Q v b
theorem pre_take{q:List V}(a:steps xs)(b:steps q):BQ (q.take xs.length) xs=true↔xs<+:q:=by
 rw[Bk (fun z c=>b z (List.mem_of_mem_take c)) a];constructor
 ·intro h;rw[<-h];exact List.take_prefix _ _
 ·intro h;exact(List.prefix_iff_eq_take.mp h).symm
def Nc:Sp:=fun b H Q _=>∃c:Int,b=[.int c]/\∀v a,Kj v->¬big v->AF H a->Q v a
def IE:Sp:=fun e H Q _=>∃(c:Int)(n:Addr)(a:List Str),e=[.int c,.ref n]/\H n=some (.lst (a.map V.str))/\a.length<=100/\0<a.length/\(∀y∈a,Bn y=true)/\∀(d:Dc)(b:Hp),AF H b->d.At b->d.ok->d.size<=2->DK d->Q d.val b
noncomputable def RF:Option Dc->V
 |some e=>e.val
 |none=>.As
def GI:Sp:=fun b H Q _=>∃(d:Dc)(t:Addr)(a:List V),b=[d.val,.ref t]/\d.At H/\H t=some (.tup a)/\steps a/\Q (RF (d.sub a)) H
structure VQ(D:List V)(f:V->Option Dc)(qs:List (List V)):Prop where
 hd:qs.head?=some []
 nd:qs.Nodup
 mem:∀q,q∈qs↔q=[]∨∃z x r,z∈D/\f z=some x/\q=z::r/\(x.sub r).isSome=true
structure Zi(d:Dc)(qs:List (List V)):Prop where
 hd:qs.head?=some []
 nd:qs.Nodup
 mem:∀q,q∈qs↔(d.sub q).isSome=true
variable{f:V->Option Dc}
theorem VQ.one:VQ [] f [[]]:=⟨rfl,by simp,fun q=>by
 constructor
 ·intro h;exact .inl (List.mem_singleton.mp h)
 ·rintro(rfl|⟨z,x,r,h,_⟩)
  ·simp
  ·cases h⟩
variable{D:List V}
theorem VQ.push{n i:List (List V)}(h:VQ D f n)(nz:z∉D)(s:f z=some x)(p:Zi x i):VQ (D++[z]) f (n++i.map (z::·)):=by
 refine⟨?_,List.nodup_append.mpr ⟨h.nd,?_,?_⟩,fun q=>?_⟩
 ·have:=h.hd;cases n with
  |nil=>cases this
  |cons a r=>exact this
 ·exact List.pairwise_map.mpr (p.nd.imp fun o e=>o (List.cons.inj e).2)
 ·intro a t b u e;subst e;obtain⟨r,_,rfl⟩:=List.mem_map.mp u;rcases(h.mem _).mp t with c|⟨j,k,g,c,_,d,_⟩
  ·cases c
  ·cases d;exact nz c
 ·rw[List.mem_append,h.mem,List.mem_map];constructor
  ·rintro((c|⟨j,k,g,c,d,l,m⟩)|⟨r,c,rfl⟩)
   ·exact .inl c
   ·exact .inr ⟨j,k,g,List.mem_append_left _ c,d,l,m⟩
   ·exact .inr ⟨z,x,r,by simp,s,rfl,(p.mem r).mp c⟩
  ·rintro(c|⟨j,k,g,c,d,l,m⟩)
   ·exact .inl (.inl c)
   ·rcases List.mem_append.mp c with c|c
    ·exact .inl (.inr ⟨j,k,g,c,d,l,m⟩)
    ·have:=List.mem_singleton.mp c;subst this;rw[s]at d;cases d;exact .inr ⟨g,(p.mem g).mpr m,l.symm⟩
theorem VQ.all{f:List (List V)}(h:VQ D (fun z=>d.sub [z]) f)(a:∀z x,d.sub [z]=some x->z∈D):Zi d f:=⟨h.hd,h.nd,fun q=>by
 rw[h.mem];constructor
 ·rintro(rfl|⟨z,x,r,_,b,rfl,i⟩)
  ·rw[Dc.BS];rfl
  ·obtain⟨e,c⟩:=Option.isSome_iff_exists.mp i;rw[Dc.BC.mpr ⟨x,b,c⟩];rfl
 ·intro j;obtain⟨e,c⟩:=Option.isSome_iff_exists.mp j;cases q with
  |nil=>exact .inl rfl
  |cons z r=>
   obtain⟨x,g,b⟩:=Dc.BC.mp c;exact .inr ⟨z,x,r,a z x g,g,rfl,by rw[b];rfl⟩⟩
variable{ps:List Addr}{c:List (List V)}
theorem Bu.append{a:List Addr}{b:List (List V)}(h:Bu H ps b)(h':Bu H a c):Bu H (ps++a) (b++c):=by
 induction h with
 |nil=>exact h'
 |cons h _ d=>exact .cons h d
theorem Bu.get{a:List (List V)}(h:Bu H ps a){j:Nat}{p:Addr}(e:ps[j]?=some p):∃xs,a[j]?=some xs/\H p=some (.tup xs):=by
 induction h generalizing j with
 |nil=>cases e
 |cons h _ b=>
  cases j with
  |zero=>cases e;exact⟨_,rfl,h⟩
  |succ j=>exact b (by simpa using e)
def GJ(n:Nat):Sp:=fun f H Q _=>∃(d:Dc)(t:Addr)(b:List V),f=[d.val,.ref t]/\d.At H/\d.ok/\d.slim/\d.deep<=n/\H t=some (.tup b)/\b.length+d.size<=1000/\
 ∀(p:Addr)(c:List Addr)(e:List (List V))(a:Hp),AF H a->H p=none->a p=some (.lst (c.map V.ref))->c.length=d.size->Bu a c (e.map (b++·))->Zi d e->Q (.ref p) a
variable{H':Hp}
theorem Ue(g:Bu H' ps (c.map (xs++·)))(P:Zi d c):∀(j:Nat) q,ps[j]?=some q->∃e,H' q=some (.tup (xs++e))/\(d.sub e).isSome=true/\(0<j->e≠[]):=by
 intro j z h;obtain⟨p,a,i⟩:=g.get h;rw[List.getElem?_map]at a;cases b:c[j]? with
 |none=>rw[b]at a;cases a
 |some r=>
  rw[b]at a;cases a;refine⟨r,i,(P.mem r).mp (u_ b),fun k l=>?_⟩;subst l;have f:=P.hd;rw[List.head?_eq_getElem?]at f;obtain⟨m,n⟩:=uy f;obtain⟨l1,o⟩:=uy b;exact(List.pairwise_iff_getElem.mp P.nd) 0 j m l1 k (n.trans o.symm)
theorem HH(h:¬big v):DK (.leaf v):=fun t y e=>by
 cases t with
 |nil=>cases e;exact h
 |cons z r=>exact absurd rfl (Dc.Pd (v:=v) (Dc.BC.mp e).choose_spec.1)
theorem RG{a:Addr}:DK (.row a []):=fun t y e=>by
 cases t with
 |nil=>cases e
 |cons z r=>
  obtain⟨x,b,_⟩:=Dc.BC.mp e;obtain⟨i,_,h⟩:=Dc.Ge.mp b;simp at h
theorem RH{a:Addr}:DK (.tab a [] []):=fun t y e=>by
 cases t with
 |nil=>cases e
 |cons z r=>
  obtain⟨x,b,_⟩:=Dc.BC.mp e;obtain⟨i,k,_,_,h⟩:=(Dc.Ej rfl List.nodup_nil).mp b;simp at h
theorem RI{a:Addr}(h:¬big v):DK (.row a [.leaf v]):=fun t y e=>by
 cases t with
 |nil=>cases e
 |cons z r=>
  obtain⟨x,c,b⟩:=Dc.BC.mp e;obtain⟨i,_,g⟩:=Dc.Ge.mp c;rw[List.mem_singleton.mp (u_ g)]at b;exact HH h r y b
theorem RJ{a:Addr}{k:Str}(h:¬big v):DK (.tab a [k] [.leaf v]):=fun t y e=>by
 cases t with
 |nil=>cases e
 |cons z r=>
  obtain⟨x,c,b⟩:=Dc.BC.mp e;obtain⟨i,k,_,_,g⟩:=(Dc.Ej rfl (by simp)).mp c;rw[List.mem_singleton.mp (u_ g)]at b;exact HH h r y b
structure Fo(H:Hp)(w:Str)(zs rest:List V):Prop where
 pc:w="put"∨w="change"->∃v:Dc,rest=[v.val]/\v.At H/\v.ok/\v.size<=2/\DK v
 cm:w="copy"∨w="move"->∃p2,rest=[.ref p2]/\H p2=some (.tup zs)
 ak:w="ask"->∃v:Dc,rest=[v.val]/\v.At H/\v.ok/\v.size<=40
 is:w="is"->∃x:Str,rest=[.str x]
theorem Fo.up{d rest:List V}(h:Fo H w d rest)(s:AF H H'):Fo H' w d rest:=
 ⟨fun e=>by obtain⟨v,a,b,c⟩:=h.pc e;exact⟨v,a,Dc.Ab s b,c⟩,fun e=>by obtain⟨p,a,b⟩:=h.cm e;exact⟨p,a,s _ _ b⟩,fun e=>by obtain⟨v,a,b,c⟩:=h.ak e;exact⟨v,a,Dc.Ab s b,c⟩,h.is⟩
structure Rx(H:Hp)(r:V)(w:Str)(xs zs:List V)(p:Addr):Prop where
 rw:Rw H r w xs zs p
 th:∃(a:Addr)(rest:List V),r=.ref a/\H a=some (.tup (.str w::.ref p::rest))/\Fo H w zs rest
theorem Rx.up{H H':Hp}{r:V}{w:Str}{xs b:List V}{p:Addr}(h:Rx H r w xs b p)(s:AF H H'):Rx H' r w xs b p:=by
 obtain⟨c,a,rest,e,d,f⟩:=h;exact⟨c.up s,a,rest,e,s _ _ d,f.up s⟩
theorem Sz{e:Dc}(a:d.At H)(b:e.At H')(l:Dc.Cb d e):hI d e:=hI.of (Dc.Fg d a) (Dc.Fg e b) (Dc.Ku d e l)
theorem Fo.no{rest:List V}(h:w∈(["take","has","lacks"]:List Str)):Fo H w a rest:=by
 simp only[List.mem_cons,List.not_mem_nil,or_false]at h;rcases h with rfl|rfl|rfl<;>exact⟨fun z=>absurd z (by decide),fun z=>absurd z (by decide),fun z=>absurd z (by decide),fun z=>absurd z (by decide)⟩
theorem Fo.val{v:Dc}(h:w="put"∨w="change")(b:v.At H)(c:v.ok)(d:v.size<=2)(e:DK v):Fo H w a [v.val]:=by
 rcases h with rfl|rfl<;>exact⟨fun _=>⟨v,rfl,b,c,d,e⟩,fun z=>absurd z (by decide),fun z=>absurd z (by decide),fun z=>absurd z (by decide)⟩
theorem Fo.two{p:Addr}(h:w="copy"∨w="move")(b:H p=some (.tup a)):Fo H w a [.ref p]:=by
 rcases h with rfl|rfl<;>exact⟨fun z=>absurd z (by decide),fun _=>⟨p,rfl,b⟩,fun z=>absurd z (by decide),fun z=>absurd z (by decide)⟩
theorem Fo.ask{v:Dc}(b:v.At H)(c:v.ok)(d:v.size<=40):Fo H "ask" a [v.val]:=⟨fun z=>absurd z (by decide),fun z=>absurd z (by decide),fun _=>⟨v,rfl,b,c,d⟩,fun z=>absurd z (by decide)⟩
theorem Fo.oK{x:Str}:Fo H "is" a [.str x]:=⟨fun z=>absurd z (by decide),fun z=>absurd z (by decide),fun z=>absurd z (by decide),fun _=>⟨x,rfl⟩⟩
section
variable{X:Cx} {es:List Expr} {kt:Nat} {pt:Pos}
end
namespace Dc
end Dc
abbrev zero:Dc:=.leaf (.int 0)
theorem RK{q:List V}(h:¬(Cm (.str w) [.str "take",.str "change"]=true/\xs<+:q)):∃b,B_ w xs a q=some b:=by
 unfold B_;rw[if_neg h];split<;>exact⟨_,rfl⟩
theorem DX.up{o:Option (List V)}(h:DX H v o)(s:AF H H'):DX H' v o:=by
 cases o with
 |none=>exact h
 |some d=>obtain⟨b,a,c⟩:=h;exact⟨b,a,s _ _ c⟩
variable{mN:Str->Option Value}
section
variable{Iu:Program} {wd:World} {Ar:Around} {Ex:Value->Shared->Prop} {hp:Heap} {gn:Array GenState} {dr:Drawn} {tk:Nat} {sy:OsState}
variable{nm qn:Str} {C N:Addr} {bs tl dM:List Value} {hdc:Bool} {sn:List Str} {sb:List Value} {ab:Bool} {cl:Option Bool} {dd:Option Addr} {k0 k1 k2 k3 k5:Option Value} {B newId Nf:String}
abbrev XD(C t:Addr):Obj:={cls:=.ref C,data:=.fields #[.ref t,.none,.none,.none,.bool false,.none]}
theorem Lg(F:ExcBaseFacts B newId Nf dM)(T:OwnTail hp dM tl){rest:List Value}{g:Addr}{j:Obj}{Q:Fin->Shared->Prop}(hC:hp.get? C=some (excClassObj nm qn C N bs tl hdc sn sb ab cl dd k0 k1 k2 k3 k5 newId))(l:hp.Ns N mN)(m:mN "__init__"=some (.ref g))(n:hp.get? g=some j)(p:j.cls=.type "function")(q:rest.length<=sizeLine)(s:∀h' e,Heap.MadeExcOf hp h' e (.ref C) rest->wpAny (model Iu wd) Ar (call (.ref g) (.ref e::rest)) (fun r s'=>r=.none/\Q (.done (.ret (.ref e))) s') Ex ⟨h',gn,dr,tk,sy⟩):
  wpAny (model Iu wd) Ar (Builtin.«type.__call__» ⟨.ref C::rest,[]⟩) Q Ex ⟨hp,gn,dr,tk,sy⟩:=by
 repeat (first|with_reducible refine wpAny_loadPart_at hC ?_|with_reducible refine wpAny_madeBy_exc hC ?_|wp_step)
 refine codeAny_call_builtin_code (Code.quiet_builtin _ F.quiet) (wpAny_check_new_subT F T hC ?_);refine codeAny_exc_new_subT F T hC ?_ q;show wpAny _ _ _ _ _ _;obtain⟨c,a⟩:∃c,c=(hp.push {cls:=.type "tuple",data:=.seq rest.toArray}).push (XD C hp.objs.size):=⟨_,rfl⟩;have d:∀b o,hp.get? b=some o->c.get? b=some o:=fun b o e=>by rw[a];exact Heap.get?_push_of_some _ (Heap.get?_push_of_some _ e)
 have k:c.get? (hp.objs.size+1)=some (XD C hp.objs.size):=by rw[a];heap_get
 have t:c.get? hp.objs.size=some {cls:=.type "tuple",data:=.seq rest.toArray}:=by rw[a];exact Heap.get?_push_of_some _ (Heap.get?_push_at rfl rfl)
 rw[<-a];have f:=d _ _ hC;have h:c.Ns N mN:=let⟨o,u,v,e,r⟩:=l;⟨o,u,v,d _ _ e,r⟩;have w:=T.keeps d;have i:(Value.ref C::tl).contains (.ref C)=true:=by simp
 unfold isInstance
 repeat (first|with_reducible refine wpAny_loadPart_at k ?_|(with_reducible refine wpAny_isSubtype_exc f ?_;rw[i])|wp_step)
 show wpAny _ _ (typeLookup (.ref C) _) _ _ _;refine wpAny_typeLookup_tail f h w F.mroIs F.init.lookup ?_;rw[m];refine wpAny_holding (wpAny_bind ?_);unfold bindSpecial;refine wpAny_bind (wpAny_typeOf (T:="function") ⟨_,d _ _ n,p⟩ ?_);rw[if_pos (by decide)];refine wpAny_pure (wpAny_bind (wpAny_mono (s c (hp.objs.size+1) ⟨d,Heap.get?_none_of_le (Nat.le_succ _),hp.objs.size,k,Heap.get?_none_of_le (Nat.le_refl _),t⟩) (fun r s' y=>?_) fun _ _ x=>x));obtain⟨rfl,z⟩:=y;wp_walk;exact z
theorem XE(F:ExcBaseFacts B newId Nf dM)(T:OwnTail hp dM tl){rest:List Value}{a:Addr}{b:Obj}{Q:Value->Shared->Prop}(hC:hp.get? C=some (excClassObj nm qn C N bs tl hdc sn sb ab cl dd k0 k1 k2 k3 k5 newId))(c:hp.Ns N mN)(d:mN "__init__"=some (.ref a))(f:hp.get? a=some b)(g:b.cls=.type "function")(h:rest.length<=sizeLine)(i:∀h' e,Heap.MadeExcOf hp h' e (.ref C) rest->wpAny (model Iu wd) (Ar.under (.builtin "type.__call__" ⟨.ref C::rest,[]⟩)) (call (.ref a) (.ref e::rest)) (fun r s'=>r=.none/\Q (.ref e) s') Ex ⟨h',gn,dr,tk,sy⟩):
  wpAny (model Iu wd) Ar (call (.ref C) rest) Q Ex ⟨hp,gn,dr,tk,sy⟩:=by
 have k:=tc_lookup;have l:=tc_bind (.ref C);have m:(⟨hp,gn,dr,tk,sy⟩:Shared).TypeIs (.ref C) "type":=⟨_,hC,rfl⟩;refine wpAny_call (codeAny_of_tree ?_);show wpAny _ _ (callAny (.ref C) _) _ _ _
 repeat (any_goals (first|assumption|with_reducible refine wpAny_loadPart_at hC ?_|wp_step))
 refine⟨rfl,?_⟩;exact codeAny_call_builtin_at (Code.quiet_builtin _ (by decide+kernel)) entry_typeCall (wpAny_check_type_call_sub hC (Lg F T hC c d f g h fun h' e j=>i h' e j))
end
end L2
namespace L2
open PySem PySem.Spec PyProof.Rows PySem.W PySem.Builtin PySem.Builtin.ObjectAttr
noncomputable def JU:List Value->Bool
 | .ref _::r=>JU r
 |l=>l==OV
theorem IF(self:Value):∀{l:List Value},JU l=true->refuseLoop self "__setattr__" l=pure ()
 | .ref c::r,e=>by rw[refuseLoop_ref];exact IF self e
 |[],e=>by cases e
 | .none::r,e=>by cases e
 | .type n::r,e=>by
  have:=beq_iff_eq.mp (show(Value.type n::r==OV)=true from e);rw[this];exact PySem.F.store_ValueError.passes self
 | .bool _::r,e=>by have:=beq_iff_eq.mp (show(_==OV)=true from e);cases this
 | .int _ _::r,e=>by have:=beq_iff_eq.mp (show(_==OV)=true from e);cases this
 | .str _ _::r,e=>by have:=beq_iff_eq.mp (show(_==OV)=true from e);cases this
 | .bytes _ _::r,e=>by have:=beq_iff_eq.mp (show(_==OV)=true from e);cases this
 | .float _ _::r,e=>by have:=beq_iff_eq.mp (show(_==OV)=true from e);cases this
 | .builtin _::r,e=>by have:=beq_iff_eq.mp (show(_==OV)=true from e);cases this
theorem Mf:∀{l:List Value},JU l=true->l.contains (.type "object")=true
 | .ref c::r,e=>by rw[List.contains_cons,Mf (l:=r) e,Bool.or_true]
 |[],e=>by cases e
 | .type n::r,e=>by rw[beq_iff_eq.mp (show(Value.type n::r==OV)=true from e)];decide
 | .none::r,e=>by cases e
 | .bool _::r,e=>by have:=beq_iff_eq.mp (show(_==OV)=true from e);cases this
 | .int _ _::r,e=>by have:=beq_iff_eq.mp (show(_==OV)=true from e);cases this
 | .str _ _::r,e=>by have:=beq_iff_eq.mp (show(_==OV)=true from e);cases this
 | .bytes _ _::r,e=>by have:=beq_iff_eq.mp (show(_==OV)=true from e);cases this
 | .float _ _::r,e=>by have:=beq_iff_eq.mp (show(_==OV)=true from e);cases this
 | .builtin _::r,e=>by have:=beq_iff_eq.mp (show(_==OV)=true from e);cases this
variable{o:Obj}{tk:Tok}
section
variable{Iu:Program} {wd:World} {Ar:Around} {R:Result->Shared->Prop} {K:vA} {s:Shared} {x C:Addr} {name:Str} {v:Value} {mA:Str->Option Value} {ns:List Str}
theorem Ph{od:Option Obj}(X:K.In s.heap)(J:PySem.W.InstAt s.heap x o C od)(r:(clsIn K C).any (fun c=>JU c.mro)=true)(t:(clsIn K C).any (·.hasDict)=true)(u:takerIn K C name=some none)(w:∀b c c1 h d,c.hasDict=true->s.heap.get? C=some ⟨c1,h,.cls c,d⟩->wpAny (model Iu wd) Ar.in1 (storeInOwnDict (.ref x) (.ref C) (.str name tk) name v b) (fun fin s'=>match fin with| .done f=>R (.ok f) s'| .again k=>k.quiet=true/\codeAny (model Iu wd) Ar k R s') (fun e s'=>R (.error e) s') s):
  codeAny (model Iu wd) Ar (.call (.builtin "object.__setattr__") ⟨[.ref x,.str name tk,v],[]⟩) R s:=by
 obtain⟨c,g,j⟩:=any_some r;have i:=PySem.F.store_object;have y:c.mro.isEmpty=false:=by
  cases q:c.mro with
  |nil=>rw[q]at j;cases j
  |cons _ _=>rfl
 have l:Looks (model Iu wd) s.heap (isInstance (.ref x) (.type "object")) true:=J.type.andThen (looks_mroIn X (by unfold mroIn;rw[g,Option.bind_some,if_neg (by rw[y];decide),Mf j]));refine codeAny_call_builtin i.slot.plain i.entry (@check_slot (model Iu wd) _ _ s "object.__setattr__" "object" "__setattr__" (.ref x) [.str name tk,v] [] _ i.kind i.split l (i.args (.ref x) (.str name tk) v) ?_);obtain⟨attr,z,A⟩:=Option.bind_eq_some_iff.mp u;have mro:Looks (model Iu wd) s.heap (mroOf (.ref C)) c.mro:=(looks_clsIn X g).andThen .now;have m:Looks (model Iu wd) s.heap (storeTaker? attr) none:=by
  cases attr with
  |none=>exact .now
  |some a=>
   obtain⟨b,B,e⟩:=Option.map_eq_some_iff.mp A;cases b with
   |true=>cases e
   |false=>exact(looks_takesIn X B).andThen .now
 rw[osa_eq,refuse_eq];refine wpAny_bind (wpAny_bind (J.type.here (wpAny_bind (mro.here ?_))));rw[IF _ j];refine wpAny_pure (wpAny_bind (J.type.here (wpAny_bind ((looks_findIn X z).here (wpAny_bind (m.here ?_))))));dsimp only;have n:c.hasDict=true:=by
  obtain⟨D,p,E⟩:=any_some t;rw[g]at p;cases p;exact E
 obtain⟨c1,h,d,hC⟩:∃c1 h d,s.heap.get? C=some ⟨c1,h,.cls c,d⟩:=by
  unfold clsIn at g;split at g
  ·rename_i k I G H q
   cases g;exact⟨_,_,_,X _ _ q⟩
  ·cases g
 exact w _ c c1 h d n hC
theorem Ug(h:PySem.W.notCls o=true)(c:ClassData):o.data≠.cls c:=fun q=>by unfold PySem.W.notCls at h;rw[q]at h;cases h
theorem Uh(X:K.In s.heap)(J:PySem.W.InstAt s.heap x o C none)(w:(clsIn K C).any (fun p=>JU p.mro)=true)(z:(clsIn K C).any (·.hasDict)=true)(A:takerIn K C name=some none)(B:∀h' i,h'.get? x=some {o with dict:=some s.heap.objs.size}->h'.Ns1 s.heap.objs.size (fun y=>if y=name then some v else none)->(∀b u,b≠x->s.heap.get? b=some u->h'.get? b=some u)->R (.ok (.ret .none)) {s with heap:=h',toks:=i}):
  codeAny (model Iu wd) Ar (.call (.builtin "object.__setattr__") ⟨[.ref x,.str name tk,v],[]⟩) R s:=by
 refine Ph X J w z A fun O p c1 P D E hC=>?_;have h:=J.at_;have j:=J.cls;have F:o.dict=none:=by
  have:=J.dict;cases q:o.dict with
  |none=>rfl
  |some _=>rw[q]at this;exact this.elim
 have G:=Heap.lt_size h;unfold storeInOwnDict
 repeat (first|(with_reducible refine wpAny_loadPart_at h ?_;rw[j])|with_reducible refine wpAny_load hC ?_|wp_step)
 rw[F];dsimp only;rw[if_neg (by simp[typeHasDict])];split
 ·rename_i c q
  exact absurd q (Ug J.no c)
 ·have f:(s.heap.push {cls:=.type "dict",data:=.dict #[]}).get? x=some o:=Heap.get?_push_of_some _ h;have r:x≠s.heap.objs.size:=Nat.ne_of_lt G;refine wpAny_bind (wpAny_alloc' (wpAny_bind (wpAny_update' f (wpAny_pure ?_))));obtain⟨d,a⟩:∃d,d=(s.heap.push {cls:=.type "dict",data:=.dict #[]}).update x fun o=>{cls:=o.cls,dict:=some s.heap.objs.size,data:=o.data,slots:=o.slots}:=⟨_,rfl⟩;have H:d.get? s.heap.objs.size=some {cls:=.type "dict",data:=.dict #[]}:=by rw[a];exact(Heap.get?_update_ne _ _ _ _ r.symm).trans (Heap.get?_push_at rfl rfl)
  have I:d.get? x=some {o with dict:=some s.heap.objs.size}:=by
   rw[a];refine Heap.get?_update_self _ f ?_;have L:=(Heap.get?_some_iff.mp h).2;obtain⟨a1,a2,a3,a4⟩:=o;cases a3<;>first|rfl|exact L
  have go:∀b u,b≠x->s.heap.get? b=some u->d.get? b=some u:=fun b u k e=>by rw[a];exact(Heap.get?_update_ne _ _ _ _ k).trans (Heap.get?_push_of_some _ e)
  have M:d.Ns s.heap.objs.size (fun _=>none):=⟨_, #[],_,H,rfl,fun e N=>absurd N (by simp),fun _=>rfl⟩;rw[<-a];show wpAny _ _ (storeInDict s.heap.objs.size (.str name tk) name v) _ _ _;unfold storeInDict newKeyGuard;refine wpAny_bind (wpAny_pure (wpAny_bind (wpAny_nsSet1 (Heap.Ns1.of_empty M) fun h' g t=>?_)));obtain⟨Q,S,T,l,m,n⟩:=g.count (Within.cons name v Within.nil);refine wpAny_bind (wpAny_lookBehind l (by rw[m];exact pastItsLine_dict (Nat.le_trans n (by rw[List.length_cons,List.length_nil,sizeLine_eq];omega))) ?_);wp_walk;exact B h' _ ((t.2 x r).trans I) g fun b u k e=>(t.2 b (Nat.ne_of_lt (Heap.lt_size e))).trans (go b u k e)
theorem XF{od:Obj}{a:Addr}(X:K.In s.heap)(J:PySem.W.InstAt s.heap x o C (some od))(d:o.dict=some a)(m:a≠x)(f:s.heap.Ns1 a mA)(n:(clsIn K C).any (fun l=>JU l.mro)=true)(p:(clsIn K C).any (·.hasDict)=true)(q:takerIn K C name=some none)(hw:Within mA ns)(D:ns.length<=1000)(r:∀h' g,h'.Ns1 a (fun y=>if y=name then some v else mA y)->(∀b u,b≠a->s.heap.get? b=some u->h'.get? b=some u)->R (.ok (.ret .none)) {s with heap:=h',toks:=g}):
  codeAny (model Iu wd) Ar (.call (.builtin "object.__setattr__") ⟨[.ref x,.str name tk,v],[]⟩) R s:=by
 refine Ph X J n p q fun E l c1 F t w hC=>?_;have z:=J.at_;have h:=J.cls;unfold storeInOwnDict
 repeat (first|(with_reducible refine wpAny_loadPart_at z ?_;rw[h])|with_reducible refine wpAny_load hC ?_|wp_step)
 rw[d];refine wpAny_pure ?_;show wpAny _ _ (storeInDict a (.str name tk) name v) _ _ _;unfold storeInDict newKeyGuard;refine wpAny_bind (wpAny_pure (wpAny_bind (wpAny_nsSet1 f fun h' c A=>?_)));obtain⟨G,H,I,i,j,k⟩:=c.count (Within.cons name v hw);refine wpAny_bind (wpAny_lookBehind i (by rw[j];exact pastItsLine_dict (Nat.le_trans k (by rw[List.length_cons,sizeLine_eq];omega))) ?_);wp_walk;exact r h' _ c fun b u B e=>(A.2 b B).trans e
end
end L2
namespace L2
open PySem PySem.Spec PyProof.Rows PySem.W PySem.Builtin PySem.Builtin.ObjectAttr
def S_(C:Addr)(o:Obj):Bool:=match o.data with
 | .cls a=>o.cls==.type "type"&&(a.mro.head?==some (.ref C)&&(a.mro.tail.contains (.type "BaseException")&&(o.slots.size==6&&(o.slots[4]?==some (some (.builtin "ValueError.__new__"))&& !a.hasDel))))
 |_=>false
def EW(K:vA)(C:Addr):Bool:=(K.lookup C).any (S_ C)
theorem Jw{K:vA}{h:Heap}{C:Addr}(X:K.In h)(q:EW K C=true):∃tl N nm qn bs hdc sn sb ab cl dd k0 k1 k2 k3 k5,h.get? C=some (excClassObj nm qn C N bs tl hdc sn sb ab cl dd k0 k1 k2 k3 k5 "ValueError.__new__")/\tl.contains (.type "BaseException")=true:=by
 obtain⟨o,e,q⟩:=any_some q;obtain⟨c,dd,data,f⟩:=o;cases data with
 |cls g=>
  obtain⟨nm,bs,a,i,qn,j,sn,sub,ab,b,k⟩:=g;simp only[S_,Bool.and_eq_true,beq_iff_eq,Bool.not_eq_true']at q;obtain⟨m,d,n,p,r,s⟩:=q;cases a with
  |nil=>cases d
  |cons v t=>
   cases d;obtain⟨l⟩:=f;obtain⟨k0,k1,k2,k3,k4,k5,rfl⟩:=bC (l:=l) p;cases r;subst m s;exact⟨t,i,nm,qn,bs,j,sn,sub,ab,b,dd,k0,k1,k2,k3,k5,X _ _ e,n⟩
 |_=>cases q
structure Ui(K:vA)(D:Addr):Prop where
 q:EW K D=true
 ga:PySem.W.findIn K (.ref D) "__getattribute__"=some (some (.builtin "BaseException.__getattribute__"))
 gn:PySem.W.findIn K (.ref D) "__getattr__"=some none
section
variable{Iu:Program} {wd:World} {Ar:Around} {K:vA} {s:Shared} {x D:Addr} {ox:Obj} {od:Option Obj} {name:Str} {v:Value}
theorem Uj{R:Result->Shared->Prop}{tk:Tok}(X:K.In s.heap)(I:PySem.W.InstAt s.heap x ox D od)(k:Ui K D)(j:PySem.W.findObj K D od name=some (.value v))(h:R (Except.ok (Flow.ret v)) s):
  codeAny (model Iu wd) Ar (Code.call (Value.builtin "BaseException.__getattribute__") {pos:=[Value.ref x,Value.str name tk]}) R s:=by
 obtain⟨l,g,d,t,os⟩:=s;obtain⟨m,N,n,o,bs,a,p,sub,r,c,u,w,k1,k2,k3,k5,hC,y⟩:=Jw X k.q;refine codeAny_call_builtin PySem.F.attrBase_ValueError.ga.plain PySem.F.entry_bexc_ga ?_;have f:=@wpAny_check_slot_inst Ar.in1 (fun e z=>R (Except.error e) z) l g d t os n o D N x bs m a p sub r c u w k1 k2 k3 k5 "ValueError.__new__" (model Iu wd) "BaseException.__getattribute__" "BaseException" "__getattribute__" ox [Value.str name tk];refine f oH oI (PySem.F.args_bexc_ga _ _) y I.at_ I.cls hC ?_;clear f;unfold Builtin.«object.__getattribute__» slotArgs;generalize b:Builtin.ObjectAttr.find=A;generalize i:Builtin.ObjectAttr.bindTo=B
 repeat (first|(with_reducible refine wpAny_loadPart_at I.at_ ?_;rw[I.cls])|wp_step)
 subst b;refine(PySem.W.looks_find X I j) _ _ _ _ (fun _ _ e=>e) ?_;dsimp only;exact wpAny_pure h
theorem XG{E:Value->Shared->Prop}{Q:Value->Shared->Prop}{ex:Bool}(X:K.In s.heap)(I:PySem.W.InstAt s.heap x ox D od)(k:Ui K D)(a:PySem.W.findObj K D od name=some (.value v))(b:PySem.W.handedIn v=true)(h:Q v {s with toks:=s.toks+1}):
  wpAny (model Iu wd) Ar (getAttr (Value.ref x) name ex) Q E s:=by
 unfold getAttr;refine wpAny_bind (wpAny_mkText ?_);unfold getAttrBy;refine wpAny_holding (wpAny_bind ((I.type (h:=s.heap)) _ _ _ _ (fun _ _ e=>e) ?_));refine wpAny_bind ((PySem.W.looks_findIn X k.ga) _ _ _ _ (fun _ _ e=>e) ?_);dsimp only;have c:(Value.builtin "BaseException.__getattribute__"==Value.builtin "object.__getattribute__")=false:=by decide
 rw[c,Bool.and_false,if_neg Bool.false_ne_true];unfold getAttrByItsOwn;refine wpAny_bind ((PySem.W.looks_hook X (mc:=.ref D) (r:=none) k.gn) _ _ _ _ (fun _ _ e=>e) ?_);refine wpAny_bind (wpAny_attempt (wpAny_holding ?_));unfold callGetattribute boundAndCalled;rw[if_neg (by rw[show onTheHeap (Value.builtin "BaseException.__getattribute__")=false from rfl,Bool.and_false];decide),PySem.F.attrBase_ValueError.ga.bind];refine wpAny_bind (wpAny_pure ?_);refine wpAny_call (Uj (s:={s with toks:=s.toks+1}) X I k a ?_);exact PySem.W.handed_on b h
end
end L2
namespace L2
open PySem PySem.Spec PyProof.Rows
section
variable{P:Program} {w:World} {H H':Hp} {h h' h0:Heap} {a e T C:Addr} {o:HO}
structure RL(d:Option Addr)(H:Hp)(h0 h:Heap)(e C:Addr)(oe:Obj)(vs:Array Value)(T:Addr):Prop where
 at_:h.get? e=some oe
 cls:oe.cls=.ref C
 dict:oe.dict=d
 data:oe.data=.fields vs
 sz:1<vs.size
 one:vs[1]?=some (.ref T)
 ne:T≠e
 ent:Entry h T .none
 He:H e=none
 HT:H T=none
 jd:h0.get? e=none
 rK:h0.get? T=none
def Ya(P:Program)(w:World):QU:=fun outer H s E e b=>∃(c C:Addr)(d:Option Addr)(H':Hp),e=.ref c/\b.os=s.os/\AllBare b.gens/\Un (OY outer) [] H H' s.heap b.heap/\Et P w H' b.heap/\(∃f g T,RL d H' s.heap b.heap c C f g T)/\E (.ref C) d H'
theorem RL.next{d:Option Addr}{f:Obj}{i:Array Value}{g:Addr}(cls:f.cls=.ref C)(dict:f.dict=d)(data:f.data=.fields i)(sz:1<i.size)(r:H e=none)(j:h0.get? e=none)(k:Et P w H h)(s:∀b o,h0.get? b=some o->∃n,h.get? b=some n)(l:h.get? g=none)(m:∃o,h.get? e=some o)(t:h'.get? e=some (f.mapFields (·.setIfInBounds 1 (.ref g))))(u:Entry h' g .none):∃f i T,RL d H h0 h' e C f i T:=by
 have v:h0.get? g=none:=by
  cases z:h0.get? g with
  |none=>rfl
  |some o=>
   obtain⟨n,p⟩:=s g o z;rw[l]at p;cases p
 refine⟨_,_,g,t,(Obj.cls_mapFields _ _).trans cls,?_,Obj.data_mapFields data _,by simpa using sz,by simp[sz],fun z=>?_,u,r,k.none_of l,j,v⟩
 ·obtain⟨c,d,x,y⟩:=f;cases data;exact dict
 ·obtain⟨o,q⟩:=m;rw[<-z,l]at q;cases q
end
variable{f C:Addr}{M:Model}
section
variable{X:Cx} {pins:List (Addr×Obj)} {σ:St} {H:Hp} {s s':Shared} {E:XK} {e:Value}
theorem Pj{p:Value->Shared->Prop}{t:Addr}{h:Obj}{d:Option Addr}(c:X.stack=X.env::X.outer)(i:X.env.frame=some X.env.locals)(hex:X.ex=[])(I:Inv X pins σ H s)(k:s.heap.get? f=some h)(r:h.cls=.ref C)(u:h.dict=d)(a:h.data=.fields #[.ref t,.none,.none,.none,.bool false,.none])(l:H f=none)(m:X.s₀.heap.get? f=none)(q:E (.ref C) d H):
  wpAny M X.A (leaving X.env (.ref f)) (fun _ j=>Ya X.prog X.w X.outer X.H₀ X.s₀ E (.ref f) j) p s:=by
 have v:s.heap.FunFrames X.base (X.env::X.outer):=by rw[<-c];exact I.stack
 have n:Un (OY X.outer) [] X.H₀ H X.s₀.heap s.heap:=by
  have:=I.base;rw[hex]at this;exact this
 refine leaveX (s:=s) (S:=[]) (by rw[<-c];exact I.ok.frames) v i k a (by simp) (.inl ⟨rfl,rfl⟩) fun D F st x y B=>?_;rw[<-c]at st;refine⟨f,C,d,H,rfl,I.os,I.bare,n.gy st (fun b g=>by rw[List.mem_singleton.mp g];exact m) (fun b g=>?_),I.Bb.gy st (fun b g=>by rw[List.mem_singleton.mp g];exact l) I.HS,
  RL.next r u a (by simp) l m I.Bb (fun b o z=>n.there b o z (by simp)) x ⟨_,k⟩ y B,q⟩
 rcases List.mem_cons.mp (I.J' b g)with z|z
 ·right
  rw[z];exact Heap.get?_none_of_le I.ok.above
 ·exact .inl z
theorem hJ{K:Value->Shared->Prop}{G:Shared->Prop}(c:X.stack=X.env::X.outer)(v:X.env.frame=some X.env.locals)(I:Inv X pins σ H s)(h:Ya X.prog X.w X.stack H s E e s')(k:∀(L C:Addr) (d:Option Addr) (H':Hp) (g:Heap) (N:Obj) (O:Array Value) (T:Addr),e=.ref L->E (.ref C) d H'->RL d H' s.heap g L C N O T->(∀i:Heap,(∀b,b≠T->i.get? b=g.get? b)->Entry i T .none->Inv X pins σ H' {s' with heap:=i})->G {s' with heap:=g}):
  wpAny M X.A (noteFrame e X.env) (fun _ l=>wpAny M X.A (setFlight e none) (fun _ m=>G m) K l) K s':=by
 obtain⟨j,C,d,H',rfl,os,bare,un,f,⟨N,O,T,F⟩,q⟩:=h;have P:Inv X pins σ H' s':=I.SN os un f bare (fun b z=>absurd z (by simp));have Q:=P.stack;rw[c]at Q;refine bB (by rw[<-c];exact I.ok.frames) Q v F.at_ F.data F.sz (.inr ⟨T,F.one,F.ne,F.ent,rfl⟩) fun R x st n y S=>?_;have p:j≠x:=fun z=>by rw[<-z,F.at_]at n;cases n
 refine Wi (s:={s' with heap:=R}) y (Obj.data_mapFields F.data _) (T:=x) (by simp[F.sz]) S fun g k1 k2=>?_;rw[<-c]at st;obtain⟨B,D,t,u⟩:=RL.next (h:=s'.heap) (h':=g) F.cls F.dict F.data F.sz F.He F.jd f (fun b o z=>un.there b o z (by simp)) n ⟨_,F.at_⟩ ((k1 j p).trans y) k2;have U:t=x:=by
  have z:=u.at_;rw[(k1 j p).trans y]at z;cases z;have z1:=u.data;rw[Obj.data_mapFields F.data]at z1;cases z1;have z2:=u.one;simp[F.sz]at z2;exact z2.symm
 subst U;refine k j C d H' g B D t rfl q u fun i a1 a2=>?_;have new:∀b∈[j,T],s.heap.get? b=none/\H' b=none:=fun b a=>by
  simp only[List.mem_cons,List.not_mem_nil,or_false]at a;rcases a with rfl|rfl
  ·exact⟨F.jd,F.He⟩
  ·exact⟨F.rK,F.HT⟩
 have r:fF [j,T] (OY X.stack) s'.heap i:=⟨fun b o q V J=>by
   have a:b≠t:=fun z=>by rw[z,n]at q;cases q
   rw[a1 b a,k1 b a];exact st.keep b o q V J,fun b o q J=>by
   have a:b≠t:=fun z=>by rw[z,n]at q;cases q
   obtain⟨W,z⟩:=st.slot b o q J;exact⟨W,by rw[a1 b a,k1 b a];exact z⟩⟩
 exact I.SN (s':={s' with heap:=i}) os (un.gy r (fun b a=>(new b a).1) fun b a=>.inl a) (f.gy r (fun b a=>(new b a).2) P.HS) bare (fun b z=>absurd z (by simp))
end
section
variable{P:Program} {w:World} {K:vA} {mg:Str->Option Value} {base:Heap}
end
def hR(b C:Addr)(d:Option Addr)(h:Heap):Prop:=∃(a:Obj)(t:Addr),h.get? b=some a/\a.cls=.ref C/\a.dict=d/\a.data=.fields #[.ref t,.none,.none,.none,.bool false,.none]
def Iv(a C:Addr)(d:Option Addr):HO:=.ext (hR a C d)
def rL(b:Addr)(fs:List (Str×V))(h:Heap):Prop:=∃a,h.Ns1 b a/\(∀f,Gk (fs.lookup f) (a f))/\Within a (fs.map (·.1))
def RM(a:Addr)(fs:List (Str×V)):HO:=.ext (rL a fs)
variable{m:Str->Option Value}
theorem Pk{b c:Heap}{a:Addr}(n:b.Ns1 a m)(k:∀o,b.get? a=some o->c.get? a=some o):c.Ns1 a m:=by
 obtain⟨o,d,f,e,r⟩:=n;exact⟨o,d,f,k o e,r⟩
section
variable{X:Cx} {pins:List (Addr×Obj)} {σ:St} {H:Hp} {s:Shared} {a:Addr} {ob:Obj} {u:HO}
theorem Inv.RN(I:Inv X pins σ H s)(g:s.heap.get? a=some ob)(ok:BJ X.prog X.w (upd H a u) s.heap a u)(h:H a=none)(i:X.s₀.heap.get? a=none)(j:a≠X.env.locals)(k:∀v,ob.data≠.cell v)(l:∀p∈X.pn++pins,p.1≠a):
  Inv X pins σ (upd H a u) s:=by
 have d:∀{b:Addr}{o:HO},H b=some o->upd H a u b=some o:=fun q=>by rw[AN (Am q h)];exact q
 refine⟨I.ok,I.os,I.bare,⟨I.base.keep,I.base.slot,fun b o q n m=>?_,I.base.there,fun b r q=>d (I.base.HR b r q),fun b o u q=>d (I.base.Gm b o u q),fun b t q=>?_⟩,I.loc,I.cell,?_,fun y c q=>?_,fun p f=>?_,fun b o q=>?_,I.len⟩
 ·have e:b≠a:=fun z=>by rw[z,i]at q;cases q
  rw[AN e];exact I.base.free b o q n m
 ·obtain⟨more,z⟩:=I.base.IV b t q;exact⟨more,d z⟩
 ·rw[AN (Ne.symm j)];exact I.free
 ·have e:c≠a:=fun z=>by
   obtain⟨v,o,z1,z2⟩:=I.cell y c q;rw[z,g]at z1;cases z1;exact k _ z2
  rw[AN e];exact I.DV y c q
 ·obtain⟨x,A,B⟩:=I.pin p f;exact⟨x,by rw[AN (l p f)];exact A,B⟩
 ·by_cases e:b=a
  ·subst e;rw[AB]at q;cases q;exact ok
  ·rw[AN e]at q;exact(I.Bb b o q).Gf (fun _ _ _ z=>z) (fun _ z=>d z) fun _ _ z=>d z
end
structure Lh(K:vA)(C:Addr)(f:Str):Prop where
 sa:PySem.W.findIn K (.ref C) "__setattr__"=some (some (.builtin "object.__setattr__"))
 ov:(PySem.W.clsIn K C).any (fun cd=>JU cd.mro)=true
 hd:(PySem.W.clsIn K C).any (·.hasDict)=true
 nt:PySem.W.takerIn K C f=some none
inductive hU(K:vA)(f:Str)(x y:V)(H:Hp)(N:Hp->Prop):Prop
 |mk(a C:Addr)(e:x=.ref a)(h:H a=some (Iv a C none))(k:Lh K C f)(q:∀b,H b=none->b≠a->N (upd (upd H a (Iv a C (some b))) b (RM b [(f,y)])))
inductive hV(K:vA)(f:Str)(x y:V)(H:Hp)(N:Hp->Prop):Prop
 |mk(b C a:Addr)(fs:List (Str×V))(e:x=.ref b)(h:H b=some (Iv b C (some a)))(c:H a=some (RM a fs))(n:a≠b)(l:fs.length<=100)(k:Lh K C f)(q:N (upd H a (RM a ((f,y)::fs))))
section
variable{X:Cx} {pins:List (Addr×Obj)} {σ:St} {H:Hp} {s:Shared} {A:Around} {E:Value->Shared->Prop} {f:Str} {y:V} {u:Value} {Q:Unit->Shared->Prop} {ea C dx:Addr}
theorem XH(hex:X.ex=[])(I:Inv X pins σ H s)(h:H ea=some (Iv ea C none))(k:Lh X.K C f)(G:RelV y u)(q:∀dx s',H dx=none->dx≠ea->Inv X pins σ (upd (upd H ea (Iv ea C (some dx))) dx (RM dx [(f,y)])) s'->Q () s'):
  wpAny (model X.prog X.w) A (setAttr (.ref ea) f u) Q E s:=by
 obtain⟨⟨L,t,n,r,hd,a⟩,_⟩:=I.Bb _ _ h;have J:PySem.W.InstAt s.heap ea L C none:=⟨n,r,by unfold PySem.W.notCls;rw[a],by rw[hd];trivial⟩;refine PySem.W.set_plain I.Fl J k.sa (Uh (s:={s with toks:=s.toks+1}) I.Fl J k.ov k.hd k.nt fun h' c d B M=>?_);have D:s.heap.objs.size≠ea:=Ne.symm (Nat.ne_of_lt (Heap.lt_size n));have N:=I.write (x:=ea) (e:=ea) (o:=Iv ea C (some s.heap.objs.size)) (h':=h') (t':=c) (by rw[h];exact True.intro) (.inl rfl) M ⟨_,d⟩
  ⟨⟨_,t,d,r,rfl,a⟩,⟨_,d⟩,fun k1 k2 ⟨i,t',z1,z2⟩ kk=>⟨i,t',kk i z1,z2⟩⟩
 obtain⟨O,Y,Z,b,j,l⟩:=id B;have P:Within (fun z=>if z=f then some u else none) [f]:=Within.cons f u Within.nil;refine q s.heap.objs.size _ I.fresh D (N.RN (ob:=O) b ⟨⟨_,B,fun g=>?_,P⟩,⟨_,b⟩,fun k1 k2 ⟨m,z1,z2⟩ kk=>⟨m,Pk z1 kk,z2⟩⟩ (by rw[AN D];exact I.fresh) ?_ ?_ (fun v z=>by rw[j]at z;cases z) fun p R z=>?_)
 ·show Gk (List.lookup g [(f,y)]) (if g=f then some u else none);by_cases e:g=f
  ·subst e;simp;exact G
  ·have:(g==f)=false:=by simpa using e
   simp[List.lookup_cons,this,e];trivial
 ·cases z:X.s₀.heap.get? s.heap.objs.size with
  |none=>rfl
  |some o=>
   obtain⟨i,S⟩:=I.base.there _ o z (by rw[hex];simp);exact absurd (Heap.lt_size S) (Nat.lt_irrefl _)
 ·obtain⟨m,⟨o,T,U,F,_⟩,_⟩:=I.loc;exact fun z=>by rw[<-z]at F;exact absurd (Heap.lt_size F) (Nat.lt_irrefl _)
 ·have:=(I.pin p R).1;rw[z]at this;exact absurd (Heap.lt_size this) (Nat.lt_irrefl _)
theorem XI{fs:List (Str×V)}(I:Inv X pins σ H s)(h:H ea=some (Iv ea C (some dx)))(r:H dx=some (RM dx fs))(n:dx≠ea)(l:fs.length<=100)(k:Lh X.K C f)(B:RelV y u)(q:∀s',Inv X pins σ (upd H dx (RM dx ((f,y)::fs))) s'->Q () s'):
  wpAny (model X.prog X.w) A (setAttr (.ref ea) f u) Q E s:=by
 obtain⟨⟨D,t,F,G,hd,b⟩,_⟩:=I.Bb _ _ h;obtain⟨⟨L,c,d,v⟩,_⟩:=I.Bb _ _ r;obtain⟨M,T,U,i,N,j⟩:=id c;have J:PySem.W.InstAt s.heap ea D C (some M):=⟨F,G,by unfold PySem.W.notCls;rw[b],by rw[hd];exact i⟩;refine PySem.W.set_plain I.Fl J k.sa (XF (s:={s with toks:=s.toks+1}) I.Fl J hd n c k.ov k.hd k.nt v (by rw[List.length_map];omega) fun h' p z O=>?_);obtain⟨P,R,S,a,_⟩:=id z;refine q _ (I.write (x:=dx) (e:=dx) (o:=RM dx ((f,y)::fs)) (h':=h') (t':=p) (by rw[r];exact True.intro) (.inl rfl) O ⟨_,a⟩ ⟨⟨_,z,fun g=>?_,Within.cons f u v⟩,⟨_,a⟩,fun k1 k2 ⟨m,z1,z2⟩ kk=>⟨m,Pk z1 kk,z2⟩⟩);show Gk (List.lookup g ((f,y)::fs)) (if g=f then some u else L g);rw[List.lookup_cons];by_cases e:g=f
 ·subst e;simp;exact B
 ·have:(g==f)=false:=by simpa using e
  rw[this,if_neg e];exact d g
end
section
variable{X:Cx} {o value:Expr} {ta tv:TE} {f:Str} {pos pos':Pos}
def dN(K:vA)(ta tv:TE)(f:Str):TS:=fun D a H=>tv a H fun y b=>ta a b fun x c=>hU K f x y c (D.nx a)
def dO(K:vA)(ta tv:TE)(f:Str):TS:=fun D a H=>tv a H fun y b=>ta a b fun x c=>hV K f x y c (D.nx a)
theorem XJ(hex:X.ex=[])(b:PE X o ta)(c:PE X value tv)(d:swapsWith value (some (.Attribute o f pos')) pos.line X.env=pure false):PS X (.Assign [.Attribute o f pos'] value pos) (dN X.K ta tv f):=by
 intro pins s a H D I h;refine plainObj_wpAny_Assign_Attribute (Bl (c pins s a H _ I h) fun u e z1=>z1.elim fun y g i j l=>Bl (b pins e a g _ i l) fun ov B z2=>z2.elim fun x E m n p=>?_) d;obtain⟨r,C,rfl,t,k,q⟩:=p;obtain rfl:ov=Value.ref r:=n;exact XH hex m t k j fun v F w z A=>⟨a,_,A,q v w z⟩
theorem XM(b:PE X o ta)(c:PE X value tv)(d:swapsWith value (some (.Attribute o f pos')) pos.line X.env=pure false):PS X (.Assign [.Attribute o f pos'] value pos) (dO X.K ta tv f):=by
 intro pins s a H D I h;refine plainObj_wpAny_Assign_Attribute (Bl (c pins s a H _ I h) fun u e z1=>z1.elim fun y g i j m=>Bl (b pins e a g _ i m) fun ov B z2=>z2.elim fun x E p r t=>?_) d;obtain⟨v,C,F,fs,rfl,w,z,n,l,k,q⟩:=t;obtain rfl:ov=Value.ref v:=r;exact XI p w z n l k j fun G A=>⟨a,_,A,q⟩
end
variable{h:Heap}
theorem Uk{a:Addr}{f:Str}{u:Value}{od:Obj}(n:h.Ns1 a m)(e:m f=some u)(g:h.get? a=some od):PySem.W.lookIn f od=some (some u):=by
 obtain⟨o,k,l,b,c,_,_,d⟩:=n;rw[g]at b;cases b;have:=(d f).trans e;unfold nsFind findBy at this;rw[<-Array.find?_toList]at this;obtain⟨p,i,j⟩:=Option.map_eq_some_iff.mp this;unfold PySem.W.lookIn;rw[c];dsimp only;rw[i,<-j]
def Pl(b C:Addr)(d:Option Addr):HO:=.ext fun h=>∃a:Obj,h.get? b=some a/\a.cls=.ref C/\a.dict=d/\PySem.W.notCls a=true
structure XN(K:vA)(C:Addr)(f:Str):Prop where
 fk:Ui K C
 hd:PySem.W.hasDictIn K C=true
 no:PySem.W.findIn K (.ref C) f=some none
inductive lb(K:vA)(f:Str)(x:V)(H:Hp)(Q:VK):Prop
 |mk(a C b:Addr)(fs:List (Str×V))(i:Int)(e:x=.ref a)(h:H a=some (Pl a C (some b)))(c:H b=some (RM b fs))(l:fs.lookup f=some (.int i))(k:XN K C f)(q:Q (.int i) H)
def XO(K:vA)(a:TE)(f:Str):TE:=fun b H Q=>a b H fun x c=>lb K f x c Q
section
variable{X:Cx} {e:Expr} {ta:TE} {f:Str} {pos:Pos}
theorem S'(n:PE X e ta)(o:attributeBase e f X.env (eval e X.env)=eval e X.env):PE X (.Attribute e f pos) (XO X.K ta f):=by
 intro pins s p H Q I h;refine Yl o (Bl (n pins s p H _ I h) fun u y z=>z.elim fun x A c B D=>?_);obtain⟨m,C,S,fs,i,rfl,E,F,l,k,q⟩:=D;obtain rfl:u=Value.ref m:=B;obtain⟨⟨G,L,M,hd,N⟩,_⟩:=c.Bb _ _ E;obtain⟨⟨O,a,d,T⟩,_⟩:=c.Bb _ _ F;obtain⟨od,U,V,b,P,g⟩:=id a;have J:PySem.W.InstAt y.heap m G C (some od):=⟨L,M,N,by rw[hd];exact b⟩;have r:=d f;rw[l]at r;cases j:O f with
 |none=>rw[j]at r;exact r.elim
 |some w=>
  rw[j]at r;obtain⟨t,rfl⟩:∃t,w=Value.int i t:=r;have R:=PySem.W.findObj_own (K:=X.K) (C:=C) (name:=f) (od:=od) (v:=Value.int i t) (attr:=none) k.hd k.no rfl (Uk a j b);exact XG c.Fl J k.fk R rfl ⟨.int i,A,c.tok _,⟨t,rfl⟩,q⟩
end
structure JV(K:vA)(D:Addr):Prop where
 fk:Ui K D
 Zj:PySem.W.hasDictIn K D=true
 ha:PySem.W.findIn K (.ref D) "__class__"=some (some (.builtin "object.__class__"))
 hn:PySem.W.specialIn K (.builtin "object.__class__") "__get__"=some (some (.builtin "getset_descriptor.__get__"))
 rM:PySem.W.takesIn K (.builtin "object.__class__")=some true
 hm:PySem.W.mroIn K D (.type "object")=some true
variable{K:vA}{D:Addr}
theorem hX{od:Option Obj}(k:JV K D):PySem.W.findObj K D od "__class__"=some (.bind (.builtin "getset_descriptor.__get__") (.builtin "object.__class__")):=by
 obtain⟨b,a,_⟩:=PySem.W.any_some k.Zj;simp only[PySem.W.findObj,a,k.ha,k.hn,k.rM,Option.bind_some]
section
variable{Iu:Program} {wd:World} {Ar:Around} {K:vA} {s:Shared} {x D:Addr} {ox:Obj} {od:Option Obj}
theorem Ul{tk:Tok}{R:Result->Shared->Prop}(X:K.In s.heap)(I:PySem.W.InstAt s.heap x ox D od)(k:JV K D)(h:R (Except.ok (Flow.ret (Value.ref D))) s):
  codeAny (model Iu wd) Ar (Code.call (Value.builtin "BaseException.__getattribute__") {pos:=[Value.ref x,Value.str (Str.ofString "__class__") tk]}) R s:=by
 obtain⟨j,g,d,t,os⟩:=s;obtain⟨l,N,m,n,bs,a,o,sub,p,f,r,u,k1,k2,k3,k5,hC,v⟩:=Jw X k.fk.q;have w:=hX (od:=od) k;refine codeAny_call_builtin PySem.F.attrBase_ValueError.ga.plain PySem.F.entry_bexc_ga ?_;have i:=@wpAny_check_slot_inst Ar.in1 (fun e y=>R (Except.error e) y) j g d t os m n D N x bs l a o sub p f r u k1 k2 k3 k5 "ValueError.__new__" (model Iu wd) "BaseException.__getattribute__" "BaseException" "__getattribute__" ox [Value.str (Str.ofString "__class__") tk];refine i oH oI (PySem.F.args_bexc_ga _ _) v I.at_ I.cls hC ?_;clear i;unfold Builtin.«object.__getattribute__» slotArgs;generalize b:Builtin.ObjectAttr.find=z;generalize c:Builtin.ObjectAttr.bindTo=A
 repeat (first|(with_reducible refine wpAny_loadPart_at I.at_ ?_;rw[I.cls])|wp_step)
 subst b;refine(PySem.W.looks_find X I w) _ _ _ _ (fun _ _ e=>e) ?_;dsimp only;subst c;unfold Builtin.ObjectAttr.bindTo;dsimp only;refine wpAny_bind (wpAny_holding (wpAny_call (PySem.W.class_get X I k.hm ?_)));exact wpAny_pure h
theorem RO{E:Value->Shared->Prop}{Q:Option Value->Shared->Prop}(X:K.In s.heap)(I:PySem.W.InstAt s.heap x ox D od)(k:JV K D)(h:Q (some (Value.ref D)) {s with toks:=s.toks+1}):
  wpAny (model Iu wd) Ar (getAttr? (Value.ref x) (Str.ofString "__class__")) Q E s:=by
 unfold getAttr?;refine wpAny_bind (wpAny_mkText ?_);unfold getAttrBy?;refine wpAny_bind (wpAny_attempt ?_);unfold getAttrBy;refine wpAny_holding (wpAny_bind ((I.type (h:=s.heap)) _ _ _ _ (fun _ _ e=>e) ?_));refine wpAny_bind ((PySem.W.looks_findIn X k.fk.ga) _ _ _ _ (fun _ _ e=>e) ?_);dsimp only;have a:(Value.builtin "BaseException.__getattribute__"==Value.builtin "object.__getattribute__")=false:=by decide
 rw[a,Bool.and_false,if_neg Bool.false_ne_true];unfold getAttrByItsOwn;refine wpAny_bind ((PySem.W.looks_hook X (mc:=.ref D) (r:=none) k.fk.gn) _ _ _ _ (fun _ _ e=>e) ?_);refine wpAny_bind (wpAny_attempt (wpAny_holding ?_));unfold callGetattribute boundAndCalled;rw[if_neg (by decide),PySem.F.attrBase_ValueError.ga.bind];refine wpAny_bind (wpAny_pure ?_);refine wpAny_call (Ul (s:={s with toks:=s.toks+1}) X I k ?_);exact wpAny_pure (wpAny_pure h)
end
section
variable{K:vA} {x D:Addr} {ox:Obj} {od:Option Obj}
theorem Mg(k:JV K D):PySem.W.KitX K (.ref x) (.ref D) (fun h=>PySem.W.InstAt h x ox D od)where
 ty:=fun _ _ _ I=>I.type
 it:=fun _ _ X _=>by
  obtain⟨rN,dP,_⟩:=PySem.W.any_some k.Zj;unfold PySem.W.clsIn at dP;split at dP
  ·rename_i c' d' rO rP ho
   intro A' Q' E' s' kk q;unfold isType loadHead;exact wpAny_bind (wpAny_loadPart (kk _ _ (X _ _ ho)) (wpAny_pure q))
  ·cases dP
 ne:=fun h tp dd its n sl X rQ=>by
  obtain⟨rN,dP,_⟩:=PySem.W.any_some k.Zj;refine Bool.eq_false_iff.mpr fun q=>?_;have e:D=tp:=Value.ref.inj (beq_iff_eq.mp q);subst e;unfold PySem.W.clsIn at dP;split at dP
  ·rename_i c' d' rO rP ho
   have z:=(X _ _ ho).symm.trans rQ;cases z
  ·cases dP
 ca:=fun{prog w A E Q s} X I h=>RO X I k h
inductive Pm(K:vA)(C:Addr)(xs:List V)(H:Hp)(Q:VK):Prop
 |mk(a:Addr)(d:Option Addr)(c:V)(u:Value)(b:Bool)(e:xs=[.ref a,c])(h:H a=some (Pl a C d))(i:d=none∨∃f fs,d=some f/\H f=some (RM f fs))(j:∀g,RelV c g->g=u)(k:PySem.W.kitOne K (.ref C) u=some b)(q:Q (.bl b) H)
variable{X:Cx} {C:Addr}
theorem Ds(k:JV X.K C):CW X (.builtin "isinstance") (Pm X.K C):=by
 intro pins s B H E F Q I r h;obtain⟨e,d,c,u,b,rfl,p,t,v,j,q⟩:=h;cases r with
 |cons w f=>
  cases f with
  |cons y f=>
   cases f;cases(show _=Value.ref e from w);cases v _ y;obtain⟨⟨l,m,n,a,o⟩,_⟩:=I.Bb _ _ p;rcases t with rfl|⟨G,fs,rfl,A⟩
   ·have J:PySem.W.InstAt s.heap e l C none:=⟨m,n,o,by rw[a];trivial⟩;exact PySem.W.kia_one (Mg k) I.Fl J j (fun z=>nomatch z) fun g=>⟨.bl b,H,I.tok g,rfl,q⟩
   ·obtain⟨⟨L,⟨od,M,N,i,_⟩,_⟩,_⟩:=I.Bb _ _ A;have J:PySem.W.InstAt s.heap e l C (some od):=⟨m,n,o,by rw[a];exact i⟩;exact PySem.W.kia_one (Mg k) I.Fl J j (fun z=>nomatch z) fun g=>⟨.bl b,H,I.tok g,rfl,q⟩
end
variable{Q:Flow->Shared->Prop}{s:Shared}
section
variable{M:Model} {Ar:Around} {Ex:Value->Shared->Prop} {env:Env}
variable{nm qn:Str} {C N:Addr} {bs tl:List Value} {hdc:Bool} {sn:List Str} {sb:List Value} {ab:Bool} {cl:Option Bool} {dd:Option Addr} {k0 k1 k2 k3 k5:Option Value} {newId:String}
theorem Um{t:Sem Value}(j:tl.contains (.type "BaseException")=true)(k:Ar.handled=none)(h:wpAny M Ar t (fun v a=>∃e b,v=.ref e/\a.heap.get? C=some (excClassObj nm qn C N bs tl hdc sn sb ab cl dd k0 k1 k2 k3 k5 newId)/\a.heap.get? e=some b/\b.cls=.ref C/\(∃t,b.data=.fields #[.ref t,.none,.none,.none,.bool false,.none])/\Ex (.ref e) a) Ex s):
  wpAny M Ar (raiseStmt env (some t) none) Q Ex s:=by
 have c:(Value.ref C::tl).contains (.type "BaseException")=true:=by rw[List.contains_cons,j,Bool.or_true]
 unfold raiseStmt;refine wpAny_bind (wpAny_mono h (fun v a z=>?_) fun _ _ x=>x);obtain⟨e,b,rfl,hC,l,f,⟨p,i⟩,m⟩:=z;obtain⟨q,r,n,o⟩:=b;dsimp only at f i;subst f i;obtain⟨u,g,d,w,os⟩:=a
 repeat (first|with_reducible refine wpAny_loadPart_at l ?_|with_reducible refine wpAny_loadPart_at hC ?_|(with_reducible refine wpAny_isSubtype_exc hC ?_;rw[c])|wp_step)
 exact wpAny_raiseNew_none k m
end
variable{pos:Pos}{x:Str}
section
variable{Iu:Program} {wd:World} {Ar:Around} {Ex:Value->Shared->Prop} {env:Env} {s:Shared}
variable{nm qn:Str} {C N:Addr} {bs tl dM:List Value} {hdc:Bool} {sn:List Str} {sb:List Value} {ab:Bool} {cl:Option Bool} {dd:Option Addr} {k0 k1 k2 k3 k5:Option Value} {B newId Nf:String}
theorem Uo(F:ExcBaseFacts B newId Nf dM){mN:Str->Option Value}{j:Addr}{n b:Pos}{args:List Expr}(p:tl.contains (.type "BaseException")=true)(q:Ar.handled=none)(k:(backTo b (starEach args env)).any (·.1)=false)(u:mN "__init__"=some (.ref j))(h:wpAny (model Iu wd) Ar (eval (.Name x n) env) (fun f o=>f=.ref C/\wpAny (model Iu wd) Ar (evalArgs (.ref C) true (backTo b (starEach args env)) []) (fun a c=>a.kw=[]/\a.pos.length<=sizeLine/\c.heap.get? C=some (excClassObj nm qn C N bs tl hdc sn sb ab cl dd k0 k1 k2 k3 k5 newId)/\c.heap.Ns N mN/\OwnTail c.heap dM tl/\(∃l,c.heap.get? j=some l/\l.cls=.type "function")/\
    ∀h' e,Heap.MadeExcOf c.heap h' e (.ref C) a.pos->wpAny (model Iu wd) (Ar.under (.builtin "type.__call__" ⟨.ref C::a.pos,[]⟩)) (call (.ref j) (.ref e::a.pos)) (fun r s'=>r=.none/\s'.heap.get? C=some (excClassObj nm qn C N bs tl hdc sn sb ab cl dd k0 k1 k2 k3 k5 newId)/\(∃i,s'.heap.get? e=some i/\i.cls=.ref C/\∃t,i.data=.fields #[.ref t,.none,.none,.none,.bool false,.none])/\Ex (.ref e) s') Ex {c with heap:=h'}) Ex o) Ex s):
  wpAny (model Iu wd) Ar (exec (.Raise (some (.Call (.Name x n) args [] b)) none pos) env) Q Ex s:=by
 rw[arm_exec_Raise];simp only[evalOpt,Option.map];refine wpAny_bind (wpAny_standAt (Um (C:=C) (nm:=nm) (qn:=qn) (N:=N) (bs:=bs) (tl:=tl) (hdc:=hdc) (sn:=sn) (sb:=sb) (ab:=ab) (cl:=cl) (dd:=dd) (k0:=k0) (k1:=k1) (k2:=k2) (k3:=k3) (k5:=k5) (newId:=newId) p q ?_));refine wpAny_bind (wpAny_mono (wpAny_Call_ofName (wpAny_mono h (fun f o z1=>?_) fun _ _ y=>y)) (fun v L z3=>wpAny_bind (wpAny_standAt (wpAny_pure z3))) fun _ _ y=>y);obtain⟨rfl,z1⟩:=z1;unfold callWith;refine wpAny_bind (wpAny_holding (wpAny_mono z1 (fun a c z2=>wpAny_bind (wpAny_standAt ?_)) fun _ _ y=>y));obtain⟨apos,m⟩:=a;obtain⟨kw,len,hC,z,T,⟨l,A,D⟩,z2⟩:=z2;obtain rfl:m=[]:=kw;obtain⟨M,g,d,O,os⟩:=c;simp only[k];refine wpAny_bind (wpAny_keeperOf_exc hC ?_);refine wpAny_bind (XE F T hC z u A D len fun h' e E=>wpAny_mono (z2 h' e E) (fun r s' w=>⟨w.1,wpAny_bind (wpAny_holding (wpAny_point (wpAny_pure ?_)))⟩) fun _ _ y=>y);obtain⟨_,G,⟨i,H,I,J⟩,K⟩:=w;exact⟨e,i,rfl,G,H,I,J,K⟩
end
def TB(K:vA)(C b:Addr)(o:Obj):Bool:=match o.data with
 | .cls a=>o.cls==.type "type"&&(a.mro.head?==some (.ref C)&&(PySem.W.tailIn K OV a.mro.tail&&(o.slots.size==6&&(o.slots[4]?==some (some (.builtin "ValueError.__new__"))&&(!a.hasDel&&(PySem.W.nsOkIn K a.ns&&PySem.W.nsIn K a.ns "__init__"==some (some (.ref b))))))))
 |_=>false
def Ng(K:vA)(C a:Addr):Bool:=(K.lookup C).any (TB K C a)
variable{mg:Str->Option Value}
theorem RP{N:Addr}{n:Str}{v:Value}(X:K.In h)(G:h.Ns N mg)(e:PySem.W.nsIn K N n=some (some v)):mg n=some v:=by
 obtain⟨o,j,k,a,b,_,f⟩:=G;unfold PySem.W.nsIn at e;split at e
 ·rename_i c d g l m q
  have:=X _ _ q;rw[a]at this;cases this;cases b;split at e
  ·rename_i p i
   cases e;rw[<-f];unfold nsFind findBy;rw[<-Array.find?_toList,i];rfl
  ·split at e<;>cases e
 ·cases e
theorem Zk{d:Addr}(X:K.In h)(q:Ng K C d=true):∃tl N nm qn bs hdc sn sb ab cl dd k0 k1 k2 k3 k5 mN,h.get? C=some (excClassObj nm qn C N bs tl hdc sn sb ab cl dd k0 k1 k2 k3 k5 "ValueError.__new__")/\h.Ns N mN/\mN "__init__"=some (.ref d)/\OwnTail h OV tl:=by
 obtain⟨o,f,q⟩:=PySem.W.any_some q;obtain⟨c,dd,data,g⟩:=o;cases data with
 |cls i=>
  obtain⟨nm,bs,a,j,qn,k,sn,sub,ab,b,m⟩:=i;simp only[TB,Bool.and_eq_true,beq_iff_eq,Bool.not_eq_true']at q;obtain⟨n,e,p,r,s,t,u,w⟩:=q;cases a with
  |nil=>cases e
  |cons v x=>
   cases e;obtain⟨l⟩:=g;obtain⟨k0,k1,k2,k3,k4,k5,rfl⟩:=bC (l:=l) r;cases s;subst n t;have N:=Heap.Ns.of_isNs (PySem.W.isNs_of_in X u);exact⟨x,j,nm,qn,bs,k,sn,sub,ab,b,dd,k0,k1,k2,k3,k5,_,X _ _ f,N,RP X N w,PySem.W.tail_of_in X p⟩
 |_=>cases q
section
variable{X:Cx} {pins:List (Addr×Obj)} {σ:St} {H H3:Hp} {s:Shared} {a:Addr} {φ:Heap->Prop}
theorem Inv.drop(I:Inv X pins σ H s)(h:H a=some (.ext φ))(n:H3 a=none)(o:∀b,b≠a->H3 b=H b):Inv X pins σ H3 s:=by
 have no:∀{b},H b=none->H3 b=none:=fun{b} z=>by
  by_cases e:b=a
  ·rw[e];exact n
  ·rw[o b e];exact z
 have keep:∀{b u},H b=some u->(∀φ,u≠.ext φ)->H3 b=some u:=fun{b u} z f=>by
  by_cases e:b=a
  ·rw[e,h]at z;cases z;exact absurd rfl (f _)
  ·rw[o b e];exact z
 refine⟨I.ok,I.os,I.bare,⟨I.base.keep,I.base.slot,fun b d q n g=>no (I.base.free b d q n g),I.base.there,fun b i q=>keep (I.base.HR b i q) (fun _ z=>nomatch z),fun b d u q=>keep (I.base.Gm b d u q) (fun _ z=>nomatch z),fun b j q=>?_⟩,I.loc,I.cell,no I.free,fun y c q=>no (I.DV y c q),fun p k=>?_,fun b u q=>?_,I.len⟩
 ·obtain⟨more,z⟩:=I.base.IV b j q;exact⟨more,keep z (fun _ z=>nomatch z)⟩
 ·obtain⟨l,m,r⟩:=I.pin p k;exact⟨l,no m,r⟩
 ·have e:b≠a:=fun e=>by rw[e,n]at q;cases q
  rw[o b e]at q;exact(I.Bb b u q).Gf (fun _ _ _ z=>z) (fun _ z=>keep z (fun _ z=>nomatch z)) fun _ _ z=>keep z (fun _ z=>nomatch z)
end
def TC(X:Cx)(E:XK):Prop:=∀(pins:List (Addr×Obj))(c:St)(H:Hp)(s:Shared)(a C t:Addr)(b:Obj)(d:Option Addr),Inv X pins c H s->s.heap.get? a=some b->b.cls=.ref C->b.dict=d->b.data=.fields #[.ref t,.none,.none,.none,.bool false,.none]->H a=none->X.s₀.heap.get? a=none->E (.ref C) d H->X.xe (.ref a) s
variable{H:Hp}{A:Around}{N:List Str}{scope:Scope}{qual:Str}{E:XK}
theorem Zl{P:Program}{w:World}{base:Heap}{b:Value}{outer:List Env} :TC (La (Ya P w) P w K mg base N qual scope f b A outer s H E) E:=
 fun pins j k l m C t n d I c e g a h i q=>Pj (X:=La (Ya P w) P w K mg base N qual scope f b A outer s H E) rfl rfl rfl I c e g a h i q
inductive lg(E:XK)(C a:Addr)(v:V)(H2:Hp):Prop
 |mk(d:Option Addr)(c:Hp)(e:v=.As)(h:H2 a=some (Iv a C d))(n:c a=none)(o:∀b,b≠a->c b=H2 b)(q:E (.ref C) d c)
inductive hY(sp:Sp)(E:XK)(C:Addr)(b:List V)(c:Hp):Prop
 |mk(l:b.length<=sizeLine)(q:∀a,c a=none->sp (.ref a::b) (upd c a (Iv a C none)) (lg E C a) E0)
variable{ps:List Str}{sp:Sp}
section
variable{X:Cx}
theorem Up{U:Addr}{O:Expr}{l:List Expr}{ta:TA}{np f:Pos}{k:Nat}{fd:FuncData}(hc:X.calm=true)(hex:X.ex=[])(hg:Gl X x)(hm:X.mg x=some (.ref C))(hq:Ng X.K C U=true)(F:Av X.prog X.w X.K X.mg X.base CP k U fd ps sp)(hr:BZ (k+1) X.A)(hb:Binds X.K fd ps [])(W:∃P,X.K.lookup U=some P/\P.cls=.type "function")(hE:TC X E)(ha:PA X (O::l) ta)(Y:(x==("__debug__":Str))=false:=by decide)(he:starEach (O::l) X.env=(false,eval O X.env)::starEach l X.env:=by rfl)(Z:(backTo f (starEach l X.env)).any (·.1)=false:=by rfl):
  PS X (.Raise (some (.Call (.Name x np) (O::l) [] f)) none pos) (fun D n H=>ta n H fun vs q=>hY sp E C vs q):=by
 intro pins s n H D I h;obtain⟨tl,N,nm,qn,bs,B,sn,sub,ab,col,dd,k0,k1,k2,k3,k5,mN,hC,hN,fI,T⟩:=Zk I.ok.mod.bZ hq;refine Uo (C:=C) (nm:=nm) (qn:=qn) (N:=N) (bs:=bs) (tl:=tl) (hdc:=B) (sn:=sn) (sb:=sub) (ab:=ab) (cl:=col) (dd:=dd) (k0:=k0) (k1:=k1) (k2:=k2) (k3:=k3) (k5:=k5)
  PySem.F.excBase_ValueError (mN:=mN) (T.hasType rA) (I.ok.hd hc) (by rw[he];exact Z) fI (HU I hg hm ⟨rfl,?_⟩ Y)
 have G:=ha f pins s n H _ I h;rw[he]at G⊢;refine Calls.evalArgs_plain (wpAny_mono G (fun J Q h1=>?_) fun _ _ y=>y);obtain⟨vs,q,g,r,hl,q1⟩:=h1;obtain⟨P,lk,rR⟩:=W;refine⟨rfl,by rw[<-r.length];exact hl,g.bk _ _ hC,hN.keeps g.bk,T.keeps g.bk,⟨P,g.Fl _ _ lk,rR⟩,fun R c a=>?_⟩;have n0:X.s₀.heap.get? c=none:=by
  cases z:X.s₀.heap.get? c with
  |none=>rfl
  |some o=>
   obtain⟨o',e'⟩:=g.base.there c o z (by rw[hex];simp);rw[a.new]at e';cases e'
 have hH:q c=none:=g.Bb.none_of a.new;obtain⟨t,ht,_,_⟩:=a.there;have I2:Inv X pins n q {Q with heap:=R}:=g.SN (ch:=[]) (s':={Q with heap:=R}) rfl (Un.kept a.keeps) (g.Bb.kept a.keeps) g.bare (fun b z=>absurd z (by simp));have nl:c≠X.env.locals:=fun z=>by
  obtain⟨m,⟨o,l,ep,ho,hd,_⟩,_⟩:=g.loc;rw[<-z,a.new]at ho;cases ho
 have I3:Inv X pins n (upd q c (Iv c C none)) {Q with heap:=R}:=I2.RN (u:=Iv c C none) ht ⟨⟨_,t,ht,rfl,rfl,rfl⟩,⟨_,ht⟩,fun g1 g2 ⟨o',S,z1,z2⟩ kk=>⟨o',S,kk o' z1,z2⟩⟩ hH n0 nl (fun v z=>nomatch z) fun p hp z=>by
  have:=(g.pin p hp).1;rw[z,a.new]at this;cases this
 have rr:Vals (V.ref c::vs) (Value.ref c::J):=.cons rfl r;have q2:=q1 c hH;have bd:=hb {Q with heap:=R} (Value.ref c::J) I3.Fl (by rw[List.append_nil,<-rr.length];exact F.len _ _ _ _ q2);rw[List.append_nil]at bd;refine wpAny_call (codeAny_mono (F.run _ X.stack _ _ ⟨Value.ref c::J,[]⟩ _ _ _ _ (hr.make C J []) (I3.b_.make C J []) bd rr q2) fun r' s' i=>?_);cases r' with
 |error e=>exact False.elim i
 |ok fl=>
  cases fl with
  |next=>exact False.elim i
  |brk=>exact False.elim i
  |cont=>exact False.elim i
  |ret u=>
   obtain⟨v,H2,I4,rv,z⟩:=I3.after i;obtain⟨d,H3,rfl,h2,n3,o3,qE⟩:=z;obtain⟨⟨oe,S,L,M,rS,j⟩,_⟩:=I4.Bb _ _ h2;refine⟨rv,I4.bk _ _ hC,⟨oe,L,M,S,j⟩,?_⟩;exact hE pins n H3 s' c C S oe d (I4.drop h2 n3 o3) L M rS j n3 n0 qE
end
abbrev TH:=Addr->Option Addr->Ends->St->Hp->Prop
theorem Mh{nm q:Str}{N:Addr}{bs e:List Value}{a:Bool}{sn:List Str}{sub:List Value}{ab:Bool}{c:Option Bool}{dd:Option Addr}{k0 k1 k2 k3 k5:Option Value}{newId:String}{b:Bool}(X:K.In h)(g:EW K C=true)(hC:h.get? C=some (excClassObj nm q C N bs e a sn sub ab c dd k0 k1 k2 k3 k5 newId))(d:subIn K C D=b):(Value.ref C::e).contains (.ref D)=b:=by
 cases z:K.lookup C with
 |none=>
  obtain⟨o,f,_⟩:=PySem.W.any_some g;rw[z]at f;cases f
 |some o=>
  have:=X _ _ z;rw[hC]at this;cases this;unfold subIn at d;rw[z]at d;exact d
section
variable{X:Cx} {pins:List (Addr×Obj)} {σ:St} {H:Hp} {s:Shared}
theorem Inv.Zm{h':Heap}{u:Option Value}{t' i:Nat}{n:Str}(I:Inv X pins σ H s)(B:X.N.Nodup)(C:X.N[i]?=some n)(D:∀(j:Nat) (x:Str) (v:V),X.N[j]?=some x->σ[j]?=some (some v)->fU X.env.scope x->∃u,RelV v u/\Look X.env s.heap m x u)(E:h'.Ns X.env.locals (fun x=>if x=n then u else m x))(l:Heap.SameBut X.env.locals s.heap h'):Inv X pins (σ.set i none) H {s with heap:=h',toks:=t'}:=by
 have keep:∀b o,b≠X.env.locals->s.heap.get? b=some o->h'.get? b=some o:=fun b o f q=>(l.2 b f).trans q;have lo:∀{b o},X.s₀.heap.get? b=some o->b≠X.env.locals:=fun e=>Nat.ne_of_lt (Nat.lt_of_lt_of_le (Heap.lt_size e) I.ok.above);refine⟨I.ok,I.os,I.bare,⟨fun b o e n f g=>keep b o (lo e) (I.base.keep b o e n f g),fun b o e n f g=>?_,I.base.free,fun b o e g=>?_,I.base.HR,I.base.Gm,I.base.IV⟩,⟨_,E,fun j y v a d F=>?_⟩,fun y c q=>?_,I.free,I.DV,fun p G=>?_,?_,by rw[List.length_set];exact I.len⟩
 ·obtain⟨J,a⟩:=I.base.slot b o e n f g;exact⟨J,keep b _ (lo e) a⟩
 ·obtain⟨K,a⟩:=I.base.there b o e g;exact⟨K,keep b _ (lo e) a⟩
 ·have t:j≠i:=fun z=>by
   subst z;rw[List.getElem?_set]at d;split at d
   ·split at d<;>cases d
   ·rename_i w;exact absurd rfl w
  rw[List.getElem?_set_ne (Ne.symm t)]at d;obtain⟨w,r,lk⟩:=D j y v a d F;have L:y≠n:=fun z=>t ((List.getElem?_inj (uy a).1 B).mp (by rw[a,C,z]));refine⟨w,r,?_⟩;rcases lk with⟨l1,l2⟩|⟨l1,c,l2,l3⟩
  ·exact .inl ⟨l1,(if_neg L).trans l2⟩
  ·exact .inr ⟨l1,c,l2,l3.sameBut l (I.Yf y c l2)⟩
 ·obtain⟨v,z⟩:=I.cell y c q;exact⟨v,z.sameBut l (I.Yf y c q)⟩
 ·obtain⟨M,O,A,P,Q⟩:=I.pin p G;exact⟨keep p.1 p.2 A M,O,A,P,Q⟩
 ·intro b u q;refine(I.Bb b u q).Gf (fun c w h z=>keep c w (fun k=>?_) z) (fun _ z=>z) fun _ _ z=>z;rcases h with rfl|h
  ·rw[k,I.free]at q;cases q
  ·rw[k,I.free]at h;cases h
end
def PH(X:Cx)(f:List ExceptHandler)(t:TH):Prop:=
 ∀(pins:List (Addr×Obj))(s:Shared)(e:St)(H:Hp)(D:Ends)(g:Heap)(a C T:Addr)(d:Option Addr)(h:Obj)(i:Array Value),RL d H g s.heap a C h i T->X.s₀.heap.get? a=none->(∀p∈X.pn++pins,p.1≠a)-> (∀c:Heap,(∀b,b≠T->c.get? b=s.heap.get? b)->Entry c T .none->Inv X pins e H {s with heap:=c})->EW X.K C=true->t C d D e H->wpAny (model X.prog X.w) X.A (handleBy (.ref a) X.env f) (SP X pins D) X.xe s
def Ends.Zm(D:Ends)(i:Nat):Ends:={nx:=fun a H=>D.nx (a.set i none) H,rt:=D.rt,bk:=fun a H=>D.bk (a.set i none) H,ct:=fun a H=>D.ct (a.set i none) H}
inductive dQ(K:vA)(a:Addr)(i:Nat)(e:TS)(tr:TH)(C:Addr)(d:Option Addr)(D:Ends)(σ:St)(H:Hp):Prop
 |hit (b:subIn K C a=true) (q:∀c,H c=none->e (D.Zm i) (σ.set i (some (.ref c))) (upd H c (Pl c C d))):dQ K a i e tr C d D σ H
 |miss (b:subIn K C a=false) (q:tr C d D σ H):dQ K a i e tr C d D σ H
def hZ(K:vA)(a:Addr)(i:Nat)(b:TS)(tr:TH):TH:=fun C d D c H=>dQ K a i b tr C d D c H
section
variable{X:Cx} {k i j:Nat} {f C Dd:Addr} {fd:FuncData} {ps:List Str} {sp:Sp} {x y n z:Str} {p pos hp yp tp cp zp:Pos} {e0:Expr} {es:List Expr} {ta:TA} {b0:Stmt} {Kz:List Stmt} {tx:TS} {tr:TH} {rest:List ExceptHandler}
theorem dR:PH X [] (fun _ _ _ _ _=>False):=fun _ _ _ _ _ _ _ _ _ _ _ _ _ _ _ _ _ q=>False.elim q
theorem Zn(hg:Gl X y)(P:X.mg y=some (.ref Dd))(qD:EW X.K Dd=true)(hN:X.N.Nodup)(hi:X.N[i]?=some n)(R:X.env.scope.names.lookup n=some .local)(S:∀e,Lr (X.held e) (b0::Kz) tx)(hr:PH X rest tr)(U:(y==("__debug__":Str))=false:=by decide):
  PH X (.ExceptHandler (some (.Name y yp)) (some n) (b0::Kz) hp::rest) (hZ X.K Dd i tx tr):=by
 intro pins s σ H D h0 a C T d V vs F n0 np mk I h;obtain⟨hh,gg,dr,tk,os⟩:=s;have E:=mk hh (fun _ _=>rfl) F.ent;have J:=E.ok.mod.bZ;obtain⟨tl,N,nm,qn,bs,Zj,sn,sub,ab,col,dd,k0,k1,k2,k3,k5,hC,_⟩:=Jw J I;obtain⟨uM,N',uN,q',uO,Y,uP,rT,uQ,rV,uR,uS,uT,uU,uV,uW,hD,hB⟩:=Jw J qD;refine wpAny_handleBy_cons (codeAny_handlers_test (HU (X:=X.held (.ref a)) (E.held _) hg P ?_ U)) (by intro z;cases z);cases h with
 |miss b q=>
  refine GB (M:=model X.prog X.w) (A:=(X.held (.ref a)).A) (E.bk _ _ hC) (E.bk _ _ hD) F.at_ F.cls hB (Mh J I hC b) ?_;exact hr pins ⟨hh,gg,dr,tk,os⟩ σ H D h0 a C T d V vs F n0 np mk I q
 |hit b q=>
  refine GB (M:=model X.prog X.w) (A:=(X.held (.ref a)).A) (E.bk _ _ hC) (E.bk _ _ hD) F.at_ F.cls hB (Mh J I hC b) ?_;refine codeAny_handlers_suite_as (Wi F.at_ F.data F.one F.ent fun h6 k1 k2=>?_);have L:=mk h6 k1 k2;have O:h6.get? a=some V:=(k1 a (Ne.symm F.ne)).trans F.at_;have nl:a≠X.env.locals:=fun z=>by
   obtain⟨m,⟨o,es,ep,ho,hd,_⟩,_⟩:=L.loc;rw[<-z,O]at ho;cases ho;rw[F.data]at hd;cases hd
  have IP:=(L.held (.ref a)).RN (u:=Pl a C d) O ⟨⟨V,O,F.cls,F.dict,by unfold PySem.W.notCls;rw[F.data]⟩,⟨_,O⟩,fun g1 g2 ⟨o',z1,z2⟩ kk=>⟨o',kk o' z1,z2⟩⟩ F.He n0 nl (fun v z=>by rw[F.data]at z;cases z) np;refine KA (X:=X.held (.ref a)) IP hN hi (.inl R) (v:=.ref a) rfl (fun s7 I7=>?_) (.inr R);refine wpAny_mono (S (.ref a) pins _ (σ.set i (some (.ref a))) _ (D.Zm i) I7 (q a F.He)) (fun fl s8 z=>?_) fun _ _ z=>False.elim z;have go:∀{c:St}{g:Hp}{Q:Unit->Shared->Prop},Inv (X.held (.ref a)) pins c g s8->(∀G,Inv X pins (c.set i none) g G->Q () G)->wpAny (model X.prog X.w) X.A (do bindName X.env n .none;unbindBehindTheSuite X.env n hp) Q X.xe s8:=fun{c g Q} t k=>by
   have l:=t.cx L.ok;obtain⟨m,P,Z⟩:=l.loc;exact wpAny_nameGoes_keeps (m:=m) R P (by rw[L.ok.kind];rfl) fun h' v hn hs=>k _ (l.Zm hN hi Z hn hs)
  cases fl with
  |next=>obtain⟨c,g,t,B⟩:=z;exact go t fun G l=>⟨_,_,l,B⟩
  |brk=>obtain⟨c,g,t,B⟩:=z;exact go t fun G l=>⟨_,_,l,B⟩
  |cont=>obtain⟨c,g,t,B⟩:=z;exact go t fun G l=>⟨_,_,l,B⟩
  |ret u=>obtain⟨v,c,g,t,r,B⟩:=z;exact go t fun G l=>⟨v,_,_,l,r,B⟩
end
inductive l_(K:vA)(a:TH)(D:Ends)(σ:St)(c:Value)(d:Option Addr)(H2:Hp):Prop
 |mk(C:Addr)(e:c=.ref C)(k:EW K C=true)(q:a C d D σ H2)
def h_(K:vA)(sp:Sp)(b:TA)(c:TH):TS:=fun D a H=>b a H fun d e=>sp d e (fun _ f=>D.nx a f) (l_ K c D a)
section
variable{X:Cx} {k i j:Nat} {f C Dd:Addr} {fd:FuncData} {ps:List Str} {sp:Sp} {x y n z:Str} {p pos hp yp tp cp zp:Pos} {e0:Expr} {es:List Expr} {ta:TA} {b0:Stmt} {Kz:List Stmt} {tx:TS} {th:TH} {h1:ExceptHandler} {hs:List ExceptHandler}
theorem Zo(M:X.stack=X.env::X.outer)(N:X.env.frame=some X.env.locals)(hex:X.ex=[])(F:Av X.prog X.w X.K X.mg X.base (Ya X.prog X.w) k f fd ps sp)(hr:BZ k X.A)(hg:Gl X x)(hm:X.mg x=some (.ref f))(hk:PySem.W.keepIn X.K (.ref f)=true)(hb:Binds X.K fd ps [])(ha:PA X.eg (e0::es) ta)(hh:PH X (h1::hs) th)(O:(x==("__debug__":Str))=false:=by decide)(he:starEach (e0::es) X.env=(false,eval e0 X.env)::starEach es X.env:=by rfl)(P:(backTo cp (starEach es X.env)).any (·.1)=false:=by rfl)(R:swapsWith (.Call (.Name x p) (e0::es) [] cp) none pos.line X.env=pure false:=by rfl):
  PS X (.Try [.Expr (.Call (.Name x p) (e0::es) [] cp) pos] (h1::hs) [] [] tp) (h_ X.K sp ta th):=by
 intro pins s a H D I h;refine wpAny_Try_except ?_;have call:wpAny (model X.prog X.w) X.A (eval (.Call (.Name x p) (e0::es) [] cp) X.env) (fun u S=>∃E,Inv X pins a E S/\D.nx a E) (fun e g=>wpAny (model X.prog X.w) X.A (noteFrame e X.env) (fun _ l=>wpAny (model X.prog X.w) X.A (setFlight e none) (fun _ m=>wpAny (model X.prog X.w) X.A (handleBy e X.env (h1::hs)) (SP X pins D) X.xe m) X.xe l) X.xe g) s:=by
  refine wpAny_Call_Name_kw (HU I hg hm ?_ O);refine PySem.W.callWith_K (h₀:=X.base) I.ok.mod.bZ hk (wpAny_mono (ha cp pins s a H _ (I.KD _) h) (fun G b zq=>zq.elim fun U J L r q=>⟨L.Fl,?_⟩) fun _ _ z=>False.elim z) he P;have c:Inv X pins a J b:=L.FO;have hl:G.length=ps.length:=by rw[<-r.length];exact F.len _ _ _ _ q
  have Y:=hb b G c.Fl (by rw[List.append_nil];exact hl);rw[List.append_nil]at Y;refine wpAny_call (codeAny_mono (F.run X.A X.stack b J ⟨G,[]⟩ G U _ _ hr c.b_ Y r q) fun r S t=>?_);cases r with
  |error e=>
   refine hJ M N c t fun B C d E h5 oe U T ee q F mk=>?_;subst ee;obtain⟨C',ec,kC,q⟩:=q;cases ec;have n0:X.s₀.heap.get? B=none:=by
    cases z:X.s₀.heap.get? B with
    |none=>rfl
    |some o=>
     obtain⟨o',Z⟩:=c.base.there B o z (by rw[hex];simp);rw[F.jd]at Z;cases Z
   have np:∀p∈X.pn++pins,p.1≠B:=fun p hp z=>by
    have:=(c.pin p hp).1;rw[z,F.jd]at this;cases this
   exact hh pins {S with heap:=h5} a E D b.heap B C T d oe U F n0 np mk kC q
  |ok V=>
   cases V with
   |ret u=>
    obtain⟨v,H2,I2,_,q2⟩:=c.after t;exact⟨H2,I2,q2⟩
   |next=>exact False.elim t
   |brk=>exact False.elim t
   |cont=>exact False.elim t
 refine wpAny_execs_cons (Bl (Q:=SP X pins D) (wpAny_Expr_any (Bl call fun v b ⟨J,L,q1⟩=>⟨a,J,L,q1⟩) I.quiet R) fun V b z=>?_);cases V with
 |next=>exact wpAny_execs_nil (wpAny_execs_nil z)
 |brk=>exact z
 |cont=>exact z
 |ret u=>exact z
end
section
variable{X:Cx}
end
variable{st:Stmt}
section
variable{P:Program} {w:World} {K:vA} {mg:Str->Option Value} {base:Heap}
theorem CL.rW{g:FuncData}{k:Nat}(F:CL K x qual st f g)(S:AU N ps (AL st))(len:∀b H Q E,sp b H Q E->b.length=ps.length)(c:∀(a:Value) (A:Around) (outer:List Env) (s:Shared) (H:Hp) (b:List V) (Q:VK) (E:XK),BZ k (A.deeper (envOfC qual (AL st) s.heap.objs.size f a))->sp b H Q E->
   ∃t,Lr (La (Ya P w) P w K mg base N qual (AL st) f a A outer s H E) (DC st) t/\t {nx:=fun _ h=>Q .As h,rt:=Q} (start N b) H):Av P w K mg base (Ya P w) (k+1) f g ps sp:=by
 obtain⟨l,m,kV,doc,n,o,a,p,i,rfl,lk,d⟩:=F.ex;exact ax lk d S len fun A outer s H b Q E j e=>c a A outer s H b Q E j e
end
inductive l'(P:Program)(w:World)(K:vA)(mg:Str->Option Value)(base:Heap)(x:Str)(ps:List Str)(n:Nat)(sp:Sp):Prop
 |mk(f:Addr)(a:FuncData)(k:PySem.W.keepIn K (.ref f)=true)(b:Binds K a ps [])(m:mg x=some (.ref f))(G:Av P w K mg base (Ya P w) n f a ps sp)
structure iA(P:Program)(w:World)(K:vA)(mg:Str->Option Value)(base:Heap)(x:Str)(ps:List Str)(n:Nat)(sp:Sp):Prop where
 ex:l' P w K mg base x ps n sp
theorem iA.mk'{P:Program}{w:World}{K:vA}{mg:Str->Option Value}{base:Heap}{x q:Str}{st:Stmt}{ps:List Str}{n:Nat}{sp:Sp}{f:Addr}{a:FuncData}(F:CL K x q st f a)(b:Binds K a ps [])(m:mg x=some (.ref f))(G:Av P w K mg base (Ya P w) n f a ps sp):iA P w K mg base x ps n sp:=⟨⟨f,a,F.kp,b,m,G⟩⟩
inductive oN(P:Program)(w:World)(K:vA)(mg:Str->Option Value)(base:Heap)(f:Addr)(ps:List Str)(sp:Sp):Prop
 |mk(a:FuncData)(G:Av P w K mg base CP 1 f a ps sp)(b:Binds K a ps [])(h:∃c,K.lookup f=some c/\c.cls=.type "function")
def je(K:vA)(D:Addr):Bool:=EW K D&&(PySem.W.findIn K (.ref D) "__getattribute__"==some (some (.builtin "BaseException.__getattribute__"))&&PySem.W.findIn K (.ref D) "__getattr__"==some none)
def mB(K:vA)(D:Addr):Bool:=je K D&&(PySem.W.hasDictIn K D&&(PySem.W.findIn K (.ref D) "__class__"==some (some (.builtin "object.__class__"))&&(PySem.W.specialIn K (.builtin "object.__class__") "__get__"==some (some (.builtin "getset_descriptor.__get__"))&&(PySem.W.takesIn K (.builtin "object.__class__")==some true&&PySem.W.mroIn K D (.type "object")==some true))))
def jf(K:vA)(C:Addr)(f:Str):Bool:=PySem.W.findIn K (.ref C) "__setattr__"==some (some (.builtin "object.__setattr__"))&&((PySem.W.clsIn K C).any (fun a=>JU a.mro)&&((PySem.W.clsIn K C).any (·.hasDict)&&PySem.W.takerIn K C f==some none))
def jg(K:vA)(C:Addr)(f:Str):Bool:=je K C&&(PySem.W.hasDictIn K C&&PySem.W.findIn K (.ref C) f==some none)
theorem Ui.of(h:je K D=true):Ui K D:=by
 simp only[je,Bool.and_eq_true,beq_iff_eq]at h;exact⟨h.1,h.2.1,h.2.2⟩
theorem JV.of{K:vA}{D:Addr}(h:mB K D=true):JV K D:=by
 simp only[mB,Bool.and_eq_true,beq_iff_eq]at h;exact⟨.of h.1,h.2.1,h.2.2.1,h.2.2.2.1,h.2.2.2.2.1,h.2.2.2.2.2⟩
theorem Lh.of{f:Str}(h:jf K D f=true):Lh K D f:=by
 simp only[jf,Bool.and_eq_true,beq_iff_eq]at h;exact⟨h.1,h.2.1,h.2.2.1,h.2.2.2⟩
theorem XN.of{K:vA}{D:Addr}{f:Str}(h:jg K D f=true):XN K D f:=by
 simp only[jg,Bool.and_eq_true,beq_iff_eq]at h;exact⟨.of h.1,h.2.1,h.2.2⟩
structure Nm(mg:Str->Option Value)(c:Nat->Addr)(cB:Addr):Prop where
 dS:mg "NoPart"=some (.ref (c 0))
 dU:mg "NoDeed"=some (.ref (c 1))
 iB:mg "NoRow"=some (.ref (c 2))
 iC:mg "NoFit"=some (.ref (c 3))
 Zp:mg "NoPatch"=some (.ref (c 4))
 dV:mg "NoText"=some (.ref (c 5))
 bJ:mg "Clash"=some (.ref (c 6))
 RQ:mg "BoughError"=some (.ref cB)
def Jx(C:Addr):Sp:=fun c H Q _=>∃(b:Addr)(i j:Int),c=[.ref b,.int i,.int j]/\H b=some (Iv b C none)/\∀a,H a=none->a≠b->Q .As (upd (upd (upd H b (Iv b C (some a))) a (RM a [("at",.int i)])) a (RM a [("other",.int j),("at",.int i)]))
variable{j:Int}
theorem mD{i:Int}(l:[V.int i,V.int j].length<=sizeLine)(q:∀a,H a=none->E (.ref C) (some a) (upd H a (RM a [("other",.int j),("at",.int i)]))):hY (Jx C) E C [.int i,.int j] H:=
 ⟨l,fun e f=>⟨e,i,j,rfl,AB,fun a c n=>by
  rw[AN n]at c;refine⟨some a,upd H a (RM a [("other",.int j),("at",.int i)]),rfl,?_,?_,fun b d=>?_,q a c⟩
  ·rw[AN (Ne.symm n),AN (Ne.symm n),AB]
  ·rw[AN (Ne.symm n)];exact f
  ·by_cases z:b=a
   ·rw[z,AB,AB]
   ·rw[AN z,AN z,AN z,AN d,AN d]⟩⟩
section
variable{prog:Program} {w:World} {A:Around} {s:Shared}
end
section
variable{X:Cx} [A_ X.K] {pins:List (Addr×Obj)} {σ:St} {H:Hp} {s:Shared}
end
inductive rX{K:vA}[A_ K](x y:V)(H:Hp)(Q:VK):Prop
 |mk(a b:Addr)(ks:List Str)(c:List Pt)(e:x=.ref a)(f:y=.ref b)(g:Val H (.ref a) (.IU ks c))(h:Val H (.ref b) (.IU ks c))(d:(Pt.IU ks c).deep<=60)(q:Q (.bl false) H)
noncomputable def Bd:Option (List V)->Option (List V)->Bool
 |some x,some y=>decide (x<+:y)
 |_,_=>false
def Dt(o:Option (List V)):Prop:=∀a,o=some a->steps a
def Bq(w:Str)(xs:List V):Option (List V):=if Cm (.str w) [.str "take",.str "change"]=true then some xs else none
def Aq(w:Str)(xs:List V):Option (List V):=if w="move"then some xs else none
def Az(w:Str)(xs:List V):Option (List V):=if Cm (.str w) [.str "ask",.str "copy"]=true then some xs else none
def CZ(w:Str)(xs a:List V):Option (List V):=if Cm (.str w) BY=true then some (CT w xs a).dropLast else none
def Cu(w:Str)(xs a:List V):Option (List V):=if w="lacks"then some xs else if Cm (.str w) BY=true/\MT ((CT w xs a).getLastD .As)=false then some (CT w xs a)else none
def Du(w:Str)(xs d:List V)(b:Str)(a c:List V):Bool:=Bd (Az w xs) (Bq b a)||Bd (Az w xs) (CZ b a c)||(Bd (Az w xs) (Aq b a)&& !decide (Az w xs=Aq b a))
def Br(w:Str)(xs c:List V)(d:Str)(a b:List V):Bool:= !decide (w="lacks")&&(Cu w xs c).isSome&&decide (Cu w xs c=Cu d a b)
def CM(o:Option (List V))(a:List (List V)):Bool:=a.any fun y=>Bd o (some y)
def Cg(w:Str)(xs c:List V)(d:Str)(a b:List V):Bool:=CM (Cu w xs c) (BU d a b)
def Bv(w:Str)(xs d:List V)(b:Str)(a c:List V):Bool:=(Aq w xs).isSome&&decide (Aq w xs=Aq b a)
def Bh(w:Str)(xs d:List V)(c:Str)(a b:List V):Bool:=Bd (Aq w xs) (CZ c a b)
def Dy(w:Str)(xs d:List V)(c:Str)(a b:List V):Bool:=CM (Bq w xs) (BU c a b)||Du w xs d c a b||Br w xs d c a b||Cg w xs d c a b||Bv w xs d c a b||(Bh w xs d c a b&&Bh c a b w xs d)
def CV(w:Str)(xs c:List V)(d:Str)(a b:List V):Bool:=Dy w xs c d a b||Dy d a b w xs c
variable{xs:List V}{w:Str}
theorem Ek(h:steps xs):Dt (Bq w xs):=fun a e=>by unfold Bq at e;split at e<;>cases e;exact h
theorem Ce(h:steps xs):Dt (Aq w xs):=fun a e=>by unfold Aq at e;split at e<;>cases e;exact h
theorem IG(h:steps xs):Dt (Az w xs):=fun a e=>by unfold Az at e;split at e<;>cases e;exact h
variable{a:List V}
theorem GK(h:steps xs)(h':steps a):Dt (CZ w xs a):=fun c e=>by
 unfold CZ at e;split at e<;>cases e;exact fun z b=>CU h h' z (List.dropLast_subset _ b)
variable{p:Addr}
theorem Iw{ws:List V}(a:H p=some (.tup xs)):DX H (if Cm (.str w) ws=true then .ref p else .As) (if Cm (.str w) ws=true then some xs else none):=by
 split
 ·exact⟨p,rfl,a⟩
 ·rfl
theorem EX(a:H p=some (.tup xs)):DX H (if decide (V.str w=.str "move")=true then .ref p else .As) (Aq w xs):=by
 unfold Aq;by_cases c:w="move"
 ·rw[if_pos c,if_pos (by rw[c];decide)];exact⟨p,rfl,a⟩
 ·rw[if_neg c,if_neg (by simpa using c)];rfl
def FY:Sp:=fun d H Q _=>∃(u v:V)(a b:Option (List V)),d=[u,v]/\DX H u a/\DX H v b/\Dt a/\Dt b/\∀c,AF H c->Q (.bl (Bd a b)) c
def Iy:Sp:=fun e H Q _=>∃(u:V)(a:Option (List V))(l:Addr)(c:List Addr)(b:List (List V)),e=[u,.ref l]/\DX H u a/\Dt a/\H l=some (.lst (c.map V.ref))/\Bu H c b/\(∀f∈b,steps f)/\b.length<=10/\∀d,AF H d->Q (.bl (CM a b)) d
def RS:Sp:=fun d H Q _=>∃(r:V)(w:Str)(b c:List V)(p:Addr),d=[r]/\Rw H r w b c p/\∀v a,AF H a->DX a v (CZ w b c)->Q v a
def DM(f:Str->List V->List V->Str->List V->List V->Bool):Sp:=fun i H Q _=>∃(r:V)(w:Str)(c d:List V)(p:Addr)(e:V)(g:Str)(a b:List V)(j:Addr),i=[r,e]/\Rw H r w c d p/\Rw H e g a b j/\∀h,AF H h->Q (.bl (f w c d g a b)) h
section
variable{X:Cx} {pins:List (Addr×Obj)} {σ:St} {H:Hp} {s:Shared}
theorem TF(I:Inv X pins σ H s)(l:A.units<cLine){a b:Addr}{ys:List V}(m:H a=some (.tup xs))(n:H b=some (.tup ys))(o:∀z∈xs,CO z=true)(p:∀z∈ys,CO z=true):SeqAt.RcAt A s (.ref a) (.ref b) (BQ xs ys):=by
 obtain⟨f,g,q,_⟩:=I.tuple (Ah.of (K:=X.K) m);obtain⟨c,h,r,_⟩:=I.tuple (Ah.of (K:=X.K) n);have t:f.toArray.size=xs.length:=by rw[List.size_toArray];exact g.length.symm
 have u:c.toArray.size=ys.length:=by rw[List.size_toArray];exact h.length.symm
 have d:=SeqAt.RcAt.tuples (A:=A) (e:=fun j=>JL (xs.getD j .As) (ys.getD j .As)) q r l (fun j v w=>by
  obtain⟨x,i,B⟩:=Jv g v;obtain⟨y,k,C⟩:=Jv h w;have D:xs.getD j .As=x:=by rw[List.getD_eq_getElem?_getD,i];rfl
  have E:ys.getD j .As=y:=by rw[List.getD_eq_getElem?_getD,k];rfl
  show SeqAt.EqAt _ _ _ _ (JL (xs.getD j .As) (ys.getD j .As));rw[D,E];exact KO B C (o _ (u_ i)) (p _ (u_ k)))
 rw[t,u]at d;exact d
end
inductive iD(x y:V)(H:Hp)(Q:VK):Prop
 |mk(a b:Option (List V))(c:DX H x a)(d:DX H y b)(e:Dt a)(sb:Dt b)(q:Q (.bl (decide (a=b))) H)
theorem XP{ys:List V}(a:steps xs)(b:steps ys):BQ xs ys=decide ((some xs:Option (List V))=some ys):=by
 by_cases c:xs=ys
 ·rw[decide_eq_true (by rw[c]),(Bk a b).mpr c]
 ·rw[decide_eq_false (by simpa using c)];exact Bool.eq_false_iff.mpr fun z=>c ((Bk a b).mp z)
variable{X:Cx}
theorem is_tup{pins:List (Addr×Obj)}{σ:St}(I:Inv X pins σ H s){a:Addr}(b:H a=some (.tup xs)):∃its:Array Value,s.heap.IsTuple a its:=by
 obtain⟨its,_,p,_⟩:=I.tuple (Ah.of (K:=X.K) b);exact⟨_,p⟩
theorem dW(f:X.A.units<cLine):Dg X (compareOp .Eq) iD:=by
 intro pins s E H x y v u Q I m c h;obtain⟨a,b,n,d,w,B,q⟩:=h;cases a with
 |none=>
  have C:x=.As:=n;subst C;cases(show v=Value.none from m);cases b with
  |none=>
   have g:y=.As:=d;subst g;cases(show u=Value.none from c);exact SeqAt.RcAt.none_none _ _ _ _ ⟨.bl _,H,I,rfl,q⟩
  |some o=>
   obtain⟨p,rfl,e⟩:=d;cases c;obtain⟨i,j⟩:=is_tup I e;exact SeqAt.RcAt.none_tuple j f _ _ _ _ ⟨.bl _,H,I,rfl,q⟩
 |some D=>
  obtain⟨p,rfl,e⟩:=n;cases m;cases b with
  |none=>
   have g:y=.As:=d;subst g;cases(show u=Value.none from c);obtain⟨i,j⟩:=is_tup I e;exact SeqAt.RcAt.tuple_none j f _ _ _ _ ⟨.bl _,H,I,rfl,q⟩
  |some o=>
   obtain⟨F,rfl,k⟩:=d;cases c;have r:=w D rfl;have t:=B o rfl;rw[<-XP r t]at q;exact TF I f e k (fun z l=>(r z l).flat) (fun z l=>(t z l).flat) _ _ _ _ ⟨.bl _,H,I,rfl,q⟩
def fJ(H:Hp)(v:V):Option (List V)->Prop
 |none=>v=.As
 |some ys=>EH H v ys
theorem fJ.up{H H':Hp}{v:V}{o:Option (List V)}(h:fJ H v o)(s:AF H H'):fJ H' v o:=by
 cases o with
 |none=>exact h
 |some a=>exact EH.up h s
inductive dX(x y:V)(H:Hp)(Q:VK):Prop
 |mk(a b:Option (List V))(c:fJ H x a)(d:fJ H y b)(e:Dt a)(sb:Dt b)(q:Q (.bl (decide (a=b))) H)
theorem EY{ys:List V}{l:V}(h:ys.getLast?=some l):ys=ys.dropLast++[l]:=by
 have a:ys≠[]:=by rintro rfl;cases h
 rw[List.getLast?_eq_some_getLast a]at h;have:=List.dropLast_concat_getLast a;rw[uz h]at this;exact this.symm
theorem XQ(hu:X.A.units+64<cLine):Dg X (compareOp .Eq) dX:=by
 intro pins s σ H x y v u Q I E p h;obtain⟨a,b,W,M,sa,sb,q⟩:=h;cases a with
 |none=>
  have P:x=.As:=W;subst P;cases(show v=Value.none from E);cases b with
  |none=>
   have F:y=.As:=M;subst F;cases(show u=Value.none from p);exact SeqAt.RcAt.none_none _ _ _ _ ⟨.bl _,H,I,rfl,q⟩
  |some f=>
   obtain⟨t,R,C,rfl,N,S,O⟩:=M;cases p;obtain⟨g,T⟩:=is_tup I N;exact SeqAt.RcAt.none_tuple T (by lia) _ _ _ _ ⟨.bl _,H,I,rfl,q⟩
 |some i=>
  obtain⟨t,R,C,rfl,N,S,O⟩:=W;cases E;cases b with
  |none=>
   have F:y=.As:=M;subst F;cases(show u=Value.none from p);obtain⟨g,T⟩:=is_tup I N;exact SeqAt.RcAt.tuple_none T (by lia) _ _ _ _ ⟨.bl _,H,I,rfl,q⟩
  |some f=>
   obtain⟨t',G,d,rfl,U,r,l⟩:=M;cases p;have Y:=sa i rfl;have Z:=sb f rfl;have m:steps i.dropLast:=fun z w=>Y z (List.dropLast_subset _ w);have n:steps f.dropLast:=fun z w=>Z z (List.dropLast_subset _ w);have V:=Y C (List.mem_of_getLast? O);have J:=Z d (List.mem_of_getLast? l);obtain⟨g,r1,p1,_⟩:=I.tuple (Ah.of (K:=X.K) N);obtain⟨o,r2,p2,_⟩:=I.tuple (Ah.of (K:=X.K) U);have e1:g.toArray.size=2:=by rw[List.size_toArray];exact r1.length.symm
   have e2:o.toArray.size=2:=by rw[List.size_toArray];exact r2.length.symm
   have L:=SeqAt.RcAt.tuples (A:=X.A) (e:=fun j=>match j with|0=>BQ i.dropLast f.dropLast|_=>JL C d) p1 p2 (by lia) (fun j h1 h2=>by
    obtain⟨x,B,E⟩:=Jv r1 h1;obtain⟨y,D,p⟩:=Jv r2 h2
    match j,B,D with
    |0,B,D=>
     cases B;cases D;have w1:g.toArray[0]=Value.ref R:=E;have w2:o.toArray[0]=Value.ref G:=p;rw[w1,w2];show SeqAt.EqAt _ _ _ _ (BQ i.dropLast f.dropLast);by_cases e:R=G
     ·subst e;rw[S]at r;have ed:i.dropLast=f.dropLast:=HO.tup.inj (uz r);rw[ed,(Bk n n).mpr rfl];exact SeqAt.EqAt.same _
     ·exact SeqAt.EqAt.of_refs e (TF I (A:=X.A.in1) (by show X.A.units+1<cLine;lia) S r (fun z w=>(m z w).flat) (fun z w=>(n z w).flat))
    |1,B,D=>
     cases B;cases D;exact KO E p V.flat J.flat
    |k+2,B,D=>simp at B)
   rw[e1,e2]at L;refine L _ _ _ _ ⟨.bl _,H,I,?_,q⟩;show Value.bool _=Value.bool _;congr 1;have e3:((List.range (min 2 2)).all fun j=>match j with|0=>BQ i.dropLast f.dropLast|_=>JL C d)=(BQ i.dropLast f.dropLast&&JL C d):=by
    show([0,1].all _)=_;simp[List.all_cons,List.all_nil]
   rw[e3];have P:=EY O;have F:=EY l;by_cases c:i=f
   ·rw[decide_eq_true (by rw[c])];subst c;rw[O]at l;cases l;rw[(Bk m m).mpr rfl,Pe V];rfl
   ·rw[decide_eq_false (by simpa using c)];cases c1:BQ i.dropLast f.dropLast with
    |false=>rfl
    |true=>
     cases c2:JL C d with
     |false=>rfl
     |true=>
      exfalso;apply c;rw[P,F,FH m n c1,step_eq V J c2]
variable{v:V}
theorem GL(h:NW H v w xs a):fJ H v (Cu w xs a):=by
 unfold NW at h;unfold Cu;split at h
 ·rename_i c;rw[if_pos c];exact h
 ·rename_i c
  rw[if_neg c];split at h
  ·rename_i c2;rw[if_pos c2];exact h
  ·rename_i c2;rw[if_neg c2];exact h
theorem Dv(h:steps xs)(h':steps a):Dt (Cu w xs a):=fun b e=>by
 unfold Cu at e;split at e
 ·cases e;exact h
 ·split at e<;>cases e;exact CU h h'
theorem Pn{ys:List V}(h:Cu w xs a=some ys)(b:xs.length<=100)(lz:a.length<=100):ys.length<=100:=by
 unfold Cu at h;split at h
 ·cases h;exact b
 ·split at h<;>cases h;unfold CT;split
  ·exact lz
  ·split
   ·rw[Cd];exact lz
   ·exact b
noncomputable def GN(c:List V)(d:Str)(a b:List V)(ah:Bool):V->V
 | .int i=>.int (Cp c i d a+DW c i d a b ah)
 |l=>l
def CF(w:Str)(xs c:List V)(d:Str)(a b:List V)(first:Bool):Option (List V):=(B_ d a b (CT w xs c).dropLast).map fun e=>e++[GN (CT w xs c).dropLast d a b (!first) ((CT w xs c).getLastD .As)]
def LD:Sp:=fun i H Q _=>∃(r:V)(w:Str)(d e:List V)(p:Addr)(f:V)(g:Str)(a b:List V)(j:Addr)(first:Bool)(h:List V),i=[r,f,.bl first]/\Rw H r w d e p/\Rw H f g a b j/\Cm (.str w) BY=true/\CF w d e g a b first=some h/\∀(t:Addr)(c:Hp),AF H c->c t=some (.tup h)->Q (.ref t) c
def Cv(a xs:List V):List V:=
 match a[xs.length-1]?,xs.getLast? with
 |some (.int i),some (.int j)=>if BQ (a.take (xs.length-1)) xs.dropLast=true/\j<i then a.set (xs.length-1) (.int (i-1))else a
 |_,_=>a
theorem Zq(b:xs.length<=100)(lz:a.length<=100):(CT w xs a).length<=100:=by
 unfold CT;split
 ·exact lz
 ·split
  ·rw[Cd];exact lz
  ·exact b
theorem Nh:∀(q xs a:List V),(Iq xs a q).length=q.length
 |[],_,_=>rfl
 |j::r,xs,a=>by
  show(EC xs a j::Iq (DJ xs j) (DJ a j) r).length=_;rw[List.length_cons,Nh r,List.length_cons]
variable{b q:List V}
theorem FK(h:B_ w xs a q=some b):b.length<=a.length+q.length:=by
 unfold B_ at h;split at h
 ·cases h
 ·split at h
  ·cases h;rw[List.length_append,List.length_drop];lia
  ·cases h;rw[Nh];lia
theorem Iz(b a:List V)(c:V):Cv b (a++[c])=match b[a.length]?,c with
  |some (.int i),.int j=>if BQ (b.take a.length) a=true/\j<i then b.set a.length (.int (i-1))else b
  |_,_=>b:=by
 unfold Cv;have d:(a++[c]).length-1=a.length:=by simp
 have e:(a++[c]).getLast?=some c:=by simp
 have f:(a++[c]).dropLast=a:=by simp
 rw[d,e,f];cases b[a.length]? with
 |none=>rfl
 |some z=>cases z<;>cases c<;>rfl
theorem Po{d:V}(h:(BQ (b.take a.length) a&&decide (a.length<b.length)&&MT (b.getD a.length .As))=false):Cv b (a++[d])=b:=by
 refine(Iz b a d).trans ?_;by_cases e:a.length<b.length
 ·have g:b[a.length]?=some b[a.length]:=ux e;have f:b.getD a.length .As=b[a.length]:=by rw[List.getD_eq_getElem?_getD,g];rfl
  rw[f,decide_eq_true e,Bool.and_true]at h;rw[g];cases k:b[a.length]with
  |int i=>
   rw[k]at h;have l:BQ (b.take a.length) a=false:=by simpa[MT]using h
   cases d with
   |int j=>exact if_neg fun c=>by rw[l]at c;exact Bool.false_ne_true c.1
   |_=>rfl
  |_=>rfl
 ·rw[List.getElem?_eq_none_iff.mpr (by lia)]
theorem RT{k:Str}:Cv a (b++[.str k])=a:=by
 refine(Iz a b _).trans ?_;cases a[b.length]? with
 |none=>rfl
 |some z=>cases z<;>rfl
theorem RU{d:List V}{i:Int}(g:a[d.length]?=some (.int i))(b:BQ (a.take d.length) d=true):Cv a (d++[.int j])=if j<i then a.set d.length (.int (i-1))else a:=by
 refine(Iz a d _).trans ?_;rw[g];by_cases c:j<i
 ·rw[if_pos c];exact if_pos ⟨b,c⟩
 ·rw[if_neg c];exact if_neg fun z=>c z.2
def Mi:Sp:=fun d H Q _=>∃(t p:Addr)(b a:List V),d=[.ref t,.ref p]/\H t=some (.tup b)/\H p=some (.tup a)/\a≠[]/\steps b/\steps a/\b.length<=400/\a.length<=400/\∀q c,AF H c->c q=some (.tup (Cv b a))->Q (.ref q) c
theorem XR{j:V}(c:steps xs)(d:Dc.Bi j):Dc.Bi (EC xs b j):=by
 rcases d with⟨i,rfl⟩|⟨k,rfl,f⟩
 ·refine .inl ?_;have g:0<=HG xs (i:Int):=by
   unfold HG;split
   ·rename_i a
    rcases c (.int a) (by simp)with⟨m,e⟩|⟨k,e,_⟩
    ·cases e;split<;>lia
    ·cases e
   ·lia
  have h:0<=IB b (i:Int):=by
   unfold IB;split
   ·split<;>lia
   ·lia
  refine⟨(HG xs (i:Int)+IB b (i:Int)).toNat,?_⟩;show V.int _=V.int _;rw[Int.toNat_of_nonneg (by lia)]
 ·exact .inr ⟨k,rfl,f⟩
theorem Uq{j:V}(h:steps xs):steps (DJ xs j):=by
 cases xs with
 |nil=>intro z a;cases a
 |cons x r=>
  simp only[DJ];split
  ·exact fun z a=>h z (List.mem_cons_of_mem _ a)
  ·intro z a;cases a
theorem Mj:∀(q xs b:List V),steps xs->steps q->steps (Iq xs b q)
 |[],_,_=>fun _ _=>fun z a=>nomatch a
 |j::r,xs,b=>fun c d=>by
  intro z a;rcases List.mem_cons.mp (show z∈EC xs b j::Iq (DJ xs j) (DJ b j) r from a)with rfl|a
  ·exact XR c (d j List.mem_cons_self)
  ·exact Mj r _ _ (Uq c) (fun v e=>d v (List.mem_cons_of_mem _ e)) z a
theorem XS(h:steps xs):steps (lX w xs):=by
 unfold lX;split
 ·exact h
 ·intro z a;cases a
theorem GO{c:List V}(e:steps xs)(sz:steps b)(d:steps q)(h:B_ w xs b q=some c):steps c:=by
 unfold B_ at h;split at h
 ·cases h
 ·split at h
  ·cases h;intro z a;rcases List.mem_append.mp a with a|a
   ·exact sz z a
   ·exact d z (List.mem_of_mem_drop a)
  ·cases h;exact Mj _ _ _ (XS e) d
theorem Li{ah:Bool}{l:V}(d:steps xs)(f:Dc.Bi l):Dc.Bi (GN a w xs b ah l):=by
 rcases f with⟨i,rfl⟩|⟨k,rfl,g⟩
 ·refine .inl ?_;have n:0<=Cp a (i:Int) w xs:=by
   unfold Cp;cases e:EV xs with
   |none=>show 0<=(i:Int);lia
   |some j=>
    have h:=Ir e;rcases d (.int j) (by rw[h];simp)with⟨m,c⟩|⟨k,c,_⟩
    ·cases c;simp only;split<;>lia
    ·cases c
  have o:0<=DW a (i:Int) w xs b ah:=by
   unfold DW;split
   ·split<;>lia
   ·lia
  refine⟨(Cp a (i:Int) w xs+DW a (i:Int) w xs b ah).toNat,?_⟩;show V.int _=V.int _;rw[Int.toNat_of_nonneg (by lia)]
 ·exact .inr ⟨k,rfl,g⟩
theorem ED{c:Str}{d n:List V}(h:CV w xs d c a b=false)(g:n∈BU w xs d):∃i,B_ c a b n=some i:=by
 refine RK fun z=>?_;unfold CV at h;simp only[Bool.or_eq_false_iff]at h;have e:=h.2;unfold Dy at e;simp only[Bool.or_eq_false_iff]at e;have f:CM (Bq c a) (BU w xs d)=false:=e.1.1.1.1.1;unfold CM at f;have j:=(List.any_eq_false.mp f) n g;apply j;unfold Bq;rw[if_pos z.1];exact decide_eq_true z.2
def bK:TS:=fun _ _ _=>False
theorem Zr:PS X st bK:=fun _ _ _ _ _ _ h=>h.elim
def IH(w:Str)(xs e:List V)(d:Str)(a b:List V)(first:Bool):Option (List V×List V):=
 if w="put"then(CF w xs e d a b first).map fun c=>(c,[])
 else if w="lacks"then(B_ d a b xs.dropLast).map fun f=>(f++[xs.getLastD .As],[])
 else(B_ d a b xs).bind fun q=>if w="move"then(CF w xs e d a b first).map fun c=>(q,Cv c q)else if w="copy"then(CF w xs e d a b first).map fun c=>(q,c)else some (q,[])
def XT:Sp:=fun o H Q _=>∃(r:V)(w:Str)(f g:List V)(p:Addr)(j:V)(i:Str)(c d:List V)(q:Addr)(first:Bool)(k l:List V),o=[r,j,.bl first]/\Rx H r w f g p/\Rw H j i c d q/\f.length<=40/\g.length<=40/\c.length<=40/\d.length<=40/\(w="take"∨w="has"∨w="lacks"->∃a,r=.ref a/\H a=some (.tup [.str w,.ref p]))/\CV w f g i c d=false/\IH w f g i c d first=some (k,l)/\
 ∀(m a:Addr)(b rest:List V)(e:Addr)(h:Hp),AF H h->r=.ref m->H m=some (.tup (.str w::.ref p::b))->Rx h (.ref a) w k l e->h a=some (.tup (.str w::.ref e::rest))->rest.length=b.length->(w="put"->∃v n:Dc,b=[v.val]/\rest=[n.val]/\Dc.Cb v n)->Q (.ref a) h
variable{fi:Bool}
theorem EO{e:Str}{d:List V}(f:Cm (.str w) BY=true)(h:CV w xs d e a b=false):∃c,CF w xs d e a b fi=some c:=by
 obtain⟨i,g⟩:=ED (n:=(CT w xs d).dropLast) h (by unfold BU nC;rw[if_pos f];simp);unfold CF;rw[g];exact⟨_,rfl⟩
theorem Ni{d:Str}{f c:List V}(h:CF w xs f d a b fi=some c):c≠[]:=by
 unfold CF at h;cases e:B_ d a b (CT w xs f).dropLast with
 |none=>rw[e]at h;cases h
 |some g=>rw[e]at h;cases h;simp
theorem HI{j:Str}{g c:List V}(k:steps xs)(sz:steps g)(d:steps a)(i:steps b)(ne:CT w xs g≠[])(h:CF w xs g j a b fi=some c):steps c:=by
 have st:=CU (w:=w) k sz;unfold CF at h;cases e:B_ j a b (CT w xs g).dropLast with
 |none=>rw[e]at h;cases h
 |some m=>
  rw[e]at h;cases h;intro z f;rcases List.mem_append.mp f with f|f
  ·exact GO d i (fun y l=>st y (List.dropLast_subset _ l)) e z f
  ·rw[List.mem_singleton.mp f];refine Li d (st _ ?_);rw[List.getLastD_eq_getLast?,List.getLast?_eq_some_getLast ne];exact List.getLast_mem ne
theorem LF{f:Str}{d c:List V}(g:xs.length<=40)(lz:d.length<=40)(i:a.length<=40)(h:CF w xs d f b a fi=some c):c.length<=81:=by
 have lt:(CT w xs d).length<=40:=by
  unfold CT;split
  ·exact lz
  ·split
   ·rw[Cd];exact lz
   ·exact g
 unfold CF at h;cases e:B_ f b a (CT w xs d).dropLast with
 |none=>rw[e]at h;cases h
 |some j=>
  rw[e]at h;cases h;have:=FK e;rw[List.length_dropLast]at this;simp only[List.length_append,List.length_singleton];lia
theorem LG(a xs:List V):(Cv a xs).length=a.length:=by
 unfold Cv;split
 ·split<;>simp
 ·rfl
theorem Nj{d:List V}(h:steps d)(e:steps xs):steps (Cv d xs):=by
 unfold Cv;split
 ·rename_i i j g f
  split
  ·rename_i c
   intro z a;rcases List.mem_or_eq_of_mem_set a with a|rfl
   ·exact h z a
   ·rcases e _ (List.mem_of_getLast? f)with⟨m,b⟩|⟨k,b,_⟩
    ·cases b;exact .inl ⟨(i-1).toNat,by rw[Int.toNat_of_nonneg (by lia)]⟩
    ·cases b
  ·exact h
 ·exact h
theorem XU(h:B_ w xs a q=some b)(d:q≠[])(nz:w="move"->a≠[]):b≠[]:=by
 unfold B_ at h;split at h
 ·cases h
 ·split at h
  ·rename_i c
   cases h;intro z;exact nz c.1 (List.append_eq_nil_iff.mp z).1
  ·cases h;intro z;have:=Nh q (lX w xs) (mX w xs a);rw[z]at this;exact d (List.eq_nil_of_length_eq_zero this.symm)
theorem I_{a:Addr}{rest:List V}(c:H a=some (.tup (.str w::.ref p::rest)))(d:H p=some (.tup xs))(e:steps xs)(f:xs.length<=100)(g:w∈DH)(nx:w="put"∨w="lacks"∨w="take"∨w="move"->xs≠[])(T:Fo H w b rest)(sz:steps b)(lz:b.length<=100)(nz:w="copy"∨w="move"->b≠[]):Rx H (.ref a) w xs b p:=
 ⟨⟨⟨a,rest,rfl,c,T.cm⟩,d,e,sz,f,lz,g,nx,nz⟩,a,rest,rfl,c,T⟩
theorem Jy(h:w≠x):decide (V.str w=V.str x)=false:=decide_eq_false fun z=>h (V.str.inj z)
theorem Ur(a:List V)(b:V):FQ (a++[b]) (some (-1)) none=[b]:=by
 have c:HT.CY (a++[b]).length 0 (some (-1))=a.length:=by
  simp only[HT.CY,List.length_append,List.length_singleton];rw[if_pos (by decide)];lia
 unfold FQ;rw[c,HT.Oe,List.drop_left,List.length_append,List.length_singleton,Nat.add_sub_cancel_left];rfl
section
variable{K:vA} [A_ K]
def LH:Sp:=fun e H Q _=>∃(u r:V)(a:Option (List V))(w:Str)(b c:List V)(p:Addr),e=[u,r]/\DX H u a/\Dt a/\Rw H r w b c p/\∀d,AF H d->Q (.bl (Bd a (CZ w b c))) d
end
def FZ(w:Str)(xs c:List V)(d:Str)(a b:List V):Bool:=((BU d a b).any fun n=>Bd (Bq w xs) (some n)||Bd (Cu w xs c) (some n))||(Du w xs c d a b||Br w xs c d a b)
def Nk(w:Str)(xs c:List V)(d:Str)(a b:List V):Bool:=Bv w xs c d a b||(Bh w xs c d a b&&Bh d a b w xs c)
theorem Nl{a:Type}(f g:a->Bool):∀l:List a,(l.any fun x=>f x||g x)=(l.any f||l.any g)
 |[]=>rfl
 |x::r=>by
  simp only[List.any_cons,Nl f g r];cases f x<;>cases g x<;>cases r.any f<;>rfl
theorem Us(w:Str)(xs d:List V)(c:Str)(a b:List V):CV w xs d c a b=(FZ w xs d c a b||FZ c a b w xs d||Nk w xs d c a b):=by
 have f:Bv c a b w xs d=Bv w xs d c a b:=by
  unfold Bv;by_cases e:Aq w xs=Aq c a
  ·rw[e]
  ·rw[decide_eq_false e,decide_eq_false (Ne.symm e),Bool.and_false,Bool.and_false]
 unfold CV Dy FZ Nk;rw[Nl,Nl,f];show _=((((CM (Bq w xs) (BU c a b)||Cg w xs d c a b)||(Du w xs d c a b||Br w xs d c a b))||((CM (Bq c a) (BU w xs d)||Cg c a b w xs d)||(Du c a b w xs d||Br c a b w xs d)))||(Bv w xs d c a b||(Bh w xs d c a b&&Bh c a b w xs d)));cases CM (Bq w xs) (BU c a b)<;>cases Cg w xs d c a b<;>cases Du w xs d c a b<;>cases Br w xs d c a b<;>cases CM (Bq c a) (BU w xs d)<;>cases Cg c a b w xs d<;>cases Du c a b w xs d<;>cases Br c a b w xs d<;>cases Bv w xs d c a b<;>cases Bh w xs d c a b<;>cases Bh c a b w xs d<;>rfl
variable{d:Dc}{z:V}
namespace Dc
theorem XW{e c y:Dc}(w:e.Wf)(h:e.sub [z]=some c){r:List V}(d:(Ck e z).sub r=some y):∃b a,e.sub b=some a/\¬[z]<+:b/\r=Iq [z] [] b:=by
 cases r with
 |nil=>exact⟨[],e,BS e,fun z=>(by have:=List.prefix_nil.mp z;cases this),rfl⟩
 |cons j r=>
  obtain⟨x,f,g⟩:=BC.mp d;obtain⟨a,i,k,rfl⟩:=(Zf w h).mp f;refine⟨a::r,y,BC.mpr ⟨x,k,g⟩,fun l=>i (List.cons_prefix_cons.mp l).1.symm,?_⟩;show _=EC [z] [] a::Iq (DJ [z] a) [] r;rw[Sy,IC]
theorem Ut:∀{d e n y:Dc}(w:d.Wf)(h:d.sub a=some e){q:List V},(Cc d a n).sub q=some y->(∃r,q=a++r/\n.sub r=some y)∨(¬a<+:q/\∃f,d.sub q=some f):=by
 induction a with
 |nil=>
  intro d e n y w h q b;have i:Cc d [] n=n:=by cases d<;>rfl
  rw[i]at b;exact .inl ⟨q,rfl,b⟩
 |cons z r k=>
  intro d e n y w h q b;obtain⟨l,g,m⟩:=BC.mp h;cases q with
  |nil=>exact .inr ⟨fun c=>(by have:=List.prefix_nil.mp c;cases this),d,BS d⟩
  |cons j q=>
   obtain⟨x,k1,k2⟩:=BC.mp b;rcases(XA w g).mp k1 with⟨rfl,rfl⟩|⟨o,k3⟩
   ·rcases k (NT w g) m k2 with⟨p,rfl,s⟩|⟨t,f,u⟩
    ·exact .inl ⟨p,rfl,s⟩
    ·exact .inr ⟨fun c=>t (List.cons_prefix_cons.mp c).2,f,BC.mpr ⟨l,g,u⟩⟩
   ·exact .inr ⟨fun c=>o (List.cons_prefix_cons.mp c).1.symm,y,BC.mpr ⟨x,k3,k2⟩⟩
theorem Zs{e j y:Dc}(w:d.Wf)(h:d.sub a=some e)(k:e.sub [z]=some j)(l:(d.Cc a (e.Ck z)).sub q=some y):∃f b,d.sub f=some b/\¬(a++[z])<+:f/\q=Iq (a++[z]) [] f:=by
 rcases Ut w h l with⟨r,rfl,m⟩|⟨c,b,n⟩
 ·obtain⟨i,b,o,c,rfl⟩:=XW (NT w h) k m;exact⟨a++i,b,by rw[sub_snoc h];exact o,fun g=>c (XB g),(JS z i a).symm⟩
 ·exact⟨q,b,n,fun g=>c ((List.prefix_append a [z]).trans g),(JT z a q c).symm⟩
end Dc
theorem Dc.TJ{r:List V}:∀{a:List V}{d e:Dc},d.sub (a++r)=some e->∃x,d.sub a=some x
 |[],d,_,_=>⟨d,Dc.BS d⟩
 |z::a,d,e,h=>by
  obtain⟨x,b,c⟩:=Dc.BC.mp (show d.sub (z::(a++r))=some e from h);obtain⟨y,f⟩:=Dc.TJ c;exact⟨y,Dc.BC.mpr ⟨x,b,f⟩⟩
theorem bL(z2:V):∀(q xs:List V),steps q->steps xs->¬xs<+:q->(LY (Iq xs [] q++[z2]) xs).dropLast=q
 |_,[]=>fun _ _ h=>absurd List.nil_prefix h
 |[],x::xs=>fun _ _ _=>by
  show(LY [z2] (x::xs)).dropLast=[];cases xs with
  |nil=>cases z2<;>cases x<;>simp only[LY]<;>first|rfl|(split<;>rfl)
  |cons y r=>
   simp only[LY];split
   ·cases r<;>rfl
   ·rfl
 |j::q,[x]=>fun f g h=>by
  have e:Iq [x] [] (j::q)=EC [x] [] j::q:=by
   show EC _ _ j::Iq (DJ [x] j) [] q=_;rw[Sy,IC]
  rw[e];have s:j≠x:=fun c=>h (by rw[c];exact⟨q,rfl⟩);have t:q++[z2]≠[]:=by simp
  rcases f j List.mem_cons_self with⟨i,rfl⟩|⟨k,rfl,_⟩<;>rcases g x List.mem_cons_self with⟨m,rfl⟩|⟨l,rfl,_⟩
  ·have A:(i:Int)≠m:=fun c=>s (by rw[c]);simp only[EC,HG,IB,List.cons_append,LY];by_cases c:(m:Int)<i
   ·rw[if_pos c,if_pos (by
     by_cases c2:(m:Int)<i-1
     ·exact .inl (by lia)
     ·exact .inr ⟨by lia,t⟩)]
    have d:(i:Int)-1+0+1=i:=by lia
    rw[d,<-List.cons_append,List.dropLast_concat]
   ·rw[if_neg c,if_neg (by
     rintro(c2|⟨c2,_⟩)
     ·lia
     ·lia)]
    have d:(i:Int)+0=i:=by lia
    rw[d,<-List.cons_append,List.dropLast_concat]
  ·simp only[EC,HG,IB,List.cons_append,LY];have d:(i:Int)+0=i:=by lia
   rw[d,<-List.cons_append,List.dropLast_concat]
  ·simp only[EC,List.cons_append,LY];rw[<-List.cons_append,List.dropLast_concat]
  ·simp only[EC,List.cons_append,LY];rw[<-List.cons_append,List.dropLast_concat]
 |j::q,x::y::r=>fun f g h=>by
  have e:Iq (x::y::r) [] (j::q)=j::Iq (DJ (x::y::r) j) [] q:=by
   show EC (x::y::r) [] j::Iq (DJ (x::y::r) j) [] q=_;rw[ID,FI]
  rw[e];simp only[List.cons_append,LY];by_cases c:j=x
  ·rw[if_pos c];have n:DJ (x::y::r) j=y::r:=by simp only[DJ];rw[if_pos c.symm]
   rw[n];have u:=bL z2 q (y::r) (fun z o=>f z (List.mem_cons_of_mem _ o)) (fun z o=>g z (List.mem_cons_of_mem _ o)) fun v=>h (by rw[c];exact List.cons_prefix_cons.mpr ⟨rfl,v⟩);have w:LY (Iq (y::r) [] q++[z2]) (y::r)≠[]:=by
    intro z;cases p:Iq (y::r) [] q++[z2]with
    |nil=>simp at p
    |cons a b=>
     rw[p]at z;cases r with
     |nil=>
      cases a<;>cases y<;>simp only[LY]at z<;>first|cases z|(split at z<;>cases z)
     |cons B C=>
      simp only[LY]at z;split at z<;>cases z
   rw[List.dropLast_cons_of_ne_nil w,u]
  ·rw[if_neg c];have n:DJ (x::y::r) j=[]:=by simp only[DJ];rw[if_neg (Ne.symm c)]
   rw[n,IC,<-List.cons_append,List.dropLast_concat]
theorem Pp{e x y:Dc}(w:d.Wf)(ok:d.ok)(h:d.sub a=some e)(c:e.sub [z]=some x)(sz:steps b)(nz:b≠[])(j:(d.Cc a (e.Ck z)).sub b.dropLast=some y):∃h,d.sub (CT "move" (a++[z]) b).dropLast=some h:=by
 obtain⟨f,k,g,l,m⟩:=Dc.Zs w h c j;have i:steps (a++[z]):=(Dc.Fz ok (show d.sub (a++[z])=some x by rw[Dc.sub_snoc h];exact c)).1;have n:CT "move" (a++[z]) b=LY b (a++[z]):=XC (by simp) i sz;have o:b=Iq (a++[z]) [] f++[b.getLast nz]:=by rw[<-m];exact(List.dropLast_concat_getLast nz).symm
 refine⟨k,?_⟩;rw[n,o,bL _ f _ (Dc.Fz ok g).1 i l];exact g
def VR:Dc->List Str->Prop
 | .row _ _,_=>True
 | .tab _ ks _,ys=>∃y∈ys,y∉ks
 | .leaf _,_=>False
def Open(d:Dc)(ys:List Str):Prop:=∃q e,d.sub q=some e/\VR e ys
variable{ys:List Str}
theorem Zt{e a:Dc}(q:Dc.Eqv e a)(h:VR e ys):VR a ys:=by
 cases q with
 |leaf v=>exact h
 |row _ _=>trivial
 |tab p _=>
  obtain⟨y,b,d⟩:=h;exact⟨y,b,fun c=>d (p.mem_iff.mpr c)⟩
theorem Open.eqv{d':Dc}(w:d.Wf)(a:d'.Wf)(q:Dc.Eqv d d')(h:Open d ys):Open d' ys:=by
 obtain⟨p,e,b,c⟩:=h;obtain⟨f,g,i⟩:=Dc.Eqv.sub w a q b;exact⟨p,f,g,Zt i c⟩
def Pq(d:Dc)(ys:List Str)(H:Hp)(v:V):Prop:=∃(p:Addr)(a:List V),v=.ref p/\H p=some (.tup a)/\steps a/\a≠[]/\a.length<=20/\low a/\∃e,d.sub a.dropLast=some e/\VR e ys
def DR(d:Dc)(ys:List Str)(H:Hp)(a:List V):Prop:=∀v∈a,Pq d ys H v
theorem Pq.up{H':Hp}(h:Pq d ys H v)(s:∀q xs,H q=some (.tup xs)->H' q=some (.tup xs)):Pq d ys H' v:=by
 obtain⟨p,xs,e,a,r⟩:=h;exact⟨p,xs,e,s _ _ a,r⟩
theorem DR.up{d:Dc}{ys:List Str}{H H':Hp}{a:List V}(S:DR d ys H a)(s:∀q xs,H q=some (.tup xs)->H' q=some (.tup xs)):DR d ys H' a:=fun v b=>(S v b).up s
theorem DR.open(S:DR d ys H a)(h:a≠[]):Open d ys:=by
 cases a with
 |nil=>exact absurd rfl h
 |cons v r=>
  obtain⟨p,f,_,_,_,_,_,_,e,b,c⟩:=S v List.mem_cons_self;exact⟨_,e,b,c⟩
theorem Pr{f a:Hp}{l:Addr}{ps:List Addr}(s:AF f a)(g:f l=some (.lst b))(S:DR d ys f b)(new:∀q∈ps,Pq d ys a (.ref q)):DR d ys (upd a l (.lst (b++ps.map V.ref))) (b++ps.map V.ref):=by
 have k:∀(q:Addr)(e:List V),a q=some (.tup e)->upd a l (.lst (b++ps.map V.ref)) q=some (.tup e):=fun q e h=>by
  rw[AN (Es h (s _ _ g) (by intro z;cases z))];exact h
 intro v c;rcases List.mem_append.mp c with c|c
 ·exact(S v c).up fun q e h=>k _ _ (s _ _ h)
 ·obtain⟨q,i,rfl⟩:=List.mem_map.mp c;exact(new q i).up k
theorem TK{ks:List Str}{xs:List Dc}(l:ks.length=xs.length)(k:Str):(Cw (Dc.kvs ks xs) (Sum.inr k)).isSome=decide (k∈ks):=by
 rw[Dc.FE l];by_cases c:k∈ks
 ·obtain⟨x,a,_⟩:=Dc.C_ l c;rw[a,decide_eq_true c];rfl
 ·cases h:(ks.zip xs).lookup k with
  |none=>rw[decide_eq_false c];rfl
  |some x=>exact absurd (Dc.Ad h).1 c
def GP:Sp:=fun e H Q _=>∃(d:Dc)(n:Addr)(a:List Str),e=[d.val,.ref n]/\d.At H/\d.ok/\d.size<=16/\H n=some (.lst (a.map V.str))/\a.length<=6/\(∀y∈a,Bn y=true)/\
 ∀(l:Addr)(b:List V)(c:Hp),AF H c->c l=some (.lst b)->b.length<=600->DR d a c b->(Open d a->b≠[])->Q (.ref l) c
def Jz:Sp:=fun h H Q _=>∃(d:Dc)(a t:Addr)(c:List V)(f:V)(e x:Dc),h=[d.val,.ref a]/\d.At H/\d.ok/\d.size<=16/\H a=some (.tup [.str "take",.ref t])/\H t=some (.tup (c++[f]))/\(∀z∈c++[f],Dc.Bi z)/\d.sub c=some e/\e.sub [f]=some x/\
 ∀(b:Dc)(g:Hp),AF H g->b.At g->b.ok->b.size<=d.size->Dc.Eqv (d.Cc c (e.Ck f)) b->Q b.val g
theorem DA.up{H H':Hp}{v:V}{b n:Nat}(h:DA H v b n)(s:AF H H'):DA H' v b n:=by
 obtain⟨D,a,c⟩:=h;exact⟨D,a.up s,c⟩
def Gg(xs:List V):Prop:=∀z∈xs,∀i:Int,z=.int i->i.natAbs<2000
theorem Gg.of(h:low xs):Gg xs:=fun z a i e=>Nat.lt_trans (h z a i e) (by decide)
theorem HJ{H:Hp}:∀{xs:List V},steps xs->Gg xs->Ed H xs (9*xs.length) 0
 |[],_,_=>Ed.nil
 |x::xs,s,l=>by
  have t:=HJ (H:=H) (xs:=xs) (fun z a=>s z (List.mem_cons_of_mem _ a)) fun z a=>l z (List.mem_cons_of_mem _ a);have h:DA H x 8 0:=by
   rcases s x List.mem_cons_self with⟨k,e⟩|⟨k,e,b⟩
   ·have:=l x List.mem_cons_self _ e;rw[e];exact(DA.int (Nat.lt_of_lt_of_le this (Nat.le_trans (show 2000<=2 ^ 11 by decide) (Nat.pow_le_pow_right (by decide) (by decide))))).mono (Nat.zero_le _) (Nat.le_refl _)
   ·rw[e];exact .str (Mb b) (MF b).2
  exact(Ed.cons h t).mono (by simp only[List.length_cons];lia) (Nat.le_refl _)
structure Ry(H:Hp)(r:V)(w:Str)(xs zs:List V)(p:Addr):Prop where
 rx:Rx H r w xs zs p
 lx:xs.length<=20
 lz:zs.length<=20
 ho:∃(a:Addr)(rest:List V),r=.ref a/\H a=some (.tup (.str w::.ref p::rest))/\rest.length<=1/\(w="take"∨w="has"∨w="lacks"->rest=[])
 fin:DA H r 640 21
theorem Ry.up{H H':Hp}{r:V}{w:Str}{xs b:List V}{p:Addr}(h:Ry H r w xs b p)(s:AF H H'):Ry H' r w xs b p:=by
 obtain⟨c,d,f,⟨a,rest,e,g,i⟩,j⟩:=h;exact⟨c.up s,d,f,⟨a,rest,e,s _ _ g,i⟩,j.up s⟩
def Zu(H:Hp)(rest:List V):Prop:=rest=[]∨∃v,rest=[v]/\DA H v 440 20
theorem JW{a:Addr}{rest:List V}(c:H a=some (.tup (.str w::.ref p::rest)))(d:H p=some (.tup xs))(e:steps xs)(i:xs.length<=20)(j:Gg xs)(f:w∈DH)(nx:w="put"∨w="lacks"∨w="take"∨w="move"->xs≠[])(g:Zu H rest)(k:w="take"∨w="has"∨w="lacks"->rest=[])(T:Fo H w b rest)(sz:steps b)(lz:b.length<=20)(nz:w="copy"∨w="move"->b≠[]):Ry H (.ref a) w xs b p:=by
 have l1:rest.length<=1:=by
  rcases g with rfl|⟨v,rfl,_⟩<;>simp
 refine⟨⟨⟨⟨a,rest,rfl,c,T.cm⟩,d,e,sz,by lia,by lia,f,nx,nz⟩,a,rest,rfl,c,T⟩,i,lz,⟨a,rest,rfl,c,l1,k⟩,?_⟩;have l:Ed H rest 441 20:=by
  rcases g with rfl|⟨v,rfl,h⟩
  ·exact Ed.nil.mono (Nat.zero_le _) (Nat.le_refl _)
  ·exact Ed.cons h Ed.nil
 have m:=DA.tup d (HJ (H:=H) e j);have o:=Ed.cons (Wm (H:=H) f (n:=20)) (Ed.cons (m.mono (Nat.le_refl _) (show 0+1<=20 by decide)) l);exact(DA.tup c o).mono (by lia) (by decide)
theorem Uu(h:H p=some (.tup xs))(s:steps xs)(l:xs.length<=20)(lo:Gg xs):Zu H [.ref p]:=.inr ⟨_,rfl,(DA.tup h (HJ s lo)).mono (by lia) (by decide)⟩
theorem GQ(h:d.At H)(ok:d.ok)(z:d.size<=19):Zu H [d.val]:=by
 obtain⟨b,a,f⟩:=Dc.fin d ok h;exact .inr ⟨_,rfl,f.mono (by lia) (by lia)⟩
theorem Fb{a:Addr}(d:H a=some (.tup [.str w,.ref p]))(e:H p=some (.tup xs))(f:steps xs)(g:xs.length<=20)(i:Gg xs)(b:w∈(["take","has","lacks"]:List Str))(nx:w≠"has"->xs≠[]):Ry H (.ref a) w xs [] p:=by
 have j:w∈DH:=by
  simp only[List.mem_cons,List.not_mem_nil,or_false]at b;rcases b with rfl|rfl|rfl<;>decide
 refine JW d e f g i j (fun h=>nx fun c=>?_) (.inl rfl) (fun _=>rfl) (Fo.no b) (fun z k=>nomatch k) (by decide) (fun h=>?_)
 ·subst c;revert h;decide
 ·simp only[List.mem_cons,List.not_mem_nil,or_false]at b;rcases b with rfl|rfl|rfl<;>(revert h;decide)
theorem RV{a:Addr}{v:Dc}(d:H a=some (.tup [.str "put",.ref p,v.val]))(e:H p=some (.tup xs))(f:steps xs)(g:xs.length<=20)(i:Gg xs)(nx:xs≠[])(b:v.At H)(c:v.ok)(j:v.size<=2)(k:DK v):Ry H (.ref a) "put" xs [] p:=
 JW d e f g i (by decide) (fun _=>nx) (GQ b c (by lia)) (fun h=>absurd h (by decide)) (Fo.val (.inl rfl) b c j k) (fun z l=>nomatch l) (by decide) fun h=>absurd h (by decide)
theorem Mk{a:Addr}(g:H a=some (.tup [.str w,.ref p,.ref f]))(i:H p=some (.tup xs))(c:H f=some (.tup b))(d:w="copy"∨w="move")(j:steps xs)(k:xs.length<=20)(l:Gg xs)(nx:w="move"->xs≠[])(sz:steps b)(lz:b.length<=20)(e:Gg b)(nz:b≠[]):Ry H (.ref a) w xs b p:=by
 refine JW g i j k l (by rcases d with rfl|rfl<;>decide) (fun h=>nx ?_) (Uu c sz lz e) (fun h=>?_) (Fo.two d c) sz lz fun _=>nz
 ·rcases d with rfl|rfl
  ·revert h;decide
  ·rfl
 ·rcases d with rfl|rfl<;>exact absurd h (by decide)
theorem dY{a:Addr}{v:Dc}(d:H a=some (.tup [.str "ask",.ref p,v.val]))(e:H p=some (.tup xs))(f:steps xs)(g:xs.length<=20)(i:Gg xs)(b:v.At H)(c:v.ok)(j:v.size<=19):Ry H (.ref a) "ask" xs [] p:=
 JW d e f g i (by decide) (fun h=>absurd h (by decide)) (GQ b c j) (fun h=>absurd h (by decide)) (Fo.ask b c (by lia)) (fun z k=>nomatch k) (by decide) fun h=>absurd h (by decide)
def Mv(d:Dc)(ys:List Str)(w:Str)(xs c:List V):Prop:=w="move"->(∃a b e x,xs=a++[b]/\d.sub a=some e/\e.sub [b]=some x/\Open (d.Cc a (e.Ck b)) ys)/\∃h,d.sub (CT w xs c).dropLast=some h
theorem Mv.no(h:w≠"move"):Mv d ys w xs a:=fun c=>absurd c h
def Ml:Sp:=fun h H Q _=>∃(w:Str)(t:Addr)(c:Int)(d:Dc)(n:Addr)(g:List V)(e:Dc)(f:List Str),h=[.str w,.ref t,.int c,d.val,.ref n]/\(w="ask"∨w="is"∨w="has")/\H t=some (.tup g)/\steps g/\d.At H/\d.ok/\d.size<=16/\d.sub g=some e/\H n=some (.lst (f.map V.str))/\f.length<=6/\0<f.length/\(∀y∈f,Bn y=true)/\
 ∀(a:Addr)(rest:List V)(b:Hp),AF H b->b a=some (.tup (.str w::.ref t::rest))->Fo b w [] rest->Zu b rest->(w="has"->rest=[])->Q (.ref a) b
def JA:Sp:=fun g H Q _=>∃(c:Int)(d:Dc)(n:Addr)(a:List Str),g=[.int c,d.val,.ref n]/\d.At H/\d.ok/\d.size<=16/\H n=some (.lst (a.map V.str))/\a.length<=6/\0<a.length/\(∀y∈a,Bn y=true)/\
 ∀(r:V)(w:Str)(b e:List V)(p:Addr)(f:Hp),AF H f->Ry f r w b e p->low b->low e->Mv d a w b e->Q r f
def Zv(_:Str):Prop:=True
def iE(w:Str):Prop:=w="move"
def JB(g:Str->Prop):Sp:=fun k H Q _=>∃(c:Int)(r:V)(d:Dc)(n:Addr)(a:List Str)(w:Str)(b e:List V)(p:Addr),k=[.int c,r,d.val,.ref n]/\g w/\Ry H r w b e p/\low b/\low e/\Mv d a w b e/\d.At H/\d.ok/\d.size<=16/\H n=some (.lst (a.map V.str))/\a.length=6/\(∀y∈a,Bn y=true)/\
 ∀(j:V)(l:Str)(f h:List V)(m:Addr)(i:Hp),AF H i->Ry i j l f h m->Q j i
def Pu:Sp:=fun i H Q _=>∃(c:Int)(r:V)(n:Addr)(a:List Str)(w:Str)(f g:List V)(p:Addr),i=[.int c,r,.ref n]/\Ry H r w f g p/\low f/\low g/\H n=some (.lst (a.map V.str))/\a.length=6/\(∀y∈a,Bn y=true)/\
 ∀(h:V)(j:Str)(b d:List V)(k:Addr)(e:Hp),AF H e->Ry e h j b d k->Q h e
def XX(K:vA):Sp:=fun h H Q _=>∃(a:Addr)(i:List Int)(k:Nat)(d:Dc)(n:Addr)(c:List Str),h=[.ref a,.int (k:Int),d.val,.ref n]/\Ay K H a (i.map V.int)/\d.At H/\d.ok/\d.size<=16/\H n=some (.lst (c.map V.str))/\c.length=6/\(∀y∈c,Bn y=true)/\
 ∀(t:Addr)(r:V)(w:Str)(j l:List V)(p:Addr)(g:V)(m:Str)(e f:List V)(o:Addr)(b:Hp),AF H b->b t=some (.tup [r,g])->Ry b r w j l p->Ry b g m e f o->Q (.ref t) b
def Mm:Sp:=fun e H Q _=>∃(r:V)(w:Str)(f g:List V)(p:Addr)(c:V)(h:Str)(a b:List V)(i:Addr),e=[r,c]/\Ry H r w f g p/\Ry H c h a b i/\∀d,AF H d->Q (.bl true) d
def Nn(c:Nat->Addr):Sp:=fun j H _ E=>∃(r:V)(w:Str)(f g:List V)(p:Addr)(h:V)(i:Str)(a b:List V)(k:Addr)(first:Bool),j=[r,h,.bl first]/\Rw H r w f g p/\Rw H h i a b k/\CV w f g i a b=true/\
 ∀d e,AF H e->e d=some (RM d [("other",.int 0),("at",.int 0)])->E (.ref (c 6)) (some d) e
def Mn:Sp:=fun h H Q _=>∃(r:V)(w:Str)(c d:List V)(p:Addr)(e:V)(f:Str)(a b:List V)(i:Addr)(first:Bool),h=[r,e,.bl first]/\Rw H r w c d p/\Rw H e f a b i/\CV w c d f a b=true/\∀g,AF H g->Q (.bl true) g
def mE(K:vA)(c:Nat->Addr)(a b:Addr):Bool:=EW K a&&(mB K (c 6)&&(EW K (c 6)&&(subIn K (c 6) a&&((List.range 7).all (fun j=>PySem.W.kitOne K (.ref (c 6)) (.ref (c j))==some (j==6))&&(Ng K (c 6) b&&(jf K (c 6) "at"&&(jg K (c 6) "at"&&(jf K (c 6) "other"&&jg K (c 6) "other"))))))))
structure Kc(K:vA)(c:Nat->Addr)(cB fC:Addr):Prop where
 Ie:EW K cB=true
 rY:JV K (c 6)
 ex:EW K (c 6)=true
 sub:subIn K (c 6) cB=true
 one:∀j,j<7->PySem.W.kitOne K (.ref (c 6)) (.ref (c j))=some (j==6)
 own:Ng K (c 6) fC=true
 sk:Lh K (c 6) "at"
 gk:XN K (c 6) "at"
 rZ:Lh K (c 6) "other"
 rg:XN K (c 6) "other"
theorem Kc.of{K:vA}{c:Nat->Addr}{a b:Addr}(h:mE K c a b=true):Kc K c a b:=by
 simp only[mE,Bool.and_eq_true,beq_iff_eq,List.all_eq_true,List.mem_range]at h;obtain⟨d,e,f,g,i,k,l,m,n,o⟩:=h;exact⟨d,.of e,f,g,fun j p=>i j p,k,.of l,.of m,.of n,.of o⟩
theorem Pw(c:low xs)(a:low b):Gg (CT w xs b):=by
 unfold CT;split
 ·exact .of a
 ·split
  ·unfold CD;split
   ·rename_i i j d f
    split
    ·intro z h k e;rcases List.mem_or_eq_of_mem_set h with h|h
     ·exact Gg.of a z h k e
     ·have:=a _ (u_ d) _ rfl;rw[h]at e;cases e;lia
    ·exact .of a
   ·exact .of a
  ·exact .of c
theorem XY{n:Nat}(b:xs.length<=n)(lz:a.length<=n):(CT w xs a).length<=n:=by
 unfold CT;split
 ·exact lz
 ·split
  ·rw[Cd];exact lz
  ·exact b
theorem XZ:Dc.At H (.leaf (.int 7))/\Dc.ok (.leaf (.int 7))/\DK (.leaf (.int 7)):=by
 refine⟨.inl ⟨7,rfl⟩,.inl ⟨7,rfl,Nat.lt_of_lt_of_le (show 7<2 ^ 3 by decide) (Nat.pow_le_pow_right (by decide) (by decide))⟩,fun t y h=>?_⟩;cases t with
 |nil=>
  rw[Dc.BS]at h;cases h;rintro⟨i,e,a⟩;cases e;exact absurd a (by decide)
 |cons z r=>cases z<;>simp[Dc.sub]at h
theorem EH.split{ys:List V}(h:EH H v ys):∃(t h:Addr)(b:List V)(l:V),v=.ref t/\H t=some (.tup [.ref h,l])/\H h=some (.tup b)/\ys=b++[l]:=by
 obtain⟨t,a,l,rfl,c,d,e⟩:=h;exact⟨t,a,_,l,rfl,c,d,EY e⟩
theorem Uv{k:Str}{l f g:List V}(o:w∈DH)(h:CV w xs l k f g=false):∃m ws,IH w xs l k f g fi=some (m,ws):=by
 unfold IH;by_cases a:w="put"
 ·obtain⟨c,i⟩:=EO (fi:=fi) (by rw[a];decide) h;rw[if_pos a,i];exact⟨_,_,rfl⟩
 rw[if_neg a];by_cases b:w="lacks"
 ·obtain⟨q,p⟩:=ED (n:=xs.dropLast) h (by unfold BU nB;rw[if_pos b];simp);rw[if_pos b,p];exact⟨_,_,rfl⟩
 rw[if_neg b];obtain⟨r,j⟩:=ED (n:=xs) h (by
  have:Cm (.str w) NV=true:=by
   rw[<-Ip o,show Cm (.str w) [.str "put",.str "lacks"]=false from Bool.eq_false_iff.mpr fun z=>(la.mp z).elim a b];rfl
  unfold BU nA;rw[if_pos this];simp)
 rw[j];show∃m ws,(if w="move"then _ else _)=_;by_cases d:w="move"
 ·obtain⟨c,i⟩:=EO (fi:=fi) (by rw[d];decide) h;rw[if_pos d,i];exact⟨_,_,rfl⟩
 rw[if_neg d];by_cases e:w="copy"
 ·obtain⟨c,i⟩:=EO (fi:=fi) (by rw[e];decide) h;rw[if_pos e,i];exact⟨_,_,rfl⟩
 rw[if_neg e];exact⟨_,_,rfl⟩
theorem RW(w:Str)(xs c:List V)(d:Str)(a b:List V):CV w xs c d a b=CV d a b w xs c:=Bool.or_comm _ _
inductive mF(H:Hp)(d:Bool)(u v:V):Prop
 |mk(w:Str)(xs e:List V)(p:Addr)(f:Str)(a b:List V)(g:Addr)(h:Ry H u w xs e p)(h':Ry H v f a b g)(c:CV w xs e f a b=d)
theorem Uw{r c:V}(h:DA H r 640 21)(h':DA H c 640 21):∃D:PyData,D.showable=true/\D.shown.length<=sizeLine/\D.depth<=100/\∀(H':Hp)(t:Addr),AF H H'->H' t=some (.tup [r,c])->Fn H' (.ref t) D:=by
 obtain⟨a,d,e,f,l,m⟩:=h;obtain⟨b,g,i,j,n,o⟩:=h';have ls:(PyData.tuple [a,b]).leavesShort 2000=true:=by simp[PyData.leavesShort,PyData.leavesShortAll,f,j]
 have bk:(PyData.tuple [a,b]).bulk<=1300:=by simp only[PyData.bulk,PyData.bulkAll];lia
 refine⟨.tuple [a,b],by simp[PyData.showable,PyData.showableAll,e,i],?_,by simp only[PyData.depth,PyData.depthAll];lia,fun H' t s k=>.tup k (.cons (d.up s) (.cons (g.up s) .nil))⟩;have:=PyData.shown_le_bulk 2000 (by decide) _ ls;have z:(2000+2)*(PyData.tuple [a,b]).bulk<=(2000+2)*1300:=Nat.mul_le_mul (Nat.le_refl _) bk;exact Nat.le_trans (show(PyData.tuple [a,b]).shown.length<=2700000 by lia) (by decide)
theorem Xa{ss:List Stmt}:Lr X ss bK:=fun _ _ _ _ _ _ h=>h.elim
theorem Py{o:HO}(h:H p=none):∃H',upd H p o=H'/\AF H H'/\H' p=some o:=⟨_,rfl,AF.new h,AB⟩
theorem BZ.mm{j k:Nat}(r:BZ k A)(h:j<=k:=by first|decide|omega):BZ j A:=r.mono h
theorem Bx(K:vA)(i:Nat){y:_}{b c:Pos}(d:X.N[i]?=some x:=by rfl)(f:fU X.env.scope x:=by first|exact Or.inl rfl|exact Or.inr (Or.inl rfl)|exact Or.inr (Or.inr rfl))(g:(x==("__debug__":Str))=false:=by decide)(a:(x==("__classdict__":Str))=false:=by decide)(e:X.K=K:=by rfl):PE X (.Subscript (.Name x b) (.Constant (.int j) y c) pos) (e_ (EF K) (bc i) (tC (.int j))):=by
 subst e;exact CN By (pv i d f g a) AG (fun _ _=>rfl)
variable{e:Expr}
theorem Ac(i:Nat){a:TE}{pos':Pos}(b:X.N.Nodup)(c:PE X e a)(d:X.N[i]?=some x:=by rfl)(f:Loc X.env.scope x:=by exact Or.inl rfl)(g:swapsWith e (some (.Name x pos')) pos.line X.env=pure false:=by rfl)(h:X.fn x=true∨X.env.scope.names.lookup x=some .local:=by first|exact .inl rfl|exact .inr rfl|assumption):
  PS X (.Assign [.Name x pos'] e pos) (bj a (Bm i)):=IX b d f c g h
theorem Cj{x y:V}:[x,y,z].length<=sizeLine:=Ap (show 3<=1000 by decide)
theorem EZ(i:Nat)(a:X.N.Nodup)(b:X.N[i]?=some x:=by rfl)(c:Loc X.env.scope x:=by exact Or.inl rfl)(d:X.fn x=true∨X.env.scope.names.lookup x=some .local:=by first|exact .inl rfl|exact .inr rfl|assumption):PG X (.Name x pos) (Bm i):=FP a b c d
section
variable{P:Program} {w:World} {K:vA} {mg:Str->Option Value} {base:Heap}
theorem CL.oq{d:FuncData}{k:Nat}(F:CL K x qual st f d)(S:AU N ps (AL st))(a:∀(b:Value) (A:Around) (outer:List Env) (s:Shared) (H:Hp) (c:List V) (Q:VK) (E:XK),BZ k (A.deeper (envOfC qual (AL st) s.heap.objs.size f b))->sp c H Q E->
   ∃t,Lr (La CP P w K mg base N qual (AL st) f b A outer s H E).eg (DC st) t/\t {nx:=fun _ e=>Q .As e,rt:=Q} (start N c) H)(len:∀c H Q E,sp c H Q E->c.length=ps.length:=by intro _ _ _ _ h;first|(obtain⟨⟩:=h;subst_vars;rfl)|(repeat obtain⟨_,h⟩:=h);subst_vars;rfl):Av P w K mg base CP (k+1) f d ps sp:=F.ok S len a
end
theorem Al{k:Nat}{p:Pos}{a:List Expr}{t:TA}(D:Df X.prog X.w X.K X.mg X.base x ps k sp)(g:BZ k X.A)(h:PA X (e::a) t)(i:Gl X x:=by rfl)(c:(x==("__debug__":Str))=false:=by decide)(j:starEach (e::a) X.env=(false,eval e X.env)::starEach a X.env:=by rfl)(d:(backTo pos (starEach a X.env)).any (·.1)=false:=by rfl):PE X (.Call (.Name x p) (e::a) [] pos) (au sp [] E0 t):=by
 obtain⟨f,l,k,b,m,G⟩:=D.ex;exact Ym G g i m k b .nil gX h c j d
theorem AO{a:TE}(h:PE X e a)(b:starEach [e] X.env=(false,eval e X.env)::starEach [] X.env:=by rfl):PA X [e] (Vg a bz):=AA h CH b
theorem LI(K:vA){a b:Expr}{c d:TE}(f:PE X a c)(g:PE X b d)(h:SW b:=by exact fun _ _=>rfl)(e:X.K=K:=by rfl):PE X (.Subscript a b pos) (e_ (gK K) c d):=by
 subst e;exact CN Yq f g h
theorem fK{o i:Expr}{a ty:TE}(b:X.A.units+1<cLine)(c:PE X o a)(d:PE X i ty)(e:cP i:=by exact fun _ _=>rfl):PE X (.Subscript o i pos) (ay a ty):=Yx b c d e
theorem cmp{b:Pos}{iter a:Expr}{c:TI}{d:TE}(fv:List Str)(fs:List Nat)(e:PI X (.Name x b) iter c)(f:∀C g h i,PE (EJ X (x::fv) scope C g h i) a d)(j:X.calm=true:=by rfl)(ok:Di X scope x fv fs:=by exact .of (by rfl))(k:∀x,foldedSetIterable iter X.env x=pure x:=by intro _;rfl):PE X (.ListComp a [⟨.Name x b,iter,[],0⟩] scope pos) (Oq c UC d fs):=Se j ok e (fun _ _ _ _=>Sd) f k
theorem DS{a:TE}{p:Pos}(c:X.mg "len"=none)(h:PE X e a)(d:Gl X "len":=by rfl)(b:starEach [e] X.env=(false,eval e X.env)::starEach [] X.env:=by rfl):PE X (.Call (.Name "len" p) [e] [] pos) (ke (DN X.K) (Vg a bz)):=Aa FT d c PySem.boot_len (AA h CH b) (by decide) (by decide) b
theorem VS{a iter:Expr}{body:List Stmt}{b:TI}{g:TG}{c:TS}(d:PI X a iter b)(e:PG X a g)(f:Lr X body c)(h:PassesOwn (model X.prog X.w) X.A X.env X.xe:=by exact PassesOwn.never)(i:X.calm=true:=by rfl)(j:∀x,foldedSetIterable iter X.env x=pure x:=by intro _;rfl):PS X (.For a iter body [] pos) (f' b g c):=bq h i d e f j
theorem rh{c:Bool}{A B:Prop}(h:B)(a:c=false:=by decide+kernel):if c=true then A else B:=Af a h
theorem ri{c:Bool}{A B:Prop}(h:A)(a:c=true:=by decide+kernel):if c=true then A else B:=BL a h
inductive FA(K:vA)(x:Str)(st:Stmt):Prop
 |mk(f:Addr)(b:FuncData)(F:CL K x x st f b)(a:PySem.W.nsIn K mainGlobals x=some (some (.ref f)))
theorem fa{e:Value}{od g:Option Addr}{d:Array (Option Value)}{kV doc h b ct:Value}(a:PySem.W.nsIn K mainGlobals x=some (some (.ref f)))(l:K.lookup f=some ⟨e,od,.func (PySem.W.fnOf x x (EK st) (DC st) (AL st) .none kV doc h g b ct),d⟩)(c:PySem.W.codeIn K b x=true)(k:PySem.W.keepIn K (.ref f)=true):FA K x st:=⟨_,_,Qp l c k,a⟩
end L2
namespace BF
open PySem L2
def top(i:Nat):Stmt:=PySem.Challenge.pw_patchbough_k83_which_rows_clash.main.body.getD i (.Pass ⟨0,0,0,0⟩)
abbrev LJ:Stmt:=top 1
abbrev HK:Stmt:=top 2
abbrev Np:Stmt:=top 3
abbrev Nq:Stmt:=top 14
abbrev Nr:Stmt:=top 18
abbrev LK:Stmt:=top 19
abbrev RY:Stmt:=top 20
abbrev LL:Stmt:=top 21
abbrev HL:Stmt:=top 22
abbrev HM:Stmt:=top 23
abbrev Ea:Stmt:=top 24
abbrev LM:Stmt:=top 25
abbrev RZ:Stmt:=top 26
abbrev Xb:Stmt:=top 27
abbrev Nt:Stmt:=top 28
abbrev Fc:Stmt:=top 29
abbrev GR:Stmt:=top 30
abbrev Ra:Stmt:=top 31
abbrev HN:Stmt:=top 33
abbrev GS:Stmt:=top 34
abbrev EI:Stmt:=top 35
abbrev GU:Stmt:=top 36
abbrev JC:Stmt:=top 37
abbrev GV:Stmt:=top 38
abbrev HP:Stmt:=top 39
abbrev HQ:Stmt:=top 40
abbrev Eb:Stmt:=top 41
abbrev LN:Stmt:=top 42
abbrev GW:Stmt:=top 43
abbrev Er:Stmt:=top 44
abbrev TL:Stmt:=top 45
abbrev Xc:Stmt:=top 47
abbrev Zw:Stmt:=top 48
abbrev Rb:Stmt:=top 49
abbrev Xd:Stmt:=top 50
abbrev Xe:Stmt:=top 51
abbrev dZ:Stmt:=top 52
abbrev TM:Stmt:=top 53
abbrev Rc:Stmt:=top 54
abbrev Xf:Stmt:=top 55
abbrev Nu:Stmt:=top 56
abbrev Rf:Stmt:=top 57
abbrev Rg:Stmt:=top 58
abbrev Nv:Stmt:=top 59
abbrev Nw:Stmt:=top 60
abbrev da:Stmt:=top 61
abbrev Xg:Stmt:=top 62
abbrev Rh:Stmt:=top 63
abbrev Nx:Stmt:=top 64
abbrev Ri:Stmt:=top 65
abbrev Ny:Stmt:=top 66
abbrev Rj:Stmt:=top 67
abbrev LO:Stmt:=top 68
abbrev Nz:Stmt:=top 69
abbrev LP:Stmt:=top 70
abbrev JD:Stmt:=top 71
abbrev Xh:Stmt:=top 72
abbrev LQ:Stmt:=top 73
abbrev N_:Stmt:=top 74
abbrev OA:Stmt:=top 75
abbrev Xi:Stmt:=top 76
abbrev II:Stmt:=top 77
abbrev Rl:Stmt:=top 78
abbrev OB:Stmt:=top 79
abbrev Dw:Stmt:=inClass (top 10) 0
inductive iF{a:Type}(c d:a->Prop):Prop
 |mk(b:a)(e:c b)(f:d b)
inductive iG{c d:Type}(e f g h i j k l m:c->d->Prop):Prop
 |mk(a:c)(b:d)(n:e a b)(o:f a b)(p:g a b)(q:h a b)(r:i a b)(s:j a b)(t:k a b)(u:l a b)(v:m a b)
inductive dc{d e f:Type}(h i j k l m n o p q g:d->e->f->Prop):Prop
 |mk(a:d)(b:e)(c:f)(s:h a b c)(t:i a b c)(u:j a b c)(v:k a b c)(w:l a b c)(x:m a b c)(y:n a b c)(z:o a b c)(A:p a b c)(B:q a b c)(r:g a b c)
inductive iH{a b c d:Type}(i j k l:a->b->c->d->Prop):Prop
 |mk(e:a)(f:b)(g:c)(h:d)(m:i e f g h)(n:j e f g h)(o:k e f g h)(p:l e f g h)
end BF
namespace BF
open PySem L2
section
variable{P:Program} {w:World} {K:vA} {mg:Str->Option Value} {base:Heap}
theorem Pz:AU ["self","at","other"] ["self","at","other"] (AL Dw):={}
theorem OC{C f:Addr}{b:FuncData}(F:CL K "__init__" "Clash.__init__" Dw f b)(k:Lh K C "at")(k2:Lh K C "other"):Av P w K mg base CP 1 f b ["self","at","other"] (Jx C):=by
 refine F.oq Pz fun e A outer s H m Q E n h=>?_
 ·obtain⟨c,i,j,rfl,g,q⟩:=h;refine⟨_,(AD (XJ rfl (pv 0) (pv 1) rfl) (AE (XM (pv 0) (pv 2) rfl))),?_⟩;exact⟨_,rfl,_,rfl,c,C,rfl,g,k,fun d l a=>⟨_,rfl,_,rfl,c,C,d,_,rfl,by rw[AN (Ne.symm a),AB],AB,a,(by simp),k2,q d l a⟩⟩
end
end BF
namespace BF
open PySem L2
section
variable{P:Program} {w:World} {K:vA} [A_ K] {mg:Str->Option Value} {base:Heap}
theorem Mo:AU ["doc"] ["doc"] (AL LJ):={}
theorem Rn{f:Addr}{l:FuncData}(F:CL K "steps_of" "steps_of" LJ f l)(T:Txt mg):Av P w K mg base CP 1 f l ["doc"] Sq:=by
 refine F.oq Mo fun m A outer s H u Q E g h=>?_
 ·obtain⟨d,rfl,b,e,i,q⟩:=h;have nd:=Mo.nd;have x:=An g;refine⟨_,(AD (AX (Ag (Aa Ao rfl T.isinstance AS (AA (pv 0) (AO (BG (v:=.ty "list") rfl T.list Dn rfl))))) (AE (AH (Cq (Ld rfl) rfl T.list Dn (AO (WV rfl T.range (AO (DS T.len (pv 0)))))))) AK) (AD (AX (Ag (Aa Ao rfl T.isinstance AS (AA (pv 0) (AO (BG (v:=.ty "dict") rfl T.dict En rfl))))) (AE (AH (Aa (Hk rfl) rfl T.sorted PB (AO (pv 0))))) AK) (AE (AH (BB CH))))),?_⟩;cases d with
  |leaf v=>
   refine⟨_,rfl,_,"list",Dc.MH (.leaf v),rfl,rfl,Dc.Fm b,_,rfl,Af (by cases v<;>rfl) ?_⟩;refine⟨_,rfl,_,"dict",Dc.MH (.leaf v),rfl,rfl,Dc.Fm b,_,rfl,Af (by cases v<;>rfl) ?_⟩;exact⟨Nat.zero_le _,fun p c=>q p [] _ (AF.new c) c AB rfl⟩
  |row a xs=>
   refine⟨_,rfl,_,"list",_,rfl,rfl,Dc.Fm b,_,rfl,BL rfl ?_⟩;simp only[Dc.At]at b;simp only[Dc.size]at i;have:=Dc.Gv xs;refine⟨_,rfl,a,_,rfl,.inl (.inl b.1),_,rfl,fun r g=>?_⟩;refine⟨r,xs.length,rfl,by rw[AB,List.length_map],by omega,fun p c=>?_⟩;exact q p _ _ ((AF.new g).trans (AF.new c)) ((AF.new g).free c) AB rfl
  |tab a ks xs=>
   refine⟨_,rfl,_,"list",_,rfl,rfl,Dc.Fm b,_,rfl,Af rfl ?_⟩;refine⟨_,rfl,_,"dict",_,rfl,rfl,Dc.Fm b,_,rfl,BL rfl ?_⟩;simp only[Dc.At]at b;simp only[Dc.slim]at e;have kk:=Dc.EA (ks:=ks) (xs:=xs) b.2.1;have n:(Dc.kvs ks xs).length=ks.length:=by
    have:=congrArg List.length kk;simpa using this
   exact⟨_,rfl,a,_,ks,rfl,b.1,kk,by rw[n,b.2.1];exact e.1,fun p j o t s c perm k=>q p _ o s t c ⟨j,rfl,perm,k⟩⟩
end
end BF
namespace BF
open PySem L2
section
variable{P:Program} {w:World} {K:vA} [A_ K] {mg:Str->Option Value} {base:Heap}
theorem JX:AU ["doc"] ["doc"] (AL HK):={}
theorem OD{f:Addr}{c:FuncData}(F:CL K "outer_copy" "outer_copy" HK f c)(T:Txt mg):Av P w K mg base CP 1 f c ["doc"] Ss:=by
 refine F.oq JX fun e A outer s H j Q E g h=>?_
 ·obtain⟨d,rfl,b,q⟩:=h;have nd:=JX.nd;have k:=An g;refine⟨_,(AD (AX (Ag (Aa Ao rfl T.isinstance AS (AA (pv 0) (AO (BG (v:=.ty "list") rfl T.list Dn rfl))))) (AE (AH (Cq HY rfl T.list Dn (AO (pv 0))))) AK) (AD (AX (Ag (Aa Ao rfl T.isinstance AS (AA (pv 0) (AO (BG (v:=.ty "dict") rfl T.dict En rfl))))) (AE (AH (Cq Kr rfl T.dict En (AO (pv 0))))) AK) (AE (AH (pv 0))))),?_⟩;cases d with
  |leaf v=>
   refine⟨_,rfl,_,"list",Dc.MH (.leaf v),rfl,rfl,Dc.Fm b,_,rfl,Af (by cases v<;>rfl) ?_⟩;refine⟨_,rfl,_,"dict",Dc.MH (.leaf v),rfl,rfl,Dc.Fm b,_,rfl,Af (by cases v<;>rfl) ?_⟩;exact⟨_,rfl,q⟩
  |row a i=>
   refine⟨_,rfl,_,"list",_,rfl,rfl,Dc.Fm b,_,rfl,BL rfl ?_⟩;simp only[Dc.At]at b;exact⟨_,rfl,a,_,rfl,.inl (.inl b.1),q⟩
  |tab a l i=>
   refine⟨_,rfl,_,"list",_,rfl,rfl,Dc.Fm b,_,rfl,Af rfl ?_⟩;refine⟨_,rfl,_,"dict",_,rfl,rfl,Dc.Fm b,_,rfl,BL rfl ?_⟩;simp only[Dc.At]at b;exact⟨_,rfl,a,_,rfl,b.1,q⟩
end
end BF
namespace BF
open PySem L2
section
variable{P:Program} {w:World} {K:vA} [A_ K] {mg:Str->Option Value} {base:Heap}
theorem P_:AU ["doc","told","waiting","part","steps","step"] ["doc"] (AL Np):={}
theorem Ux{f:Addr}{fd:FuncData}(F:CL K "copy_of" "copy_of" Np f fd)(T:Txt mg)(Xj:Df P w K mg base "steps_of" ["doc"] 1 Sq)(B:Df P w K mg base "outer_copy" ["doc"] 1 Ss):Av P w K mg base CP 2 f fd ["doc"] PM:=by
 refine F.oq P_ fun Ic A outer s H R Q E hr h=>?_
 ·obtain⟨d,rfl,QW,mG,hsz,q⟩:=h;have nd:=P_.nd;have hu:=An hr;refine⟨_,(AD (Ac 1 nd (Al B hr.mm (AO (pv 0)))) (AD (Ac 2 nd (BB (AO (pv 1)))) (AD (Va PassesOwn.never (Vf (pv 2) (fun _=>rfl)) (AD (Ac 3 nd (cJ PySem.F.plainAttrs_list PySem.F.slot_list_pop PySem.F.type_list_pop cM (pv 2))) (AD (Ac 4 nd (Al Xj hr.mm (AO (pv 3)))) (AE (VS (DB (pv 4)) (EZ 5 nd) (AD (cn (NA (Al B hr.mm (AO (Ko (LI K (pv 3) (pv 5)) (fK hu (pv 3) (pv 5))))) (VY (pv 3) (pv 5) set_list)) (Sa hu (pv 3) (pv 5) (Al B hr.mm (AO (Ko (LI K (pv 3) (pv 5)) (fK hu (pv 3) (pv 5))))) rfl)) (AE (CK (D' PySem.F.plainAttrs_list PySem.F.slot_list_append PySem.F.type_list_append CI (pv 2) (AO (Ko (LI K (pv 3) (pv 5)) (fK hu (pv 3) (pv 5))))))))))))) (AE (AH (pv 1)))))),?_⟩;refine⟨_,rfl,d,rfl,QW,Im.of (AF.refl H) QW fun tv N si oi fi=>?_⟩;refine⟨_,rfl,BI,fun L hL=>?_⟩;have sL:=AF.new (o:=.lst [tv]) hL;have nL:H L=none:=si.free hL;have oO:tv≠.ref L:=fun z=>(UQ QW oi z) hL;have C0:FG H (upd N L (.lst [tv])) L tv d [(tv,d)]:=FG.start (si.trans sL) nL AB (oi.up fun a e u h=>sL _ _ h) QW mG oO;dsimp only[Bm,VW];refine ZO (fun m σ Hw=>iH (fun(ps:List (V×Dc))(o3 o4 n:Option V)=>σ=[some d.val,some tv,some (.ref L),o3,o4,n]) (fun(ps:List (V×Dc))(o3 o4 n:Option V)=>FG H Hw L tv d ps) (fun(ps:List (V×Dc))(o3 o4 n:Option V)=>Dc.AZ (ps.map (·.2))<=d.size) (fun(ps:List (V×Dc))(o3 o4 n:Option V)=>m=Dc.AZ (ps.map (·.2)))) (Dc.AZ [d]) ⟨[(tv,d)],none,none,none,rfl,C0,by simp[Dc.AZ],rfl⟩ ?_ (fun σ H Q Q' h ⟨v,e,k,t,q⟩=>⟨v,e,k,t,h _ _ q⟩);rintro m σ Hw ⟨ps,o3,o4,n,rfl,C,hm,rfl⟩;refine⟨_,rfl,_,.inl ⟨_,Ay.of C.eL,rfl⟩,?_⟩;by_cases fE:ps=[]
  ·subst fE;refine Ae ⟨_,rfl,?_⟩;obtain⟨e,ev,el,ef⟩:=C.done;rw[<-ev];exact q e Hw ef el
  obtain⟨I,p,rfl⟩:∃I p,ps=I++[p]:=⟨ps.dropLast,ps.getLast fE,(List.dropLast_concat_getLast fE).symm⟩;obtain⟨v,node⟩:=p;refine BL (by simp) ?_;have mH:Dc.AZ ((I++[(v,node)]).map (·.2))=Dc.AZ (I.map (·.2))+node.size:=by rw[List.map_append,Dc.BP];simp[Dc.AZ]
  have oP:=C.eL;refine⟨_,rfl,.inl ⟨rfl,_,Ay.of oP⟩,L,_,v,rfl,rfl,oP,by simp,?_⟩;have dl:(List.map (·.1) (I++[(v,node)])).dropLast=I.map (·.1):=by rw[List.map_append];simp
  rw[dl];obtain⟨nat,fM⟩:=C.src (v,node) (by simp);have on:=C.out (v,node) (by simp);have s1:AF H (upd Hw L (.lst (I.map (·.1)))):=C.same.put nL;have lq:I.length<=Dc.AZ (I.map (·.2)):=by have:=Dc.Gv (I.map (·.2));rw[List.length_map]at this;exact this
  cases node with
  |leaf v'=>
   obtain⟨rfl,lv⟩:=(show v=v'/\Dc.Lf v' from on);refine⟨_,rfl,.leaf v,rfl,lv,trivial,by simp[Dc.size],fun p l H2 s2 np U st=>?_⟩;cases(show l=[]from st);refine⟨_,rfl,p,rfl,⟨_,Ay.of U⟩,D_ (xs:=[]) (fun i σ N=>iF (fun n=>σ=[some d.val,some tv,some (.ref L),some v,some (.ref p),n]) (fun n=>N=H2)) ⟨_,rfl,rfl⟩ (fun i σ N _ ⟨_,_,e⟩=>by rw[e];exact Ay.of U) (fun i x σ N hx=>by simp at hx) ?_⟩;rintro σ N ⟨n,rfl,rfl⟩;refine⟨Dc.AZ (I.map (·.2)),by rw[mH];simp only[Dc.size];lia,I,_,_,_,rfl,C.leaf (fun b o hb h=>s2 _ _ (by rw[AN hb];exact h)) (s2 _ _ AB),by lia,rfl⟩
  |row b xs=>
   obtain⟨a,rfl,ea,na⟩:=(show∃a,v=.ref a/\Hw a=some (.lst (xs.map Dc.val))/\H a=none from on);have aL:a≠L:=fun z=>C.UO (by rw[<-z];exact Bp.mpr ⟨(.ref a,.row b xs),by simp,rfl⟩);have de:upd Hw L (.lst (I.map (·.1))) a=some (.lst (xs.map Dc.val)):=by rw[AN aL];exact ea
   have S:=nat;simp only[Dc.At]at S;simp only[Dc.slim]at fM;simp only[Dc.size]at mH;have lx:=Dc.Gv xs;refine⟨_,rfl,.row a xs,rfl,?_,by simp only[Dc.slim];exact fM,by simp only[Dc.size];lia,fun p l H2 s2 np U st=>?_⟩
   ·simp only[Dc.At];exact⟨.inl de,Dc.Bg xs (fun c _ o e=>s1 c o e) S.2⟩
   cases(show l=(List.range xs.length).map fun(i:Nat)=>V.int (i:Int)from st);have mI:=s1.trans s2;have iI:=s2 _ _ de;have df:H2 L=some (.lst (I.map (·.1))):=s2 _ _ AB;have ll:((List.range xs.length).map fun(i:Nat)=>V.int (i:Int)).length=xs.length:=by simp
   have pa:p≠a:=Ne.symm (Am de np);have pL:p≠L:=Ne.symm (Am (AB (H:=Hw) (a:=L) (o:=.lst (I.map (·.1)))) np);refine⟨_,rfl,p,rfl,⟨_,Ay.of U⟩,D_ (xs:=(List.range xs.length).map fun(i:Nat)=>V.int (i:Int)) (fun i σ N=>iG (fun(g:List V)(n:Option V)=>σ=[some d.val,some tv,some (.ref L),some (.ref a),some (.ref p),n]) (fun(g:List V)(n:Option V)=>g.length=i) (fun(g:List V)(n:Option V)=>i<=xs.length) (fun(g:List V)(n:Option V)=>N a=some (.lst (g++(xs.drop i).map Dc.val))) (fun(g:List V)(n:Option V)=>N L=some (.lst (I.map (·.1)++g))) (fun(g:List V)(n:Option V)=>(∀(j:Nat) c x,g[j]?=some c->xs[j]?=some x->GA H N c x)) (fun(g:List V)(n:Option V)=>(∀b o,b≠a->b≠L->H2 b=some o->N b=some o)) (fun(g:List V)(n:Option V)=>(roots (g.zip xs)).Nodup) (fun(g:List V)(n:Option V)=>∀c∈roots (g.zip xs),H2 c=none))
    ⟨[],_,rfl,rfl,Nat.zero_le _,by rw[iI];rfl,by rw[df,List.append_nil],fun j c x h=>by simp at h,fun b o _ _ h=>h,by simp[roots],by simp[roots]⟩ (fun i σ N _ ⟨g,n,_,_,_,_,_,_,kp,_,_⟩=>Ay.of (kp p _ pa pL U)) ?_ ?_⟩
   ·rintro i sv σ N dh ⟨g,n,rfl,lc,mJ,D,Y,oc,kp,rn,rf⟩;have hi:i<xs.length:=by have:=(uy dh).1;rw[ll]at this;exact this
    have mK:sv=.int (i:Int):=by rw[List.getElem?_map,List.getElem?_range hi]at dh;exact(uz dh).symm
    subst mK;obtain⟨x,hx⟩:∃x,xs[i]?=some x:=⟨_,ux hi⟩;have mL:=u_ hx;have iJ:AF H N:=fun b o e=>kp b o (Am e na) (Am e nL) (mI b o e);have dr:xs.drop i=x::xs.drop (i+1):=by rw[List.drop_eq_getElem_cons hi];rw[ux hi]at hx;rw[uz hx]
    have iK:x.At N:=Dc.Ab iJ (Dc.Ca S.2 x mL);have Cy:Of (g++(xs.drop i).map Dc.val) (i:Int)=some x.val:=BV (by rw[dr,List.getElem?_append_right (by lia),lc,Nat.sub_self];rfl);refine .inl (.inl ⟨_,rfl,_,rfl,a,_,_,_,rfl,rfl,Ay.of D,Cy,x,rfl,iK,Im.of iJ iK fun c Hc sc mM fc=>?_⟩);have mO:=sc _ _ D;have hlen:(g++(xs.drop i).map Dc.val).length=xs.length:=by rw[List.length_append,List.length_map,List.length_drop];lia
    refine⟨_,rfl,_,rfl,a,_,_,i,rfl,rfl,mO,by unfold Qk;rw[if_pos (by lia),if_pos (by rw[hlen];lia),Int.toNat_natCast],?_⟩;have mQ:(g++(xs.drop i).map Dc.val).set i c=(g++[c])++(xs.drop (i+1)).map Dc.val:=by
     rw[dr,List.map_cons,List.set_append_right _ _ (by lia),lc,Nat.sub_self,List.set_cons_zero,List.append_assoc];rfl
    rw[mQ];have cL:∀J,c=.ref J->J≠a/\J≠L:=fun J e=>⟨(fun z=>by have:=fc J e;rw[z,D]at this;cases this),(fun z=>by have:=fc J e;rw[z,Y]at this;cases this)⟩;have iL:upd Hc a (.lst ((g++[c])++(xs.drop (i+1)).map Dc.val)) L=some (.lst (I.map (·.1)++g)):=by rw[AN (Ne.symm aL)];exact sc _ _ Y
    refine⟨_,rfl,.inl ⟨rfl,_,Ay.of iL⟩,.inl ⟨_,rfl,_,rfl,a,_,_,c,rfl,rfl,Ay.of AB,BV (by rw[List.getElem?_append_left (by rw[List.length_append,lc];simp),List.getElem?_append_right (by lia),lc,Nat.sub_self];rfl),?_⟩⟩;refine⟨L,_,_,rfl,rfl,iL,Aw (by simp only[List.length_append,List.length_map];lia),g++[c],_,rfl,by simp[lc],hi,by rw[AN aL];exact AB,by rw[AB,List.append_assoc],fun j M x' r G=>?_,fun b' o r G h3=>?_,?_,fun M O=>?_⟩
    ·have base:∀{M:V}{x':Dc},GA H Hc M x'->(∀J,M=.ref J->J≠a/\J≠L)->GA H (upd (upd Hc a (.lst ((g++[c])++(xs.drop (i+1)).map Dc.val))) L (.lst ((I.map (·.1)++g)++[c]))) M x':=fun o di=>o.up fun J e u h=>by
      obtain⟨g1,Z⟩:=di J e;rw[AN Z,AN g1];exact h
     by_cases dj:j<g.length
     ·rw[List.getElem?_append_left dj]at r;refine base ((oc j M x' r G).up fun J e u h=>sc _ _ h) fun J e=>?_;have hz:(g.zip xs)[j]?=some (M,x'):=by rw[List.getElem?_zip_eq_some];exact⟨r,G⟩
      have hr:=rf J (Bp.mpr ⟨(M,x'),u_ hz,e⟩);exact⟨(fun z=>by rw[z,iI]at hr;cases hr),(fun z=>by rw[z,df]at hr;cases hr)⟩
     ·have hl:=(uy r).1;rw[List.length_append,List.length_singleton]at hl;have ej:j=i:=by lia
      subst ej;rw[List.getElem?_append_right (by lia),lc,Nat.sub_self]at r;have e1:c=M:=by simpa using r
      subst e1;rw[hx]at G;cases G;exact base mM cL
    ·rw[AN G,AN r];exact sc _ _ (kp b' o r G h3)
    ·have ez:(g++[c]).zip xs=g.zip xs++[(c,x)]:=Hu lc hx;rw[ez,BX];refine List.nodup_append.mpr ⟨rn,by cases c<;>first|exact List.nodup_nil|exact List.nodup_cons.mpr ⟨(fun h=>nomatch h),List.nodup_nil⟩,fun y hy z hz e=>?_⟩;subst e;obtain⟨p',dm,e'⟩:=Bp.mp hz;rw[List.mem_singleton.mp dm]at e';obtain⟨⟨c2,x2⟩,Zx,e2⟩:=Bp.mp hy;obtain⟨j,hj,ej⟩:=List.mem_iff_getElem.mp Zx;have gu:(g.zip xs)[j]?=some (c2,x2):=by rw[ux hj,ej]
     obtain⟨g1,Z⟩:=List.getElem?_zip_eq_some.mp gu;exact((oc j c2 x2 g1 Z).root (p:=(c2,x2)) e2).1 (fc y e')
    ·have ez:(g++[c]).zip xs=g.zip xs++[(c,x)]:=Hu lc hx;rw[ez,BX]at O;rcases List.mem_append.mp O with O|O
     ·exact rf M O
     ·obtain⟨p',dm,e'⟩:=Bp.mp O;rw[List.mem_singleton.mp dm]at e';have h0:=fc M e';cases q2:H2 M with
      |none=>rfl
      |some o=>
       have:=kp M o (cL M e').1 (cL M e').2 q2;rw[h0]at this;cases this
   ·rintro σ N ⟨g,n,rfl,lc,mJ,D,Y,oc,kp,rn,rf⟩;rw[ll]at lc D;rw[List.drop_length,List.map_nil,List.append_nil]at D;have mz:(g.zip xs).map (·.1)=g:=List.map_fst_zip (by lia);have iM:(g.zip xs).map (·.2)=xs:=List.map_snd_zip (by lia);have iN:∀p∈g.zip xs,∃j:Nat,g[j]?=some p.1/\xs[j]?=some p.2:=fun p U=>by
     obtain⟨j,hj,e⟩:=List.mem_iff_getElem.mp U;exact⟨j,List.getElem?_zip_eq_some.mp (by rw[ux hj,e])⟩
    have iO:∀b o,b≠L->Hw b=some o->H2 b=some o:=fun b o hb h=>s2 _ _ (by rw[AN hb];exact h);have C2:=C.step (H2:=N) (g.zip xs) (fun b' o r G h3=>kp b' o r G (iO b' o G h3)) (by rw[Y,List.map_append,mz]) (fun p U=>let⟨j,g1,Z⟩:=iN p U;oc j _ _ g1 Z) (fun p U=>let⟨j,g1,Z⟩:=iN p U;⟨Dc.Ca S.2 _ (u_ Z),Dc.Dq fM _ (u_ Z)⟩) rn (fun c hc=>by
      cases q2:Hw c with
      |none=>rfl
      |some o=>
       have h0:=rf c hc;by_cases iP:c=L
       ·rw[iP,df]at h0;cases h0
       ·rw[iO c o iP q2]at h0;cases h0) (by rw[D];simp) (fun ob u z=>by rw[D]at z;cases z)
     (fun ec H' dn at' mR=>⟨.row a ec,rfl,by simp only[Dc.Cb];have:=dn.WZ;rw[iM]at this;exact this,by
      simp only[Dc.At];refine⟨.inl ?_,at'⟩;rw[mR,D,dn.vals,mz],by simp only[Dc.addrs];exact .refl _⟩)
    have Zy:Dc.AZ ((I++g.zip xs).map (·.2))=Dc.AZ (I.map (·.2))+Dc.AZ xs:=by rw[List.map_append,Dc.BP,iM]
    exact⟨Dc.AZ ((I++g.zip xs).map (·.2)),by lia,I++g.zip xs,_,_,_,rfl,C2,by lia,rfl⟩
  |tab b ks xs=>
   obtain⟨a,rfl,ea,na⟩:=(show∃a,v=.ref a/\Hw a=some (.dK (Dc.kvs ks xs))/\H a=none from on);have aL:a≠L:=fun z=>C.UO (by rw[<-z];exact Bp.mpr ⟨(.ref a,.tab b ks xs),by simp,rfl⟩);have de:upd Hw L (.lst (I.map (·.1))) a=some (.dK (Dc.kvs ks xs)):=by rw[AN aL];exact ea
   have S:=nat;simp only[Dc.At]at S;simp only[Dc.slim]at fM;simp only[Dc.size]at mH;obtain⟨_,jh,knd,dq⟩:=S;have lx:=Dc.Gv xs;refine⟨_,rfl,.tab a ks xs,rfl,?_,by simp only[Dc.slim];exact fM,by simp only[Dc.size];lia,fun p l H2 s2 np U st=>?_⟩
   ·simp only[Dc.At];exact⟨.inl de,jh,knd,Dc.Bg xs (fun c _ o e=>s1 c o e) dq⟩
   obtain⟨ss,rfl,perm,_⟩:=(show∃ss:List Str,l=ss.map V.str/\ss.Perm ks/\PyProof.Rows.sortedS ss=true from st);have snd:ss.Nodup:=perm.nodup_iff.mpr knd;have sl:=perm.length_eq;obtain⟨X,yp,yl,oQ⟩:=reorder (ks:=ss) (ss:=ks) (ec:=xs) perm.symm knd jh.symm;have mI:=s1.trans s2;have iI:=s2 _ _ de;have df:H2 L=some (.lst (I.map (·.1))):=s2 _ _ AB;have ll:(ss.map V.str).length=ss.length:=List.length_map ..;have pa:p≠a:=Ne.symm (Am de np);have pL:p≠L:=Ne.symm (Am (AB (H:=Hw) (a:=L) (o:=.lst (I.map (·.1)))) np);have pos:∀(j:Nat) k,ks[j]?=some k->∃t,ss[t]?=some k:=fun j k h=>List.mem_iff_getElem?.mp (perm.mem_iff.mpr (u_ h));have pos':∀(t:Nat) k,ss[t]?=some k->∃j,ks[j]?=some k:=fun t k h=>List.mem_iff_getElem?.mp (perm.mem_iff.mp (u_ h));refine⟨_,rfl,p,rfl,⟨_,Ay.of U⟩,D_ (xs:=ss.map V.str) (fun i σ N=>dc (fun(g R:List V)(n:Option V)=>σ=[some d.val,some tv,some (.ref L),some (.ref a),some (.ref p),n]) (fun(g R:List V)(n:Option V)=>g.length=i) (fun(g R:List V)(n:Option V)=>i<=ss.length) (fun(g R:List V)(n:Option V)=>ks.length=R.length) (fun(g R:List V)(n:Option V)=>N a=some (.dK (Eo ks R))) (fun(g R:List V)(n:Option V)=>N L=some (.lst (I.map (·.1)++g))) (fun(g R:List V)(n:Option V)=>(∀(j t:Nat) k,ks[j]?=some k->ss[t]?=some k->R[j]?=if t<i then g[t]? else(X[t]?).map Dc.val)) (fun(g R:List V)(n:Option V)=>(∀(j:Nat) c x,g[j]?=some c->X[j]?=some x->GA H N c x)) (fun(g R:List V)(n:Option V)=>(∀b o,b≠a->b≠L->H2 b=some o->N b=some o)) (fun(g R:List V)(n:Option V)=>(roots (g.zip X)).Nodup) (fun(g R:List V)(n:Option V)=>∀c∈roots (g.zip X),H2 c=none))
    ⟨[],xs.map Dc.val,_,rfl,rfl,Nat.zero_le _,by rw[List.length_map];exact jh,iI,by rw[df,List.append_nil],fun j t k r G=>by rw[if_neg (Nat.not_lt_zero _),oQ t j k G r,List.getElem?_map],fun j c x h=>by simp at h,fun b o _ _ h=>h,by simp[roots],by simp[roots]⟩
    (fun i σ N _ ⟨g,R,n,_,_,_,_,_,_,_,_,kp,_,_⟩=>Ay.of (kp p _ pa pL U)) ?_ ?_⟩
   ·rintro i sv σ N dh ⟨g,R,n,rfl,lc,mJ,lv,D,Y,iQ,oc,kp,rn,rf⟩;have hi:i<ss.length:=by have:=(uy dh).1;rw[ll]at this;exact this
    obtain⟨k,hk⟩:∃k,ss[i]?=some k:=⟨_,ux hi⟩;have mK:sv=.str k:=by rw[List.getElem?_map,hk]at dh;exact(uz dh).symm
    subst mK;obtain⟨j,hj⟩:=pos' i k hk;obtain⟨x,hx⟩:∃x,X[i]?=some x:=⟨_,ux (by rw[yl];exact hi)⟩;have mL:x∈xs:=yp.mem_iff.mp (u_ hx);have iJ:AF H N:=fun b o e=>kp b o (Am e na) (Am e nL) (mI b o e);have iK:x.At N:=Dc.Ab iJ (Dc.Ca dq x mL);have oU:j<R.length:=by rw[<-lv];exact(uy hj).1
    have vj:R[j]?=some x.val:=by rw[iQ j i k hj hk,if_neg (Nat.lt_irrefl _),hx];rfl
    have dg:∀{Hx:Hp}{ws:List V}{y:V},Hx a=some (.dK (Eo ks ws))->ks.length=ws.length->ws[j]?=some y->NH Hx a (.str k) (some y):=fun r G h3=>.inl ⟨_,Sum.inr k,.inl r,rfl,by rw[Kt G knd hj,h3]⟩;refine .inr (.inr ⟨_,rfl,_,rfl,a,x.val,rfl,dg D lv vj,x,rfl,iK,Im.of iJ iK fun c Hc sc mM fc=>?_⟩);have mO:=sc _ _ D;refine⟨_,rfl,_,rfl,a,_,rfl,Tw.k (k:=Sum.inr k) mO (Aw (by rw[Wc lv];lia)),?_⟩;rw[Wd lv knd hj c];have mS:ks.length=(R.set j c).length:=by rw[List.length_set];exact lv
    have cL:∀J,c=.ref J->J≠a/\J≠L:=fun J e=>⟨(fun z=>by have:=fc J e;rw[z,D]at this;cases this),(fun z=>by have:=fc J e;rw[z,Y]at this;cases this)⟩;have iL:upd Hc a (.dK (Eo ks (R.set j c))) L=some (.lst (I.map (·.1)++g)):=by rw[AN (Ne.symm aL)];exact sc _ _ Y
    refine⟨_,rfl,.inl ⟨rfl,_,Ay.of iL⟩,.inr ⟨_,rfl,_,rfl,a,c,rfl,dg AB mS (by rw[List.getElem?_set_self oU]),?_⟩⟩;refine⟨L,_,_,rfl,rfl,iL,Aw (by simp only[List.length_append,List.length_map];lia),g++[c],R.set j c,_,rfl,by simp[lc],hi,mS,by rw[AN aL];exact AB,by rw[AB,List.append_assoc],fun j' t' k' r G=>?_,fun j' M x' r G=>?_,fun b' o r G h3=>?_,?_,fun M O=>?_⟩
    ·by_cases mT:j'=j
     ·subst mT;rw[hj]at r;cases r;have et:t'=i:=(List.getElem?_inj (by exact(uy G).1) snd).mp (by rw[G,hk]);subst et;rw[List.getElem?_set_self oU,if_pos (Nat.lt_succ_self _),List.getElem?_append_right (by lia),lc,Nat.sub_self];rfl
     ·have rj:k'≠k:=fun z=>mT ((List.getElem?_inj (by exact(uy r).1) knd).mp (by rw[r,hj,z]));have oO:t'≠i:=fun z=>rj (by rw[z,hk]at G;exact(uz G).symm);rw[List.getElem?_set_ne (Ne.symm mT),iQ j' t' k' r G];by_cases oV:t'<i
      ·rw[if_pos oV,if_pos (by lia),List.getElem?_append_left (by lia)]
      ·rw[if_neg oV,if_neg (by lia)]
    ·have base:∀{M:V}{x':Dc},GA H Hc M x'->(∀J,M=.ref J->J≠a/\J≠L)->GA H (upd (upd Hc a (.dK (Eo ks (R.set j c)))) L (.lst ((I.map (·.1)++g)++[c]))) M x':=fun o di=>o.up fun J e u h=>by
      obtain⟨g1,Z⟩:=di J e;rw[AN Z,AN g1];exact h
     by_cases dj:j'<g.length
     ·rw[List.getElem?_append_left dj]at r;refine base ((oc j' M x' r G).up fun J e u h=>sc _ _ h) fun J e=>?_;have hz:(g.zip X)[j']?=some (M,x'):=by rw[List.getElem?_zip_eq_some];exact⟨r,G⟩
      have hr:=rf J (Bp.mpr ⟨(M,x'),u_ hz,e⟩);exact⟨(fun z=>by rw[z,iI]at hr;cases hr),(fun z=>by rw[z,df]at hr;cases hr)⟩
     ·have hl:=(uy r).1;rw[List.length_append,List.length_singleton]at hl;have ej:j'=i:=by lia
      subst ej;rw[List.getElem?_append_right (by lia),lc,Nat.sub_self]at r;have e1:c=M:=by simpa using r
      subst e1;rw[hx]at G;cases G;exact base mM cL
    ·rw[AN G,AN r];exact sc _ _ (kp b' o r G h3)
    ·have ez:(g++[c]).zip X=g.zip X++[(c,x)]:=Hu lc hx;rw[ez,BX];refine List.nodup_append.mpr ⟨rn,by cases c<;>first|exact List.nodup_nil|exact List.nodup_cons.mpr ⟨(fun h=>nomatch h),List.nodup_nil⟩,fun y hy z hz e=>?_⟩;subst e;obtain⟨p',dm,e'⟩:=Bp.mp hz;rw[List.mem_singleton.mp dm]at e';obtain⟨⟨c2,x2⟩,Zx,e2⟩:=Bp.mp hy;obtain⟨j2,ji,rk⟩:=List.mem_iff_getElem.mp Zx;have gu:(g.zip X)[j2]?=some (c2,x2):=by rw[ux ji,rk]
     obtain⟨g1,Z⟩:=List.getElem?_zip_eq_some.mp gu;exact((oc j2 c2 x2 g1 Z).root (p:=(c2,x2)) e2).1 (fc y e')
    ·have ez:(g++[c]).zip X=g.zip X++[(c,x)]:=Hu lc hx;rw[ez,BX]at O;rcases List.mem_append.mp O with O|O
     ·exact rf M O
     ·obtain⟨p',dm,e'⟩:=Bp.mp O;rw[List.mem_singleton.mp dm]at e';have h0:=fc M e';cases q2:H2 M with
      |none=>rfl
      |some o=>
       have:=kp M o (cL M e').1 (cL M e').2 q2;rw[h0]at this;cases this
   ·rintro σ N ⟨g,R,n,rfl,lc,mJ,lv,D,Y,iQ,oc,kp,rn,rf⟩;rw[ll]at lc iQ;have mz:(g.zip X).map (·.1)=g:=List.map_fst_zip (by lia);have iM:(g.zip X).map (·.2)=X:=List.map_snd_zip (by lia);have iN:∀p∈g.zip X,∃j:Nat,g[j]?=some p.1/\X[j]?=some p.2:=fun p U=>by
     obtain⟨j,hj,e⟩:=List.mem_iff_getElem.mp U;exact⟨j,List.getElem?_zip_eq_some.mp (by rw[ux hj,e])⟩
    have iO:∀b o,b≠L->Hw b=some o->H2 b=some o:=fun b o hb h=>s2 _ _ (by rw[AN hb];exact h);have C2:=C.step (H2:=N) (g.zip X) (fun b' o r G h3=>kp b' o r G (iO b' o G h3)) (by rw[Y,List.map_append,mz]) (fun p U=>let⟨j,g1,Z⟩:=iN p U;oc j _ _ g1 Z) (fun p U=>let⟨j,g1,Z⟩:=iN p U;⟨Dc.Ca dq _ (yp.mem_iff.mp (u_ Z)),Dc.Dq fM.2 _ (yp.mem_iff.mp (u_ Z))⟩) rn (fun c hc=>by
      cases q2:Hw c with
      |none=>rfl
      |some o=>
       have h0:=rf c hc;by_cases iP:c=L
       ·rw[iP,df]at h0;cases h0
       ·rw[iO c o iP q2]at h0;cases h0) (by rw[D];simp) (fun ob u z=>by rw[D]at z;cases z)
     (fun ec H' dn at' mR=>by
      have dv:=dn.vals;rw[mz]at dv;have dk:=dn.WZ;rw[iM]at dk;have el:ec.length=ss.length:=by have:=congrArg List.length dv;rw[List.length_map]at this;lia
      obtain⟨es,ep,rl,oW⟩:=reorder perm snd el;have ev:es.map Dc.val=R:=by
       refine List.ext_getElem? fun j=>?_;cases hk:ks[j]? with
       |none=>
        have r:=List.getElem?_eq_none_iff.mp hk;rw[List.getElem?_eq_none_iff.mpr (by rw[List.length_map];lia),List.getElem?_eq_none_iff.mpr (by lia)]
       |some k=>
        obtain⟨t,ht⟩:=pos j k hk;have tl:=(uy ht).1;rw[List.getElem?_map,oW j t k hk ht,iQ j t k hk ht,if_pos tl,<-dv,List.getElem?_map]
      refine⟨.tab a ks es,rfl,?_,?_,?_⟩
      ·simp only[Dc.Cb];refine⟨trivial,PN (by lia) fun j x e r G=>?_⟩;obtain⟨k,hk⟩:∃k,ks[j]?=some k:=⟨_,ux (by rw[jh];exact(uy r).1)⟩;obtain⟨t,ht⟩:=pos j k hk;have e1:=oQ t j k ht hk;rw[r]at e1;obtain⟨e',g1,Z⟩:=Dc.ML dk t x e1;rw[oW j t k hk ht,g1]at G;cases G;exact Z
      ·simp only[Dc.At];exact⟨.inl (by rw[mR,D,Wb,ev]),rl.symm,knd,We ep at'⟩
      ·simp only[Dc.addrs];exact(JO ep).cons _)
    have Zy:Dc.AZ ((I++g.zip X).map (·.2))=Dc.AZ (I.map (·.2))+Dc.AZ xs:=by rw[List.map_append,Dc.BP,iM,Dc.Qx yp]
    exact⟨Dc.AZ ((I++g.zip X).map (·.2)),by lia,I++g.zip X,_,_,_,rfl,C2,by lia,rfl⟩
end
end BF
namespace BF
open PySem L2
section
variable{P:Program} {w:World} {K:vA} [A_ K] {mg:Str->Option Value} {base:Heap}
theorem P':AU ["one","other"] ["one","other"] (AL Nq):={}
def IJ:Sp:=fun f H Q _=>∃(a b:Addr)(c d:List V),f=[.ref a,.ref b]/\H a=some (.tup c)/\H b=some (.tup d)/\(∀z∈c,CO z=true)/\(∀z∈d,CO z=true)/\∀e,AF H e->Q (.bl (BQ (d.take c.length) c)) e
theorem Uy{f:Addr}{c:FuncData}(F:CL K "begins" "begins" Nq f c)(T:Txt mg):Av P w K mg base CP 1 f c ["one","other"] IJ:=by
 refine F.oq P' fun j A outer s H t Q E d h=>?_
 ·obtain⟨a,b,u,k,rfl,e,l,m,n,q⟩:=h;have nd:=P'.nd;have v:=An d;refine⟨_,(AE (AH (Be (Gx (BZ.CJ d)) (Ai BH (pv 1) Ax (Au (DS T.len (pv 0)))) (pv 0) (AM _)))),?_⟩;refine⟨_,rfl,_,rfl,a,_,rfl,.inr (Ah.of e),_,rfl,b,k,rfl,l,fun p o g i=>?_⟩;rw[DO]at i;exact⟨_,rfl,p,a,_,_,rfl,rfl,Ah.of i,Ah.of (g _ _ e),fun z r=>n z (List.mem_of_mem_take r),m,q o g⟩
end
end BF
namespace BF
open PySem L2
section
variable{P:Program} {w:World} {K:vA} [A_ K] {mg:Str->Option Value} {base:Heap}
theorem QA:AU ["row"] ["row"] (AL Nr):={}
theorem Uz{f:Addr}{e:FuncData}(F:CL K "gone_by" "gone_by" Nr f e)(T:Txt mg):Av P w K mg base CP 1 f e ["row"] (Fh [.str "take",.str "change"]):=by
 refine F.oq QA fun i A outer s H m Q E j h=>?_
 ·obtain⟨r,k,n,o,p,rfl,R,q⟩:=h;have nd:=QA.nd;have u:=An j;refine⟨_,(AD (AX (AI (B':Dg _ _ (OU K false)) (Bx K 0) (AW (AA AQ (AO AQ))) rfl) (AE (AH (Bx K 0))) AK) (AE (AH BA))),?_⟩;obtain⟨a,rest,rfl,g,l⟩:=R.ex;refine⟨_,rfl,a,_,0,.str k,rfl,rfl,Ah.of g,Ec,AR,fun t c=>⟨t,_,rfl,.inr (Ah.of AB),rfl,rfl,_,rfl,?_⟩⟩;refine Eg (fun h=>?_) (fun h=>?_)
  ·have d:∀b,AF H b->Q (.ref p) b:=fun b s=>by
    have:=q b s;rw[if_pos h]at this;exact this
   exact⟨_,rfl,a,_,1,_,rfl,rfl,Ah.of (AF.new c _ _ g),Cy,d _ (AF.new c)⟩
  ·have d:∀b,AF H b->Q .As b:=fun b s=>by
    have:=q b s;rw[h,if_neg Bool.false_ne_true]at this;exact this
   exact d _ (AF.new c)
end
end BF
namespace BF
open PySem L2
section
variable{P:Program} {w:World} {K:vA} [A_ K] {mg:Str->Option Value} {base:Heap}
theorem Mp:AU ["row"] ["row"] (AL LK):={}
theorem Ro{f:Addr}{b:FuncData}(F:CL K "moved_by" "moved_by" LK f b)(T:Txt mg):Av P w K mg base CP 1 f b ["row"] Ei:=by
 refine F.oq Mp fun d A outer s H j Q E e h=>?_
 ·obtain⟨r,g,k,l,p,rfl,R,q⟩:=h;have nd:=Mp.nd;have m:=An e;refine⟨_,(AD (AX (AI BO (Bx K 0) AQ (AM _)) (AE (AH (Bx K 0))) AK) (AE (AH BA))),?_⟩;obtain⟨a,rest,rfl,c,i⟩:=R.ex;refine⟨_,rfl,a,_,0,.str g,rfl,rfl,Ah.of c,Ec,rfl,_,rfl,?_⟩;refine Bs (fun h=>?_) (fun h=>?_)
  ·rw[if_pos h]at q;exact⟨_,rfl,a,_,1,_,rfl,rfl,Ah.of c,Cy,q⟩
  ·rw[if_neg h]at q;exact q
end
end BF
namespace BF
open PySem L2
section
variable{P:Program} {w:World} {K:vA} [A_ K] {mg:Str->Option Value} {base:Heap}
theorem TN:AU ["row"] ["row"] (AL RY):={}
theorem Xk{f:Addr}{e:FuncData}(F:CL K "reads" "reads" RY f e)(T:Txt mg):Av P w K mg base CP 1 f e ["row"] (Fh [.str "ask",.str "copy"]):=by
 refine F.oq TN fun i A outer s H m Q E j h=>?_
 ·obtain⟨r,k,n,o,p,rfl,R,q⟩:=h;have nd:=TN.nd;have u:=An j;refine⟨_,(AD (AX (AI (B':Dg _ _ (OU K false)) (Bx K 0) (AW (AA AQ (AO AQ))) rfl) (AE (AH (Bx K 0))) AK) (AE (AH BA))),?_⟩;obtain⟨a,rest,rfl,g,l⟩:=R.ex;refine⟨_,rfl,a,_,0,.str k,rfl,rfl,Ah.of g,Ec,AR,fun t c=>⟨t,_,rfl,.inr (Ah.of AB),rfl,rfl,_,rfl,?_⟩⟩;refine Eg (fun h=>?_) (fun h=>?_)
  ·have d:∀b,AF H b->Q (.ref p) b:=fun b s=>by
    have:=q b s;rw[if_pos h]at this;exact this
   exact⟨_,rfl,a,_,1,_,rfl,rfl,Ah.of (AF.new c _ _ g),Cy,d _ (AF.new c)⟩
  ·have d:∀b,AF H b->Q .As b:=fun b s=>by
    have:=q b s;rw[h,if_neg Bool.false_ne_true]at this;exact this
   exact d _ (AF.new c)
end
end BF
namespace BF
open PySem L2
section
variable{P:Program} {w:World} {K:vA} [A_ K] {mg:Str->Option Value} {base:Heap}
theorem Mq:AU ["step"] ["step"] (AL LL):={}
theorem Rp{f:Addr}{a:FuncData}(F:CL K "is_place" "is_place" LL f a)(T:Txt mg):Av P w K mg base CP 1 f a ["step"] Eh:=by
 refine F.oq Mq fun b A outer s H e Q E c h=>?_
 ·obtain⟨z,rfl,d,q⟩:=h;have nd:=Mq.nd;have g:=An c;refine⟨_,(AE (AH (Qa (Aa Ao rfl T.isinstance AS (AA (pv 0) (AO (BG (v:=.ty "str") rfl T.str Hl rfl))))))),?_⟩;rcases d with⟨i,rfl⟩|⟨k,rfl,_⟩
  ·exact⟨_,rfl,_,"str","int",rfl,rfl,.int _,_,rfl,q⟩
  ·exact⟨_,rfl,_,"str","str",rfl,rfl,.str _,_,rfl,q⟩
end
end BF
namespace BF
open PySem L2
section
variable{P:Program} {w:World} {K:vA} [A_ K] {mg:Str->Option Value} {base:Heap}
theorem JY:AU ["path","holder"] ["path","holder"] (AL HL):={}
theorem OE{f:Addr}{y:FuncData}(F:CL K "place_into" "place_into" HL f y)(T:Txt mg)(c:Df P w K mg base "begins" ["one","other"] 1 IJ)(a:Df P w K mg base "is_place" ["step"] 1 Eh):Av P w K mg base CP 2 f y ["path","holder"] RA:=by
 refine F.oq JY fun I A outer s H N Q E n h=>?_
 ·obtain⟨p,h,d,b,rfl,B,C,D,J,q⟩:=h;have nd:=JY.nd;have O:=An n;refine⟨_,(AD (AX (PW.pt (pw_and (Ag (Al c n.mm (AA (pv 1) (AO (pv 0))))) (pw_and (AI Gh (DS T.len (pv 1)) (DS T.len (pv 0)) (AM _)) (pw_and1 (Ag (Al a n.mm (AO (CN (r:=EF K) By (pv 0) (DS T.len (pv 1)) (fun _ _=>rfl))))))))) (AE (AH (CN (r:=EF K) By (pv 0) (DS T.len (pv 1)) (fun _ _=>rfl)))) AK) (AE (AH BA))),?_⟩;have L:∀z∈b,CO z=true:=fun z o=>(J z o).flat;have M:∀z∈d,CO z=true:=fun z o=>(D z o).flat;have no:∀l,AF H l->(BQ (d.take b.length) b&&decide (b.length<d.length)&&MT (d.getD b.length .As))=false->Q .As l:=fun l s e=>by
   have:=q l s;unfold K' at this;rw[e,if_neg Bool.false_ne_true]at this;exact this
  refine⟨_,rfl,_,rfl,h,p,b,d,rfl,C,B,L,M,fun m j=>⟨_,rfl,?_⟩⟩;have g:=j _ _ C;have i:=j _ _ B;refine Bs (fun t=>?_) (fun t=>Ae (no m j (by rw[Bool.eq_false_iff.mpr t];rfl)));refine⟨_,rfl,h,_,rfl,.inr (Ah.of g),_,rfl,p,_,rfl,.inr (Ah.of i),_,_,rfl,rfl,_,rfl,?_⟩;refine Bs (fun u=>?_) (fun u=>Ae (no m j ?_))
  ·have k:b.length<d.length:=by have:=of_decide_eq_true u;omega
   have v:d[b.length]?=some d[b.length]:=ux k;have G:d.getD b.length .As=d[b.length]:=by rw[List.getD_eq_getElem?_getD,v];rfl
   refine⟨_,rfl,_,rfl,h,_,rfl,.inr (Ah.of g),p,_,_,_,rfl,rfl,Ah.of i,BV v,_,rfl,D _ (List.getElem_mem k),_,rfl,?_⟩;refine Bs (fun x=>?_) (fun x=>no m j ?_)
   ·refine⟨_,rfl,_,rfl,h,_,rfl,.inr (Ah.of g),p,_,_,_,rfl,rfl,Ah.of i,BV v,?_⟩;have:=q m j;unfold K' at this;rw[G,t,decide_eq_true k,x,Bool.and_self,Bool.and_self,if_pos rfl]at this;exact this
   ·rw[G,Bool.eq_false_iff.mpr x,Bool.and_false]
  ·have k:¬b.length<d.length:=fun k=>u (decide_eq_true (by omega));rw[decide_eq_false k,Bool.and_false,Bool.false_and]
end
end BF
namespace BF
open PySem L2
section
variable{P:Program} {w:World} {K:vA} [A_ K] {mg:Str->Option Value} {base:Heap}
theorem JZ:AU ["path","holder","place"] ["path","holder","place"] (AL HM):={}
theorem OF{f:Addr}{l:FuncData}(F:CL K "with_place" "with_place" HM f l)(T:Txt mg):Av P w K mg base CP 1 f l ["path","holder","place"] RC:=by
 refine F.oq JZ fun r A outer s H G Q E u h=>?_
 ·obtain⟨p,h,d,b,i,rfl,v,m,I,J,q⟩:=h;have nd:=JZ.nd;have L:=An u;refine⟨_,(AE (AH (AV Bf (AV Bf (pv 1) (AW (AO (pv 2)))) (Ai BH (pv 0) (Au (AV Bc (DS T.len (pv 1)) AG)) Ax)))),?_⟩;refine⟨_,rfl,_,rfl,BI,fun t x=>?_⟩;have c:=AF.new (o:=.tup [.int i]) x;refine⟨h,t,_,_,rfl,rfl,c _ _ m,AB,Ap (show b.length+1<=1000 by omega),fun y M g j=>?_⟩;refine⟨_,rfl,_,rfl,h,_,rfl,.inr (Ah.of (g _ _ (c _ _ m))),_,_,rfl,rfl,_,rfl,p,_,rfl,g _ _ (c _ _ v),fun z N n a=>?_⟩;have e:FQ d (some ((b.length:Int)+1)) none=d.drop (b.length+1):=by
   have:=Ga d (b.length+1);simpa using this
  rw[e]at a;refine⟨y,z,_,_,rfl,rfl,n _ _ j,a,Ap (by simp only[List.length_append,List.length_cons,List.length_nil,List.length_drop];omega),fun B C D k=>q B C (((c.trans g).trans n).trans D) k⟩
end
end BF
namespace BF
open PySem L2
section
variable{P:Program} {w:World} {K:vA} [A_ K] {mg:Str->Option Value} {base:Heap}
theorem Fi:AU ["to","path","holder","place"] ["to","path"] (AL Ea):={}
theorem JE{f:Addr}{N:FuncData}(F:CL K "ahead_of_taking" "ahead_of_taking" Ea f N)(T:Txt mg)(l:Df P w K mg base "is_place" ["step"] 1 Eh)(b:Df P w K mg base "place_into" ["path","holder"] 2 RA)(d:Df P w K mg base "with_place" ["path","holder","place"] 1 RC):Av P w K mg base CP 3 f N ["to","path"] PX:=by
 refine F.oq Fi fun Ic A outer s H vs Q E B h=>?_
 ·obtain⟨t,p,m,D,rfl,O,R,S,sz,U,lz,lx,q⟩:=h;have nd:=Fi.nd;have hu:=An B;refine⟨_,(AD (Ac 2 nd (Ai BH (pv 1) Ax (Au (Bw BM AG)))) (AD (Ac 3 nd (Al b B.mm (AA (pv 0) (AO (pv 2))))) (AD (AX (PW.pt (pw_or (AI Fq (pv 3) BA (AM _)) (pw_or (EE (Ag (Al l B.mm (AO (CN (r:=EF K) By (pv 1) (Bw BM AG) (fun _ _=>rfl)))))) (pw_or1 (AI Gh (pv 3) (CN (r:=EF K) By (pv 1) (Bw BM AG) (fun _ _=>rfl)) (AM _)))))) (AE (AH (pv 0))) AK) (AD (AX (PW.pt (pw_and (AI BO (pv 3) (CN (r:=EF K) By (pv 1) (Bw BM AG) (fun _ _=>rfl)) (AM _)) (pw_and1 (AI BO (DS T.len (pv 0)) (DS T.len (pv 1)) (AM _))))) (AE (AH (pv 0))) AK) (AE (AH (Al d B.mm (AA (pv 0) (AA (pv 2) (AO (AV Bc (pv 3) AG))))))))))),?_⟩;obtain⟨a,v,rfl⟩:∃a v,D=a++[v]:=⟨D.dropLast,D.getLast S,(List.dropLast_concat_getLast S).symm⟩;have X:steps a:=fun z G=>U z (List.mem_append_left _ G);have Y:Dc.Bi v:=U v (by simp);refine⟨_,rfl,_,rfl,_,rfl,p,_,rfl,R,fun h H1 Z I=>?_⟩;rw[BR]at I;refine⟨_,rfl,_,rfl,t,h,m,a,rfl,Z _ _ O,I,sz,X,fun J s2=>?_⟩;have n:=Z.trans s2;have o:=n _ _ O;have u:=n _ _ R;have x:=s2 _ _ I;have lu:a.length<=400:=by simp only[List.length_append,List.length_cons,List.length_nil]at lx;omega
  have keep:CD m (a++[v])=m->Q (.ref t) J:=fun e=>q t J n (by rw[e];exact o);cases L:(BQ (m.take a.length) a&&decide (a.length<m.length)&&MT (m.getD a.length .As))with
  |false=>
   rw[MV L];exact⟨_,rfl,rfl,_,rfl,BL rfl (Aj ⟨_,rfl,keep (HE L)⟩)⟩
  |true=>
  obtain⟨i,g,e,b1,b2⟩:=MU sz L;rw[e];refine⟨_,rfl,rfl,_,rfl,Af rfl ?_⟩;refine⟨_,rfl,_,rfl,p,_,_,_,rfl,rfl,Ah.of u,BW a v,_,rfl,Y,_,rfl,?_⟩;rcases Y with⟨j,rfl⟩|⟨k,rfl,_⟩
  ·refine Ae ?_;refine⟨_,rfl,_,rfl,_,rfl,p,_,_,_,rfl,rfl,Ah.of u,BW a _,_,_,rfl,rfl,_,rfl,?_⟩;have M:=MX (j:=(j:Int)) g b1;refine Bs (fun c1=>⟨_,rfl,keep (by rw[M];exact if_neg (by have:=of_decide_eq_true c1;omega))⟩) (fun c1=>?_);have n1:¬(i:Int)<(j:Int):=fun z=>c1 (decide_eq_true z);have go:((j:Int)<(i:Int)∨((i:Int)=(j:Int)/\a.length+1<m.length))->∀C y,AF J y->y C=some (.tup (a++[.int ((i:Int)+1)]++m.drop (a.length+1)))->Q (.ref C) y:=fun c C y s3 hq=>by
    refine q C y (n.trans s3) ?_;rw[M,if_pos c,<-Cr (FH (fun z G=>sz z (List.mem_of_mem_take G)) X b1) b2];exact hq
   refine⟨_,rfl,_,rfl,_,rfl,p,_,_,_,rfl,rfl,Ah.of u,BW a _,rfl,_,rfl,?_⟩;refine Bs (fun c2=>?_) (fun c2=>Ae ?_)
   ·have e2:(i:Int)=(j:Int):=by have:=of_decide_eq_true c2;exact V.int.inj this
    refine⟨_,rfl,t,_,rfl,.inr (Ah.of o),_,rfl,p,_,rfl,.inr (Ah.of u),rfl,_,rfl,?_⟩;refine Bs (fun c3=>⟨_,rfl,keep ?_⟩) (fun c3=>?_)
    ·have:=V.int.inj (of_decide_eq_true c3);simp only[List.length_append,List.length_cons,List.length_nil]at this;rw[M];exact if_neg (by omega)
    ·refine⟨_,rfl,_,rfl,_,rfl,_,_,rfl,rfl,t,h,m,a,_,rfl,o,x,lz,lu,go (.inr ⟨e2,?_⟩)⟩;have:¬((m.length:Nat):Int)=(((a++[V.int (j:Int)]).length:Nat):Int):=fun z=>c3 (decide_eq_true (congrArg V.int z));simp only[List.length_append,List.length_cons,List.length_nil]at this;omega
   ·have n2:¬(i:Int)=(j:Int):=fun z=>c2 (decide_eq_true (congrArg V.int z));exact⟨_,rfl,_,rfl,_,rfl,_,_,rfl,rfl,t,h,m,a,_,rfl,o,x,lz,lu,go (.inl (by omega))⟩
  ·exact Aj (Aj ⟨_,rfl,keep MW⟩)
end
end BF
namespace BF
open PySem L2
section
variable{P:Program} {w:World} {K:vA} [A_ K] {mg:Str->Option Value} {base:Heap}
theorem Mr:AU ["row","to"] ["row"] (AL LM):={}
theorem Rq{tC:Addr}{f:Addr}{N:FuncData}(F:CL K "comes_to" "comes_to" LM f N)(T:Txt mg)(b:Df P w K mg base "ahead_of_taking" ["to","path"] 3 PX)(X:mg "WORDS_OF_COMING"=some (.ref tC))(hC:RD K tC H_=true):Av P w K mg base CP 4 f N ["row"] Cs:=by
 refine F.oq Mr fun Y A outer s H vs Q E O h=>?_
 ·obtain⟨r,B,g,i,p,rfl,R,q⟩:=h;have nd:=Mr.nd;have hu:=An O;refine⟨_,(AD (AX (AI (FR:Dg _ _ (OU K true)) (Bx K 0) (Dx (v:=.ref tC) rfl X rfl) rfl) (AE (AH BA)) AK) (AD (Ac 1 nd (Bx K 0)) (AD (AX (AI BO (Bx K 0) AQ (AM _)) (AE (Ac 1 nd (Bx K 0))) AK) (AD (AX (AI BO (Bx K 0) AQ (AM _)) (AE (Ac 1 nd (Al b O.mm (AA (Bx K 0) (AO (Bx K 0)))))) AK) (AE (AH (AW (AA (Ai BH (pv 1) Ax (Au (Bw BM AG))) (AO (CN (r:=EF K) By (pv 1) (Bw BM AG) (fun _ _=>rfl))))))))))),?_⟩;obtain⟨a,rest,rfl,j,C⟩:=R.ex;refine⟨_,rfl,a,_,0,.str B,rfl,rfl,Ah.of j,Ec,tC,_,rfl,.inr (Ah.lQ hC H),rfl,rfl,_,rfl,?_⟩;refine bD (fun h=>?_) (fun h=>?_)
  ·refine q .As H (AF.refl _) ?_;unfold GD;rw[if_neg (by rw[Bool.not_eq_true']at h;rw[h];exact Bool.false_ne_true)]
  have S:Cm (.str B) BY=true:=by
   cases Z:Cm (.str B) BY with
   |true=>rfl
   |false=>rw[Z]at h;cases h
  have fin:∀(G:Hp),AF H G->∀k m,AF G k->k m=some (.tup (CT B g i).dropLast)->∀t,k t=none->∀c,(CT B g i).getLast?=some c->Q (.ref t) (upd k t (.tup [.ref m,c])):=fun G J k m n h2 t u c L=>by
   refine q _ _ ((J.trans n).trans (AF.new u)) ?_;unfold GD;rw[if_pos S];exact⟨t,m,c,rfl,AB,AF.new u _ _ h2,L⟩
  have y:∀D:List V,D≠[]->∃o c,D=o++[c]:=fun D h=>⟨D.dropLast,D.getLast h,(List.dropLast_concat_getLast h).symm⟩;refine⟨_,rfl,a,_,1,_,rfl,rfl,Ah.of j,Cy,?_⟩;rcases oJ S with rfl|rfl|rfl
  ·have eP:CT "put" g i=g:=rfl;obtain⟨o,c,e⟩:=y g (R.nx (.inl rfl));have x:CT "put" g i=o++[c]:=eP.trans e;have hp:=R.hp;rw[e]at hp;exact⟨_,rfl,a,_,0,_,rfl,rfl,Ah.of j,Ec,rfl,_,rfl,Af (by decide) ⟨_,rfl,a,_,0,_,rfl,rfl,Ah.of j,Ec,rfl,_,rfl,Af (by decide) ⟨_,rfl,_,rfl,_,rfl,p,_,rfl,hp,fun m k n d=>⟨_,rfl,_,rfl,p,_,_,_,rfl,rfl,Ah.of (n _ _ hp),BW o c,AR,fun t u=>fin _ (AF.refl _) k m n (by rw[BR]at d;rw[x,List.dropLast_concat];exact d) t u c (by rw[x];simp)⟩⟩⟩⟩
  ·obtain⟨I,rfl,l⟩:=C (.inl rfl);have eP:CT "copy" g i=i:=rfl;obtain⟨o,c,e⟩:=y i (R.nz (.inl rfl));have x:CT "copy" g i=o++[c]:=eP.trans e;rw[e]at l;exact⟨_,rfl,a,_,0,_,rfl,rfl,Ah.of j,Ec,rfl,_,rfl,BL (by decide) ⟨_,rfl,a,_,2,_,rfl,rfl,Ah.of j,at2,⟨_,rfl,a,_,0,_,rfl,rfl,Ah.of j,Ec,rfl,_,rfl,Af (by decide) ⟨_,rfl,_,rfl,_,rfl,I,_,rfl,l,fun m k n d=>⟨_,rfl,_,rfl,I,_,_,_,rfl,rfl,Ah.of (n _ _ l),BW o c,AR,fun t u=>fin _ (AF.refl _) k m n (by rw[BR]at d;rw[x,List.dropLast_concat];exact d) t u c (by rw[x];simp)⟩⟩⟩⟩⟩
  ·obtain⟨I,rfl,l⟩:=C (.inr rfl);have eP:CT "move" g i=CD i g:=rfl;have lz:=R.lz;have lx:=R.lx;obtain⟨o,c,e⟩:=y (CD i g) (fun z=>R.nz (.inr rfl) (List.eq_nil_of_length_eq_zero (by rw[<-Cd i g,z];rfl)));have x:CT "move" g i=o++[c]:=eP.trans e;refine⟨_,rfl,a,_,0,_,rfl,rfl,Ah.of j,Ec,rfl,_,rfl,Af (by decide) ⟨_,rfl,a,_,0,_,rfl,rfl,Ah.of j,Ec,rfl,_,rfl,BL (by decide) ⟨_,rfl,a,_,2,_,rfl,rfl,Ah.of j,at2,_,rfl,a,_,1,_,rfl,rfl,Ah.of j,Cy,I,p,i,g,rfl,l,R.hp,R.nx (.inr (.inr (.inr rfl))),R.sz,R.sx,by omega,by omega,fun U G J M=>?_⟩⟩⟩;rw[e]at M;exact⟨_,rfl,_,rfl,_,rfl,U,_,rfl,M,fun m k n d=>⟨_,rfl,_,rfl,U,_,_,_,rfl,rfl,Ah.of (n _ _ M),BW o c,AR,fun t u=>fin _ J k m n (by rw[BR]at d;rw[x,List.dropLast_concat];exact d) t u c (by rw[x];simp)⟩⟩
end
end BF
namespace BF
open PySem L2
section
variable{P:Program} {w:World} {K:vA} [A_ K] {mg:Str->Option Value} {base:Heap}
theorem TQ:AU ["row","told"] ["row"] (AL RZ):={}
theorem Xl{tC y:Addr}{f:Addr}{M:FuncData}(F:CL K "needs" "needs" RZ f M)(T:Txt mg)(b:Df P w K mg base "comes_to" ["row"] 4 Cs)(U:mg "WORDS_OF_COMING"=some (.ref tC))(hC:RD K tC H_=true)(X:mg "WORDS_OF_PARTS"=some (.ref y))(hP:RD K y NU=true):Av P w K mg base CP 5 f M ["row"] IA:=by
 refine F.oq TQ fun Y A outer s H vs Q E N h=>?_
 ·obtain⟨r,c,d,Z,p,rfl,R,q⟩:=h;have nd:=TQ.nd;have hu:=An N;refine⟨_,(AD (Ac 1 nd (BB CH)) (AD (AX (AI (B':Dg _ _ (OU K false)) (Bx K 0) (Dx (v:=.ref y) rfl X rfl) rfl) (AE (CK (D' PySem.F.plainAttrs_list PySem.F.slot_list_append PySem.F.type_list_append CI (pv 1) (AO (Bx K 0))))) AK) (AD (AX (AI BO (Bx K 0) AQ (AM _)) (AE (CK (D' PySem.F.plainAttrs_list PySem.F.slot_list_append PySem.F.type_list_append CI (pv 1) (AO (Ai BH (Bx K 0) Ax (Au (Bw BM AG))))))) AK) (AD (AX (AI (B':Dg _ _ (OU K false)) (Bx K 0) (Dx (v:=.ref tC) rfl U rfl) rfl) (AE (CK (D' PySem.F.plainAttrs_list PySem.F.slot_list_append PySem.F.type_list_append CI (pv 1) (AO (CN (r:=EF K) By (Al b N.mm (AO (pv 0))) AG (fun _ _=>rfl)))))) AK) (AE (AH (pv 1))))))),?_⟩;obtain⟨a,rest,rfl,B,iR⟩:=R.ex;refine⟨Nat.zero_le _,fun l hl=>?_⟩;have j:Nd H (upd H l (.lst [])) l [] []:=⟨AF.new hl,hl,AB,.nil⟩;dsimp only[Bm];refine NP (t:=KG _ _ _) (fun C=>∃k,Nd H C l k (nA c d)) (fun H1 ⟨k,m⟩=>?_) (fun g=>?_);rotate_left
  ·have n:=j.same _ _ B;refine⟨_,rfl,a,_,0,.str c,rfl,rfl,Ah.of n,Ec,y,_,rfl,.inr (Ah.lQ hP _),rfl,rfl,_,rfl,?_⟩;refine Eg (fun h=>?_) (fun h=>g _ ⟨[],by unfold nA;rw[h,if_neg Bool.false_ne_true];exact j⟩);refine⟨_,rfl,.inl ⟨rfl,_,Ay.of j.hl⟩,_,rfl,a,_,1,_,rfl,rfl,Ah.of n,Cy,l,_,_,rfl,rfl,j.hl,by decide,g _ ⟨[p],?_⟩⟩;unfold nA;rw[h,if_pos rfl];exact j.push (j.same _ _ R.hp)
  refine NP (t:=KG _ _ _) (fun C=>∃k,Nd H C l k (nA c d++nB c d)) (fun O ⟨o,i⟩=>?_) (fun g=>?_);rotate_left
  ·have u:=m.same _ _ B;have lA:(nA c d).length<=1:=by unfold nA;split<;>simp
   have lp:=m.tu.length;refine⟨_,rfl,a,_,0,.str c,rfl,rfl,Ah.of u,Ec,rfl,_,rfl,?_⟩;refine Bs (fun h=>?_) (fun h=>g _ ⟨k,by unfold nB;rw[if_neg (fun z=>h (by rw[z];rfl)),List.append_nil];exact m⟩);have hw:c="lacks":=V.str.inj (of_decide_eq_true h);obtain⟨D,G,e⟩:∃D G,d=D++[G]:=⟨d.dropLast,d.getLast (R.nx (.inr (.inl hw))),(List.dropLast_concat_getLast _).symm⟩;refine⟨_,rfl,.inl ⟨rfl,_,Ay.of m.hl⟩,_,rfl,a,_,1,_,rfl,rfl,Ah.of u,Cy,_,rfl,_,rfl,p,_,rfl,m.same _ _ R.hp,fun p2 O s2 x=>?_⟩;have i:=m.up s2;rw[e,BR]at x;refine⟨l,_,_,rfl,rfl,i.hl,Aw (by rw[List.length_map];omega),g _ ⟨k++[p2],?_⟩⟩;have eb:nB c d=[D]:=by unfold nB;rw[if_pos hw,e,List.dropLast_concat]
   rw[eb];exact i.push x
  have I:=i.same _ _ B;have R2:=R.up i.same;have lA:(nA c d++nB c d).length<=2:=by
   rw[List.length_append];unfold nA nB;split<;>split<;>simp
  have lp:=i.tu.length;refine⟨_,rfl,a,_,0,.str c,rfl,rfl,Ah.of I,Ec,tC,_,rfl,.inr (Ah.lQ hC _),rfl,rfl,_,rfl,?_⟩;refine Eg (fun h=>?_) (fun h=>⟨_,rfl,q l o O i.same hl i.hl (by unfold BU nC;rw[h,if_neg Bool.false_ne_true,List.append_nil];exact i.tu)⟩);refine⟨_,rfl,.inl ⟨rfl,_,Ay.of i.hl⟩,_,rfl,_,c,d,Z,p,rfl,R2,fun v H3 s3 J=>?_⟩;unfold GD at J;rw[if_pos h]at J;obtain⟨t,h3,G,rfl,ht,hh,_⟩:=J;have S:=i.up s3;refine⟨t,_,0,_,rfl,rfl,Ah.of ht,Ec,l,_,_,rfl,rfl,S.hl,Aw (by rw[List.length_map];omega),_,rfl,?_⟩;have L:=S.push hh;refine q l (o++[h3]) _ L.same hl L.hl ?_;unfold BU nC;rw[h,if_pos rfl];exact L.tu
end
end BF
namespace BF
open PySem L2
section
variable{P:Program} {w:World} {K:vA} [A_ K] {mg:Str->Option Value} {base:Heap}
theorem Xm:AU ["row","coming"] ["row"] (AL Xb):={}
theorem Zz{f:Addr}{L:FuncData}(F:CL K "bars" "bars" Xb f L)(T:Txt mg)(b:Df P w K mg base "is_place" ["step"] 1 Eh)(c:Df P w K mg base "comes_to" ["row"] 4 Cs):Av P w K mg base CP 5 f L ["row"] LC:=by
 refine F.oq Xm fun O A outer s H vs Q E x h=>?_
 ·obtain⟨r,d,i,o,p,rfl,R,q⟩:=h;have nd:=Xm.nd;have hu:=An x;refine⟨_,(AD (AX (AI BO (Bx K 0) AQ (AM _)) (AE (AH (AW (AA (Ai BH (Bx K 0) Ax (Au (Bw BM AG))) (AO (CN (r:=EF K) By (Bx K 0) (Bw BM AG) (fun _ _=>rfl))))))) AK) (AD (Ac 1 nd (Al c x.mm (AO (pv 0)))) (AD (AX (PW.pt (pw_or (AI Fq (pv 1) BA (AM _)) (pw_or1 (Ag (Al b x.mm (AO (Bx K 1))))))) (AE (AH BA)) AK) (AE (AH (pv 1)))))),?_⟩;obtain⟨a,rest,rfl,y,S⟩:=R.ex;refine⟨_,rfl,a,_,0,.str d,rfl,rfl,Ah.of y,Ec,rfl,_,rfl,?_⟩;refine Bs (fun h=>?_) (fun h=>?_)
  ·have hw:d="lacks":=V.str.inj (of_decide_eq_true h);obtain⟨B,g,e⟩:∃B g,i=B++[g]:=⟨i.dropLast,i.getLast (R.nx (.inr (.inl hw))),(List.dropLast_concat_getLast _).symm⟩;have hp:=R.hp;rw[e]at hp;refine⟨_,rfl,a,_,1,_,rfl,rfl,Ah.of y,Cy,_,rfl,_,rfl,p,_,rfl,hp,fun U H2 C j=>?_⟩;rw[BR]at j;refine⟨_,rfl,a,_,1,_,rfl,rfl,Ah.of (C _ _ y),Cy,_,rfl,p,_,_,_,rfl,rfl,Ah.of (C _ _ hp),BW B g,AR,fun t k=>q _ _ (C.trans (AF.new k)) ?_⟩;unfold NW;rw[if_pos hw];exact⟨t,U,g,rfl,AB,by rw[e,List.dropLast_concat];exact AF.new k _ _ j,by rw[e];simp⟩
  have nw:¬d="lacks":=fun z=>h (by rw[z];rfl);refine⟨_,rfl,_,d,i,o,p,rfl,R,fun v M D l=>?_⟩;unfold GD at l;have no:∀(G:Hp),AF H G->¬(Cm (.str d) BY=true/\MT ((CT d i o).getLastD .As)=false)->Q .As G:=fun G sx n=>q _ _ sx (by unfold NW;rw[if_neg nw,if_neg n]);by_cases u:Cm (.str d) BY=true
  ·rw[if_pos u]at l;obtain⟨t,X,g,rfl,k,Y,I⟩:=l;have N:(CT d i o).getLastD .As=g:=by rw[List.getLastD_eq_getLast?,I];rfl
   have Z:Dc.Bi g:=by
    have m:g∈CT d i o:=List.mem_of_getLast? I;unfold CT at m;split at m
    ·exact R.sz _ m
    ·split at m
     ·exact GC R.sz _ m
     ·exact R.sx _ m
   refine⟨_,rfl,rfl,_,rfl,Af rfl ⟨_,rfl,t,_,1,_,rfl,rfl,Ah.of k,Cy,_,rfl,Z,_,rfl,?_⟩⟩;refine MS (fun J=>no M D (fun z=>by rw[N,J]at z;cases z.2)) (fun J=>⟨_,rfl,q _ _ D ?_⟩);unfold NW;rw[if_neg nw,if_pos ⟨u,by rw[N];exact J⟩];exact⟨t,X,g,rfl,k,Y,I⟩
  ·rw[if_neg u]at l;subst l;exact⟨_,rfl,rfl,_,rfl,BL rfl (Aj (no M D fun z=>u z.1))⟩
end
end BF
namespace BF
open PySem L2
section
variable{P:Program} {w:World} {K:vA} [A_ K] {mg:Str->Option Value} {base:Heap}
theorem QB:AU ["row"] ["row"] (AL Nt):={}
theorem U_{f:Addr}{e:FuncData}(F:CL K "leaves" "leaves" Nt f e)(T:Txt mg):Av P w K mg base CP 1 f e ["row"] (Fh [.str "take",.str "move"]):=by
 refine F.oq QB fun i A outer s H m Q E j h=>?_
 ·obtain⟨r,k,n,o,p,rfl,R,q⟩:=h;have nd:=QB.nd;have u:=An j;refine⟨_,(AD (AX (AI (B':Dg _ _ (OU K false)) (Bx K 0) (AW (AA AQ (AO AQ))) rfl) (AE (AH (Bx K 0))) AK) (AE (AH BA))),?_⟩;obtain⟨a,rest,rfl,g,l⟩:=R.ex;refine⟨_,rfl,a,_,0,.str k,rfl,rfl,Ah.of g,Ec,AR,fun t c=>⟨t,_,rfl,.inr (Ah.of AB),rfl,rfl,_,rfl,?_⟩⟩;refine Eg (fun h=>?_) (fun h=>?_)
  ·have d:∀b,AF H b->Q (.ref p) b:=fun b s=>by
    have:=q b s;rw[if_pos h]at this;exact this
   exact⟨_,rfl,a,_,1,_,rfl,rfl,Ah.of (AF.new c _ _ g),Cy,d _ (AF.new c)⟩
  ·have d:∀b,AF H b->Q .As b:=fun b s=>by
    have:=q b s;rw[h,if_neg Bool.false_ne_true]at this;exact this
   exact d _ (AF.new c)
end
end BF
namespace BF
open PySem L2
section
variable{P:Program} {w:World} {K:vA} [A_ K] {mg:Str->Option Value} {base:Heap}
theorem Gj:AU ["holder","place","row","ahead","told","gone","coming"] ["holder","place","row","ahead"] (AL Fc):={}
theorem LR{f:Addr}{fd:FuncData}(F:CL K "place_behind" "place_behind" Fc f fd)(T:Txt mg)(a:Df P w K mg base "is_place" ["step"] 1 Eh)(l:Df P w K mg base "comes_to" ["row"] 4 Cs)(m:Df P w K mg base "leaves" ["row"] 1 (Fh [.str "take",.str "move"])):Av P w K mg base CP 5 f fd ["holder","place","row","ahead"] Na:=by
 refine F.oq Gj fun Ic A outer s H vs Q E D h=>?_
 ·obtain⟨h,n,i,r,d,b,J,p,ah,rfl,X,sh,R,q⟩:=h;have nd:=Gj.nd;have hu:=An D;refine⟨_,(AD (Ac 4 nd (pv 1)) (AD (Ac 5 nd (Al m D.mm (AO (pv 2)))) (AD (AX (PW.pt (pw_and (AI CG (pv 5) BA (AM _)) (pw_and (AI (Gx (BZ.CJ D)) (Ai BH (pv 5) Ax (Au (Bw BM AG))) (pv 0) (AM _)) (pw_and (Ag (Al a D.mm (AO (CN (r:=EF K) By (pv 5) (Bw BM AG) (fun _ _=>rfl))))) (pw_and1 (AI Gh (CN (r:=EF K) By (pv 5) (Bw BM AG) (fun _ _=>rfl)) (pv 1) (AM _))))))) (AE (Ac 4 nd (AV KH (pv 4) AG))) AK) (AD (Ac 6 nd (Al l D.mm (AO (pv 2)))) (AD (AX (PW.pt (pw_or (AI Fq (pv 6) BA (AM _)) (pw_or (AI (Ky (BZ.CJ D)) (Bx K 6) (pv 0) (AM _)) (pw_or1 (EE (Ag (Al a D.mm (AO (Bx K 6))))))))) (AE (AH (pv 4))) AK) (AD (AX (PW.pt (pw_or (AI Gh (Bx K 6) (pv 1) (AM _)) (pw_or1 (PW.pt (pw_and (Ag (pv 3)) (pw_and1 (AI BO (Bx K 6) (pv 1) (AM _)))))))) (AE (AH (AV Bc (pv 4) AG))) AK) (AE (AH (pv 4))))))))),?_⟩;refine⟨_,rfl,_,rfl,r,d,b,J,p,rfl,R,fun H1 Y=>?_⟩;have R1:=R.up Y;have rm:=Y _ _ X;dsimp only[Bm];refine Co (t:=KG _ _ _) (fun σ H'=>AF H H'/\∃g,σ=[some (.ref h),some (.int i),some r,some (.bl ah),some (.int (Cp n i d b)),g,none]) (fun σ' H' z=>?_) (fun k=>?_)
  ·obtain⟨o,g,rfl⟩:=z;refine⟨_,rfl,r,d,b,J,p,rfl,R.up o,fun v Z I L=>?_⟩;have ro:=I _ _ (o _ _ X);unfold GD at L;have no:∀B,AF H B->DW n i d b J ah=0->Q (.int (Cp n i d b)) B:=fun B sx e=>by
    have:=q B sx;rw[e,Int.add_zero]at this;exact this
   by_cases hc:Cm (.str d) BY=true
   ·rw[if_pos hc]at L;obtain⟨t,h3,x,rfl,ht,X,hg⟩:=L;have st:=CU (w:=d) R.sx R.sz;have sv:Dc.Bi x:=st x (List.mem_of_getLast? hg);have sd:steps (CT d b J).dropLast:=fun z u=>st z (List.dropLast_subset _ u);refine⟨_,rfl,rfl,_,rfl,Af rfl ⟨_,rfl,t,_,0,_,rfl,rfl,Ah.of ht,Ec,_,rfl,h3,h,_,n,rfl,rfl,Ah.of X,Ah.of ro,(fun z u=>(sd z u).flat),(fun z u=>(sh z u).flat),_,rfl,?_⟩⟩;cases M:BQ (CT d b J).dropLast n with
    |false=>exact Aj (Aj ⟨_,rfl,no _ (o.trans I) (Zd M)⟩)
    |true=>
     refine Ae ⟨_,rfl,t,_,1,_,rfl,rfl,Ah.of ht,Cy,_,rfl,sv,_,rfl,?_⟩;rcases sv with⟨j,rfl⟩|⟨kk,rfl,_⟩
     ·refine Ae ⟨_,rfl,t,_,1,_,rfl,rfl,Ah.of ht,Cy,_,rfl,_,_,rfl,rfl,_,rfl,?_⟩;have mo:=Wy (i:=i) (ah:=ah) hg hc M;have N:((j:Int)<i∨(ah=true/\(j:Int)=i))->Q (.int (Cp n i d b+1)) Z:=fun c=>by
       have:=q Z (o.trans I);rw[mo,if_pos c]at this;exact this
      have O:¬((j:Int)<i∨(ah=true/\(j:Int)=i))->Q (.int (Cp n i d b)) Z:=fun c=>no Z (o.trans I) (by rw[mo,if_neg c]);refine Bs (fun c=>Aj ⟨_,rfl,_,_,rfl,rfl,N (.inl (of_decide_eq_true c))⟩) (fun c=>?_);have nc:¬(j:Int)<i:=fun z=>c (decide_eq_true z);refine⟨_,rfl,_,rfl,?_⟩;cases ah with
      |false=>exact Ae (Ae ⟨_,rfl,O (fun z=>z.elim nc fun z=>Bool.false_ne_true z.1)⟩)
      |true=>
       refine Aj ⟨_,rfl,t,_,1,_,rfl,rfl,Ah.of ht,Cy,_,rfl,rfl,_,rfl,?_⟩;refine Bs (fun c2=>⟨_,rfl,_,_,rfl,rfl,N (.inr ⟨rfl,V.int.inj (of_decide_eq_true c2)⟩)⟩) (fun c2=>⟨_,rfl,O (fun z=>z.elim nc fun z=>c2 (decide_eq_true (congrArg V.int z.2)))⟩)
     ·exact Aj ⟨_,rfl,no _ (o.trans I) (Wx hg)⟩
   ·rw[if_neg hc]at L;subst L;exact⟨_,rfl,rfl,_,rfl,BL rfl (Aj ⟨_,rfl,no _ (o.trans I) (dI hc)⟩)⟩
  have fin:∀(g:Option V) B,AF H B->Cp n i d b=i->(AF H B/\∃g',[some (V.ref h),some (V.int i),some r,some (V.bl ah),some (V.int i),g,none]=[some (V.ref h),some (V.int i),some r,some (V.bl ah),some (V.int (Cp n i d b)),g',none]):=fun g B sx e=>⟨sx,g,by rw[e]⟩;by_cases hw:Cm (.str d) [.str "take",.str "move"]=true
  ·rw[if_pos hw];have nx:=R.nx (.inr (.inr (la.mp hw)));obtain⟨C,x,e⟩:∃C x,b=C++[x]:=⟨b.dropLast,b.getLast nx,(List.dropLast_concat_getLast nx).symm⟩;have G:=R1.hp;rw[e]at G;have sd:steps C:=fun z u=>R.sx z (by rw[e];exact List.mem_append_left _ u);have sl:Dc.Bi x:=R.sx x (by rw[e];simp);have ed:b.dropLast=C:=by rw[e,List.dropLast_concat]
   have gl:b.getLast?=some x:=by rw[e];simp
   refine⟨_,rfl,rfl,_,rfl,BL rfl ⟨_,rfl,_,rfl,_,rfl,p,_,rfl,G,fun p1 H2 o S=>?_⟩⟩;rw[BR]at S;have U:=o _ _ G;have y:=Y.trans o;refine⟨_,rfl,p1,h,C,n,rfl,rfl,Ah.of S,Ah.of (o _ _ rm),(fun z u=>(sd z u).flat),(fun z u=>(sh z u).flat),_,rfl,?_⟩;cases M:BQ C n with
   |false=>exact Ae (Ae (k _ _ (fin _ _ y (Ze (by rw[ed];exact M)))))
   |true=>
    refine Aj ⟨_,rfl,_,rfl,p,_,_,_,rfl,rfl,Ah.of U,BW C x,_,rfl,sl,_,rfl,?_⟩;rcases sl with⟨j,rfl⟩|⟨kk,rfl,_⟩
    ·have le:=less_int (i:=i) gl hw (by rw[ed];exact M);refine Aj ⟨_,rfl,_,rfl,p,_,_,_,rfl,rfl,Ah.of U,BW C _,_,rfl,_,_,rfl,rfl,_,rfl,?_⟩;refine Bs (fun c=>⟨_,rfl,_,_,rfl,rfl,k _ _ ⟨y,some (.ref p),?_⟩⟩) (fun c=>k _ _ (fin _ _ y ?_))
     ·rw[le,if_pos (of_decide_eq_true c)];rfl
     ·rw[le,if_neg fun z=>c (decide_eq_true z)]
    ·exact Ae (Ae (k _ _ (fin _ _ y (Wz gl))))
  ·rw[if_neg hw];exact⟨_,rfl,rfl,_,rfl,Af rfl (Ae (k _ _ (fin _ _ Y (dJ hw))))⟩
end
end BF
namespace BF
open PySem L2
section
variable{P:Program} {w:World} {K:vA} [A_ K] {mg:Str->Option Value} {base:Heap}
theorem IK:AU ["holder","step","row"] ["holder","step","row"] (AL GR):={}
theorem Lj{f:Addr}{d:FuncData}(F:CL K "step_behind" "step_behind" GR f d)(T:Txt mg)(b:Df P w K mg base "is_place" ["step"] 1 Eh)(a:Df P w K mg base "place_behind" ["holder","place","row","ahead"] 5 Na):Av P w K mg base CP 6 f d ["holder","step","row"] Sx:=by
 refine F.oq IK fun g A outer s H u Q E c h=>?_
 ·obtain⟨h,j,z,r,l,m,n,p,rfl,o,t,e,R,q⟩:=h;have nd:=IK.nd;have v:=An c;refine⟨_,(AD (AX (Ag (Al b c.mm (AO (pv 1)))) (AE (AH (Al a c.mm (AA (pv 0) (AA (pv 1) (AA (pv 2) (AO Cz))))))) AK) (AE (AH (pv 1)))),?_⟩;refine⟨_,rfl,z,rfl,e,_,rfl,?_⟩;rcases e with⟨i,rfl⟩|⟨k,rfl,_⟩
  ·exact Aj ⟨_,rfl,_,rfl,_,rfl,h,j,_,r,l,m,n,p,true,rfl,o,t,R,q⟩
  ·exact Ae ⟨_,rfl,q H (AF.refl _)⟩
end
end BF
namespace BF
open PySem L2
section
variable{P:Program} {w:World} {K:vA} [A_ K] {mg:Str->Option Value} {base:Heap}
theorem TR:AU ["path","row","gone","taken"] ["path","row"] (AL Ra):={}
theorem Xn{f:Addr}{fd:FuncData}(F:CL K "after" "after" Ra f fd)(T:Txt mg)(d:Df P w K mg base "begins" ["one","other"] 1 IJ)(o:Df P w K mg base "gone_by" ["row"] 1 (Fh [.str "take",.str "change"]))(m:Df P w K mg base "moved_by" ["row"] 1 Ei)(c:Df P w K mg base "step_behind" ["holder","step","row"] 6 Sx)(J:mg "enumerate"=none):Av P w K mg base CP 7 f fd ["path","row"] Nb:=by
 refine F.oq TR fun Ic A outer s H vs Q E N h=>?_
 ·obtain⟨t,e,r,u,j,B,p,rfl,ht,I,lq,R,q⟩:=h;have nd:=TR.nd;have hu:=An N;refine⟨_,(AD (Ac 2 nd (Al o N.mm (AO (pv 1)))) (AD (AX (PW.pt (pw_and (AI CG (pv 2) BA (AM _)) (pw_and1 (Ag (Al d N.mm (AA (pv 2) (AO (pv 0)))))))) (AE (AH BA)) AK) (AD (Ac 3 nd (Al m N.mm (AO (pv 1)))) (AD (AX (PW.pt (pw_and (AI CG (pv 3) BA (AM _)) (pw_and1 (Ag (Al d N.mm (AA (pv 3) (AO (pv 0)))))))) (AE (AH (AV Bf (Bx K 1) (Ai BH (pv 0) (Au (DS T.len (pv 3))) Ax)))) AK) (AE (AH (Cq Gi rfl T.tuple NL (AO (Wt (fv:=["row","path"]) (fs:=[1,0]) rfl (.of (by rfl)) (Zc rfl J Pb (AO (pv 0))) (fun _ _ _ _=>Sd) (fun C s0 H0 fp=>(Al c N.mm (AA (Ai BH (pv 3) Ax (Au (pv 0))) (AA (pv 1) (AO (pv 2))))))))))))))),?_⟩;have fx:∀z∈j,CO z=true:=fun z L=>(R.sx z L).flat;have fq:∀z∈e,CO z=true:=fun z L=>(I z L).flat;refine⟨_,rfl,r,u,j,B,p,rfl,R,fun H1 O=>?_⟩;dsimp only[Bm];have fN:=O _ _ ht;have R1:=R.up O;refine Co (t:=KG _ _ _) (fun σ H'=>AF H H'/\(∃g,σ=[some (.ref t),some r,g,none])/\¬(Cm (.str u) [.str "take",.str "change"]=true/\j<+:e)) (fun σ' H2 z=>?_) (fun k=>?_)
  ·obtain⟨S,⟨g,rfl⟩,c1⟩:=z;have R2:=R.up S;have U:=S _ _ ht;refine⟨_,rfl,r,u,j,B,p,rfl,R2,?_⟩;dsimp only[Bm];refine Co (t:=KG _ _ _) (fun σ H'=>AF H H'/\(∃g g3,σ=[some (.ref t),some r,g,g3])/\¬(u="move"/\j<+:e)) (fun σ' H3 z=>?_) (fun k=>?_)
   ·obtain⟨n,⟨g,g3,rfl⟩,c2⟩:=z;have v:=n _ _ ht;have V:B_ u j B e=some (fH u j B [] e):=by
     unfold B_;rw[if_neg c1,if_neg c2,bH R.sx R.sz e [] (fun z L=>nomatch L) I,Pg,Pg]
    refine⟨_,rfl,t,e,rfl,Ah.of v,?_⟩;refine Ud (fun i y=>∀s,e[i]?=some s->y=fG u j B (e.take i) s) (Ah.of v) (Ap (by omega)) (fun i x H4 Rk hx M k=>?_) (fun D H4 ys hD M rp ly oy=>?_)
    ·refine⟨_,rfl,_,rfl,_,rfl,t,e,rfl,M _ _ v,fun p5 H5 s5 G=>?_⟩;rw[DO]at G;have s45:=M.trans s5;refine⟨_,rfl,_,rfl,p5,e.take i,x,r,u,j,B,p,rfl,G,(fun z L=>I z (List.mem_of_mem_take L)),I x (u_ hx),(R.up n).up s45,fun H6 s6=>k _ _ (s5.trans s6) fun s' X=>?_⟩;rw[hx]at X;cases X;cases x<;>rfl
    ·refine⟨D,ys,rfl,.inl ⟨Ay.of rp,fun l hl=>q _ _ ((n.trans M).trans (AF.new hl)) ?_⟩⟩;rw[V,<-go_eq e [] ys ly fun i y s h1 h2=>oy i y h1 s h2];exact⟨l,rfl,AB⟩
   ·by_cases hw:u="move"
    ·subst hw;rw[if_pos (by decide)];obtain⟨a,rest,er,ha,iR⟩:=R2.ex;obtain⟨p2,rfl,Zx⟩:=iR (.inr rfl);refine⟨_,rfl,rfl,_,rfl,BL rfl ⟨_,rfl,_,rfl,p,t,j,e,rfl,R2.hp,U,fx,fq,fun H3 n=>⟨_,rfl,?_⟩⟩⟩;have v:=n _ _ U;refine Bs (fun b=>?_) (fun b=>k _ _ ⟨S.trans n,⟨_,_,rfl⟩,fun z=>b ((pre_take R.sx I).mpr z.2)⟩);have Y:=(pre_take R.sx I).mp b;have l1:=R.lz;refine⟨_,rfl,a,_,2,_,er,rfl,Ah.of (n _ _ ha),at2,?_⟩;refine⟨_,rfl,_,rfl,p,_,rfl,.inr (Ah.of (n _ _ R2.hp)),_,rfl,t,_,rfl,v,fun p4 H4 M Z=>?_⟩;rw[Ga]at Z;refine⟨p2,p4,_,_,rfl,rfl,M _ _ (n _ _ Zx),Z,Ap (by rw[List.length_drop];omega),fun p5 H5 s5 G=>q _ _ (((S.trans n).trans M).trans s5) ?_⟩;have V:B_ "move" j B e=some (B++e.drop j.length):=by
      unfold B_;rw[if_neg c1,if_pos ⟨rfl,Y⟩]
     rw[V];exact⟨p5,rfl,G⟩
    ·rw[if_neg (by simpa using hw)];exact⟨_,rfl,rfl,_,rfl,Af rfl (Ae (k _ _ ⟨S,⟨_,_,rfl⟩,fun z=>hw z.1⟩))⟩
  ·by_cases hw:Cm (.str u) [.str "take",.str "change"]=true
   ·rw[if_pos hw];refine⟨_,rfl,rfl,_,rfl,BL rfl ⟨_,rfl,_,rfl,p,t,j,e,rfl,R1.hp,fN,fx,fq,fun H3 n=>⟨_,rfl,?_⟩⟩⟩;refine Bs (fun b=>q _ _ (O.trans n) ?_) (fun b=>k _ _ ⟨O.trans n,⟨_,rfl⟩,fun z=>b ((pre_take R.sx I).mpr z.2)⟩);have V:B_ u j B e=none:=by
     unfold B_;rw[if_pos ⟨hw,(pre_take R.sx I).mp b⟩]
    rw[V];rfl
   ·rw[if_neg hw];exact⟨_,rfl,rfl,_,rfl,Af rfl (Ae (k _ _ ⟨O,⟨_,rfl⟩,fun z=>hw z.1⟩))⟩
end
end BF
namespace BF
open PySem L2
section
variable{P:Program} {w:World} {K:vA} [A_ K] {mg:Str->Option Value} {base:Heap}
theorem Ja:AU ["one","other"] ["one","other"] (AL HN):={}
theorem OG{f:Addr}{r:FuncData}(F:CL K "does_begin" "does_begin" HN f r)(T:Txt mg)(d:Df P w K mg base "begins" ["one","other"] 1 IJ):Av P w K mg base CP 2 f r ["one","other"] FY:=by
 refine F.oq Ja fun y A outer s H J Q E t h=>?_
 ·obtain⟨u,v,a,b,rfl,j,k,B,C,q⟩:=h;have nd:=Ja.nd;have L:=An t;refine⟨_,(AE (AH (Ci (Be CG (pv 0) BA (AM _)) (Ci (Be CG (pv 1) BA (AM _)) (DY (Al d t.mm (AA (pv 0) (AO (pv 1))))))))),?_⟩;have x:=AF.refl H;cases a with
  |none=>
   rw[show u=V.As from j];exact⟨_,rfl,rfl,_,rfl,Ae (q _ x)⟩
  |some g=>
   obtain⟨p,rfl,D⟩:=j;cases b with
   |none=>
    rw[show v=V.As from k];exact⟨_,rfl,rfl,_,rfl,Aj ⟨_,rfl,rfl,_,rfl,Ae (q _ x)⟩⟩
   |some i=>
    obtain⟨G,rfl,l⟩:=k;have m:=B g rfl;have n:=C i rfl;refine⟨_,rfl,rfl,_,rfl,Aj ⟨_,rfl,rfl,_,rfl,Aj ⟨_,rfl,_,rfl,p,G,g,i,rfl,D,l,(fun z o=>(m z o).flat),(fun z o=>(n z o).flat),fun M I=>?_⟩⟩⟩;have e:BQ (i.take g.length) g=Bd (some g) (some i):=by
     show _=decide (g<+:i);by_cases c:g<+:i
     ·rw[decide_eq_true c,(pre_take m n).mpr c]
     ·rw[decide_eq_false c];exact Bool.eq_false_iff.mpr fun z=>c ((pre_take m n).mp z)
    rw[e];exact q _ I
end
end BF
namespace BF
open PySem L2
section
variable{P:Program} {w:World} {K:vA} [A_ K] {mg:Str->Option Value} {base:Heap}
theorem IL:AU ["path","others"] ["path","others"] (AL GS):={}
theorem Lk{f:Addr}{B:FuncData}(F:CL K "begins_some" "begins_some" GS f B)(T:Txt mg)(b:Df P w K mg base "does_begin" ["one","other"] 2 FY):Av P w K mg base CP 3 f B ["path","others"] Iy:=by
 refine F.oq IL fun L A outer s H X Q E C h=>?_
 ·obtain⟨u,a,l,g,d,rfl,t,M,n,G,N,Y,q⟩:=h;have nd:=IL.nd;have Z:=An C;refine⟨_,(AE (AH (Aa (Wn rfl) rfl T.any gp (AO (cmp ["path"] [0] (DB (pv 1)) fun _ _ _ _=>(Al b C.mm (AA (pv 1) (AO (pv 0))))))))),?_⟩;have O:Ay K H l (g.map V.ref):=Ay.of n;have R:=G.length;refine⟨_,rfl,l,rfl,⟨_,O⟩,?_⟩;refine Js g.length (fun i=>(g.map V.ref).getD i .As) (fun D i I=>AF H I/\I D=some (.lst ((((d.take i).map fun y=>Bd a (some y)).map V.bl)))) (fun D o=>⟨AF.new o,AB⟩) (fun D i p x ⟨c,_⟩=>⟨_,_,Ay.of (c _ _ n),ux (by simp;omega)⟩) (fun D i p v H' x ⟨c,_⟩ y=>?_) (fun D p ⟨c,_⟩=>⟨_,Ay.of (c _ _ n),by simp⟩) (fun D i p o x ⟨c,r⟩=>?_) (fun D p o ⟨c,r⟩=>?_)
  ·obtain⟨e,y⟩:=y;refine⟨?_,e⟩;rw[List.getD_eq_getElem?_getD,y _ (Ay.of (c _ _ n))];rfl
  ·obtain⟨j,k⟩:∃j,g[i]?=some j:=⟨_,ux x⟩;obtain⟨S,m,z⟩:=G.get k;have U:(g.map V.ref).getD i .As=.ref j:=by rw[List.getD_eq_getElem?_getD,List.getElem?_map,k];rfl
   rw[U];refine⟨_,rfl,_,rfl,u,.ref j,a,some S,rfl,t.up c,⟨j,rfl,c _ _ z⟩,M,fun ys e=>by cases e;exact N _ (u_ m),fun H4 J=>?_⟩;refine⟨_,J _ _ r,Aw (by simp;omega),(c.trans J).put o,?_⟩;rw[AB,List.take_add_one,m];simp
  ·rw[R,List.take_length]at r;refine⟨D,d.map fun y=>Bd a (some y),rfl,Ay.of r,?_⟩;have e:(d.map fun y=>Bd a (some y)).any id=CM a d:=by unfold CM;rw[List.any_map];rfl
   rw[e];exact q _ c
end
end BF
namespace BF
open PySem L2
section
variable{P:Program} {w:World} {K:vA} [A_ K] {mg:Str->Option Value} {base:Heap}
theorem FN:AU ["row","coming"] ["row"] (AL EI):={}
theorem IM{f:Addr}{i:FuncData}(F:CL K "holder_of_coming" "holder_of_coming" EI f i)(T:Txt mg)(a:Df P w K mg base "comes_to" ["row"] 4 Cs):Av P w K mg base CP 5 f i ["row"] RS:=by
 refine F.oq FN fun m A outer s H x Q E j h=>?_
 ·obtain⟨r,b,d,g,p,rfl,R,q⟩:=h;have nd:=FN.nd;have y:=An j;refine⟨_,(AD (Ac 1 nd (Al a j.mm (AO (pv 0)))) (AD (AX (AI Fq (pv 1) BA (AM _)) (AE (AH BA)) AK) (AE (AH (Bx K 1))))),?_⟩;refine⟨_,rfl,r,b,d,g,p,rfl,R,fun v z k c=>?_⟩;unfold GD at c;have e:CZ b d g=if Cm (.str b) BY=true then some (CT b d g).dropLast else none:=rfl;by_cases l:Cm (.str b) BY=true
  ·rw[if_pos l]at c e;obtain⟨t,n,B,rfl,o,u,C⟩:=c;refine⟨_,rfl,rfl,_,rfl,Ae ⟨_,rfl,t,_,0,_,rfl,rfl,Ah.of o,Ec,q _ _ k ?_⟩⟩;rw[e];exact⟨n,rfl,u⟩
  ·rw[if_neg l]at c e;subst c;refine⟨_,rfl,rfl,_,rfl,Aj (q _ _ k ?_)⟩;rw[e];rfl
end
end BF
namespace BF
open PySem L2
section
variable{P:Program} {w:World} {K:vA} [A_ K] {mg:Str->Option Value} {base:Heap}
theorem IQ:AU ["one","other","path","moved"] ["one","other"] (AL GU):={}
theorem Ll{f:Addr}{fd:FuncData}(F:CL K "spoils_read" "spoils_read" GU f fd)(T:Txt mg)(l:Df P w K mg base "gone_by" ["row"] 1 (Fh [.str "take",.str "change"]))(k:Df P w K mg base "moved_by" ["row"] 1 Ei)(o:Df P w K mg base "reads" ["row"] 1 (Fh [.str "ask",.str "copy"]))(a:Df P w K mg base "does_begin" ["one","other"] 2 FY)(d:Df P w K mg base "holder_of_coming" ["row"] 5 RS):Av P w K mg base CP 6 f fd ["one","other"] (DM Du):=by
 refine F.oq IQ fun Ic A outer s H vs Q E t h=>?_
 ·obtain⟨r,g,i,zs,p,M,e,b,j,G,rfl,R,R2,q⟩:=h;have nd:=IQ.nd;have hu:=An t;refine⟨_,(AD (Ac 2 nd (Al o t.mm (AO (pv 0)))) (AD (Ac 3 nd (Al k t.mm (AO (pv 1)))) (AD (AX (PW.pt (pw_or (Ag (Al a t.mm (AA (pv 2) (AO (Al l t.mm (AO (pv 1))))))) (pw_or1 (Ag (Al a t.mm (AA (pv 2) (AO (Al d t.mm (AO (pv 1)))))))))) (AE (AH Cz)) AK) (AE (AH (Ci (Al a t.mm (AA (pv 2) (AO (pv 3)))) (DY (Be (Ky (BZ.CJ t)) (pv 2) (pv 3) (AM _))))))))),?_⟩;refine⟨_,rfl,r,g,i,zs,p,rfl,R,fun H1 I=>?_⟩;have a1:=Iw (w:=g) (ws:=[.str "ask",.str "copy"]) (I _ _ R.hp);have eR:(if Cm (.str g) [.str "ask",.str "copy"]=true then some i else none)=Az g i:=rfl;rw[eR]at a1;have J:=IG (w:=g) R.sx;generalize(if Cm (.str g) [.str "ask",.str "copy"]=true then V.ref p else V.As)=pv at a1⊢;have m:=R2.up I;refine⟨_,rfl,M,e,b,j,G,rfl,m,?_⟩;have a2:=EX (w:=e) m.hp;have sM:=Ce (w:=e) R2.sx;generalize(if decide (V.str e=.str "move")=true then V.ref G else V.As)=mv at a2⊢;refine⟨_,rfl,_,rfl,M,e,b,j,G,rfl,m,fun H2 v=>?_⟩;have a3:=Iw (w:=e) (ws:=[.str "take",.str "change"]) (m.up v).hp;have sG:=Ek (w:=e) R2.sx;have eG:(if Cm (.str e) [.str "take",.str "change"]=true then some b else none)=Bq e b:=rfl;rw[eG]at a3;refine⟨_,_,Az g i,Bq e b,rfl,a1.up v,a3,J,sG,fun H3 N=>⟨_,rfl,?_⟩⟩;have O:=I.trans (v.trans N);have S:Du g i zs e b j=(Bd (Az g i) (Bq e b)||Bd (Az g i) (CZ e b j)||(Bd (Az g i) (Aq e b)&& !decide (Az g i=Aq e b))):=rfl;cases c1:Bd (Az g i) (Bq e b)with
  |true=>
   refine Aj (Aj ?_);have:=q H3 O;rw[S,c1]at this;exact this
  |false=>
  refine Ae ⟨_,rfl,_,rfl,M,e,b,j,G,rfl,(m.up v).up N,fun hv H4 s4 ah=>?_⟩;have x:=v.trans (N.trans s4);refine⟨_,_,Az g i,CZ e b j,rfl,a1.up x,ah,J,GK R2.sx R2.sz,fun H5 s5=>⟨_,rfl,?_⟩⟩;have n:=x.trans s5;have y:=I.trans n;cases c2:Bd (Az g i) (CZ e b j)with
  |true=>
   refine Aj ?_;have:=q H5 y;rw[S,c1,c2]at this;exact this
  |false=>
  refine Ae ⟨_,rfl,_,rfl,_,_,Az g i,Aq e b,rfl,a1.up n,a2.up n,J,sM,fun H6 U=>?_⟩;have X:=y.trans U;have u:=q H6 X;rw[S,c1,c2]at u;cases c3:Bd (Az g i) (Aq e b)with
  |false=>
   rw[c3]at u;exact⟨_,rfl,Ae u⟩
  |true=>
   rw[c3]at u;refine⟨_,rfl,Aj ?_⟩;have a16:=a1.up (n.trans U);have a26:=a2.up (n.trans U);cases B:Az g i with
   |none=>rw[B]at c3;cases c3
   |some C=>
    cases L:Aq e b with
    |none=>rw[B,L]at c3;cases c3
    |some D=>
     rw[B]at a16;rw[L]at a26;obtain⟨p5,rfl,h5⟩:=a16;obtain⟨p6,rfl,h6⟩:=a26;have Y:=J C B;have Z:=sM D L;refine⟨_,rfl,_,rfl,p5,p6,C,D,rfl,rfl,Ah.of h5,Ah.of h6,(fun z hz=>(Y z hz).flat),(fun z hz=>(Z z hz).flat),?_⟩;rw[B,L]at u;have ee:BQ C D=decide ((some C:Option (List V))=some D):=by
      by_cases c:C=D
      ·rw[decide_eq_true (by rw[c]),(Bk Y Z).mpr c]
      ·rw[decide_eq_false (by simpa using c)];exact Bool.eq_false_iff.mpr fun z=>c ((Bk Y Z).mp z)
     rw[ee];exact u
end
end BF
namespace BF
open PySem L2
section
variable{P:Program} {w:World} {K:vA} [A_ K] {mg:Str->Option Value} {base:Heap}
theorem LS:AU ["one","other"] ["one","other"] (AL JC):={}
theorem QC{f:Addr}{x:FuncData}(F:CL K "bars_same" "bars_same" JC f x)(T:Txt mg)(b:Df P w K mg base "bars" ["row"] 5 LC):Av P w K mg base CP 6 f x ["one","other"] (DM Br):=by
 refine F.oq LS fun D A outer s H X Q E k h=>?_
 ·obtain⟨r,d,e,g,p,G,n,i,j,I,rfl,R,R2,q⟩:=h;have nd:=LS.nd;have Y:=An k;refine⟨_,(AE (AH (Ci (Be KI (Bx K 0) AQ (AM _)) (Ci (Be CG (Al b k.mm (AO (pv 0))) BA (AM _)) (DY (Be (XQ (BZ.units k):Dg _ _ dX) (Al b k.mm (AO (pv 0))) (Al b k.mm (AO (pv 1))) (AM _))))))),?_⟩;obtain⟨a,rest,J,L,_⟩:=R.ex;have M:Br d e g n i j=(!decide (d="lacks")&&(Cu d e g).isSome&&decide (Cu d e g=Cu n i j)):=rfl;rw[M]at q;refine⟨_,rfl,a,_,0,.str d,J,rfl,Ah.of L,Ec,rfl,_,rfl,?_⟩;have N:decide (V.str d=V.str "lacks")=decide (d="lacks"):=by
   by_cases c:d="lacks"
   ·rw[decide_eq_true c,decide_eq_true (by rw[c])]
   ·rw[decide_eq_false c,decide_eq_false (by simpa using c)]
  rw[N];cases y:decide (d="lacks")with
  |true=>
   have:=q H (AF.refl _);rw[y]at this;exact Ae this
  |false=>
  rw[y]at q;refine Aj ⟨_,rfl,r,d,e,g,p,rfl,R,fun v O l S=>?_⟩;have m:=GL S;have U:(!decide (v=V.As))=(Cu d e g).isSome:=by
   cases z:Cu d e g with
   |none=>rw[z]at m;rw[show v=V.As from m];rfl
   |some Z=>rw[z]at m;obtain⟨t,h3,lv,rfl,_⟩:=m;rfl
  refine⟨rfl,_,rfl,?_⟩;rw[U];cases c1:(Cu d e g).isSome with
  |false=>
   have:=q O l;rw[c1]at this;exact Ae this
  |true=>
   rw[c1]at q;refine Aj ⟨_,rfl,r,d,e,g,p,rfl,R.up l,fun v1 H2 B o=>⟨_,rfl,G,n,i,j,I,rfl,(R2.up l).up B,fun v2 H3 C u=>?_⟩⟩;exact⟨_,_,(GL o).up C,GL u,Dv R.sx R.sz,Dv R2.sx R2.sz,q _ ((l.trans B).trans C)⟩
end
end BF
namespace BF
open PySem L2
section
variable{P:Program} {w:World} {K:vA} [A_ K] {mg:Str->Option Value} {base:Heap}
theorem IS:AU ["one","other","barred"] ["one","other"] (AL GV):={}
theorem Lm{f:Addr}{G:FuncData}(F:CL K "bars_needed" "bars_needed" GV f G)(T:Txt mg)(b:Df P w K mg base "needs" ["row"] 5 IA)(i:Df P w K mg base "bars" ["row"] 5 LC)(a:Df P w K mg base "begins_some" ["path","others"] 3 Iy):Av P w K mg base CP 6 f G ["one","other"] (DM Cg):=by
 refine F.oq IS fun O A outer s H vs Q E m h=>?_
 ·obtain⟨r,n,u,x,p,S,y,c,d,U,rfl,R,R2,q⟩:=h;have nd:=IS.nd;have hu:=An m;refine⟨_,(AD (Ac 2 nd (Al i m.mm (AO (pv 0)))) (AE (AH (Ci (Be CG (pv 2) BA (AM _)) (DY (Al a m.mm (AA (AV Bf (Bx K 2) (AW (AO (Bx K 2)))) (AO (Al b m.mm (AO (pv 1))))))))))),?_⟩;refine⟨_,rfl,r,n,u,x,p,rfl,R,fun v X I Y=>?_⟩;have z:=GL Y;have Z:Cg n u x y c d=CM (Cu n u x) (BU y c d):=rfl;rw[Z]at q;cases B:Cu n u x with
  |none=>
   rw[B]at z q;rw[show v=V.As from z];refine⟨_,rfl,rfl,_,rfl,Ae ?_⟩;have:=q X I;have e0:CM none (BU y c d)=false:=by unfold CM;simp[Bd]
   rw[e0]at this;exact this
  |some J=>
   have ly:=Pn B R.lx R.lz;have sy:=Dv R.sx R.sz J B;rw[B]at z q;obtain⟨t,h3,lv,rfl,L,hh,hg⟩:=z;have C:=EY hg;refine⟨_,rfl,rfl,_,rfl,Aj ?_⟩;refine⟨_,rfl,t,_,0,_,rfl,rfl,Ah.of L,Ec,_,rfl,t,_,1,_,rfl,rfl,Ah.of L,Cy,BI,fun g D=>?_⟩;have M:=AF.new (o:=.tup [lv]) D;refine⟨h3,g,_,_,rfl,rfl,M _ _ hh,AB,Ap (by simp;omega),fun g2 H2 s2 j=>?_⟩;rw[<-C]at j;have k:=I.trans (M.trans s2);refine⟨_,rfl,S,y,c,d,U,rfl,R2.up k,fun l ps H3 N nl hl tu=>?_⟩;exact⟨_,some J,l,ps,_,rfl,⟨g2,rfl,N _ _ j⟩,(fun us e=>by cases e;exact sy),hl,tu,GF R2.sx R2.sz,Nat.le_trans MZ (by decide),fun H4 s4=>q _ ((k.trans N).trans s4)⟩
end
end BF
namespace BF
open PySem L2
section
variable{P:Program} {w:World} {K:vA} [A_ K] {mg:Str->Option Value} {base:Heap}
theorem Jb:AU ["one","other"] ["one","other"] (AL HP):={}
theorem OH{f:Addr}{m:FuncData}(F:CL K "moves_same" "moves_same" HP f m)(T:Txt mg)(a:Df P w K mg base "moved_by" ["row"] 1 Ei):Av P w K mg base CP 6 f m ["one","other"] (DM Bv):=by
 refine F.oq Jb fun n A outer s H x Q E g h=>?_
 ·obtain⟨r,b,e,l,p,o,k,d,i,t,rfl,R,R2,q⟩:=h;have nd:=Jb.nd;have y:=An g;refine⟨_,(AE (AH (Ci (Be CG (Al a g.mm (AO (pv 0))) BA (AM _)) (DY (Be (dW (BZ.CJ g):Dg _ _ iD) (Al a g.mm (AO (pv 0))) (Al a g.mm (AO (pv 1))) (AM _)))))),?_⟩;refine⟨_,rfl,r,b,e,l,p,rfl,R,?_⟩;have a1:=EX (w:=b) R.hp;have u:Bv b e l k d i=((Aq b e).isSome&&decide (Aq b e=Aq k d)):=rfl;have j:=q H (AF.refl _);rw[u]at j;have v:(!decide ((if decide (V.str b=.str "move")=true then V.ref p else V.As)=V.As))=(Aq b e).isSome:=by
   unfold Aq;by_cases c:b="move"
   ·rw[if_pos c,if_pos (by rw[c];decide)];rfl
   ·rw[if_neg c,if_neg (by simpa using c)];rfl
  refine⟨rfl,_,rfl,?_⟩;rw[v];cases c1:(Aq b e).isSome with
  |false=>
   rw[c1]at j;exact Ae j
  |true=>
   rw[c1]at j;refine Aj ⟨_,rfl,r,b,e,l,p,rfl,R,_,rfl,o,k,d,i,t,rfl,R2,?_⟩;exact⟨Aq b e,Aq k d,a1,EX R2.hp,Ce R.sx,Ce R2.sx,j⟩
end
end BF
namespace BF
open PySem L2
section
variable{P:Program} {w:World} {K:vA} [A_ K] {mg:Str->Option Value} {base:Heap}
theorem Jc:AU ["one","other"] ["one","other"] (AL HQ):={}
theorem OI{f:Addr}{j:FuncData}(F:CL K "moves_into" "moves_into" HQ f j)(T:Txt mg)(c:Df P w K mg base "moved_by" ["row"] 1 Ei)(b:Df P w K mg base "does_begin" ["one","other"] 2 FY)(a:Df P w K mg base "holder_of_coming" ["row"] 5 RS):Av P w K mg base CP 6 f j ["one","other"] (DM Bh):=by
 refine F.oq Jc fun n A outer s H y Q E g h=>?_
 ·obtain⟨r,i,k,o,p,t,l,d,e,u,rfl,R,R2,q⟩:=h;have nd:=Jc.nd;have z:=An g;refine⟨_,(AE (AH (Al b g.mm (AA (Al c g.mm (AO (pv 0))) (AO (Al a g.mm (AO (pv 1)))))))),?_⟩;refine⟨_,rfl,r,i,k,o,p,rfl,R,?_⟩;have a1:=EX (w:=i) R.hp;generalize(if decide (V.str i=.str "move")=true then V.ref p else V.As)=B at a1⊢;refine⟨_,rfl,t,l,d,e,u,rfl,R2,fun C D m v=>?_⟩;exact⟨_,_,Aq i k,CZ l d e,rfl,a1.up m,v,Ce R.sx,GK R2.sx R2.sz,fun G x=>q _ (m.trans x)⟩
end
end BF
namespace BF
open PySem L2
section
variable{P:Program} {w:World} {K:vA} [A_ K] {mg:Str->Option Value} {base:Heap}
theorem Fj:AU ["one","other"] ["one","other"] (AL Eb):={}
theorem JF{f:Addr}{M:FuncData}(F:CL K "clashes_one_way" "clashes_one_way" Eb f M)(T:Txt mg)(t:Df P w K mg base "gone_by" ["row"] 1 (Fh [.str "take",.str "change"]))(v:Df P w K mg base "needs" ["row"] 5 IA)(i:Df P w K mg base "begins_some" ["path","others"] 3 Iy)(j:Df P w K mg base "spoils_read" ["one","other"] 6 (DM Du))(o:Df P w K mg base "bars_same" ["one","other"] 6 (DM Br))(k:Df P w K mg base "bars_needed" ["one","other"] 6 (DM Cg))(n:Df P w K mg base "moves_same" ["one","other"] 6 (DM Bv))(c:Df P w K mg base "moves_into" ["one","other"] 6 (DM Bh)):Av P w K mg base CP 7 f M ["one","other"] (DM Dy):=by
 refine F.oq Fj fun O A outer s H vs Q E u h=>?_
 ·obtain⟨r,d,e,m,p,G,g,a,b,I,rfl,R,R2,q⟩:=h;have nd:=Fj.nd;have hu:=An u;refine⟨_,(AD (AX (PW.pt (pw_or (Ag (Al i u.mm (AA (Al t u.mm (AO (pv 0))) (AO (Al v u.mm (AO (pv 1))))))) (pw_or1 (Ag (Al j u.mm (AA (pv 0) (AO (pv 1)))))))) (AE (AH Cz)) AK) (AD (AX (PW.pt (pw_or (Ag (Al o u.mm (AA (pv 0) (AO (pv 1))))) (pw_or (Ag (Al k u.mm (AA (pv 0) (AO (pv 1))))) (pw_or1 (Ag (Al n u.mm (AA (pv 0) (AO (pv 1))))))))) (AE (AH Cz)) AK) (AE (AH (Ci (Al c u.mm (AA (pv 0) (AO (pv 1)))) (DY (Al c u.mm (AA (pv 1) (AO (pv 0)))))))))),?_⟩;have S:Dy d e m g a b=(CM (Bq d e) (BU g a b)||Du d e m g a b||Br d e m g a b||Cg d e m g a b||Bv d e m g a b||(Bh d e m g a b&&Bh g a b d e m)):=rfl;rw[S]at q;refine⟨_,rfl,r,d,e,m,p,rfl,R,fun H1 J=>?_⟩;have a1:=Iw (w:=d) (ws:=[.str "take",.str "change"]) (J _ _ R.hp);have U:(if Cm (.str d) [.str "take",.str "change"]=true then some e else none)=Bq d e:=rfl;rw[U]at a1;generalize(if Cm (.str d) [.str "take",.str "change"]=true then V.ref p else V.As)=gv at a1⊢;refine⟨_,rfl,G,g,a,b,I,rfl,R2.up J,fun l X H2 N nl Y Z=>?_⟩;have L:=J.trans N;refine⟨_,Bq d e,l,X,_,rfl,a1.up N,Ek R.sx,Y,Z,GF R2.sx R2.sz,Nat.le_trans MZ (by decide),fun H3 s3=>⟨_,rfl,?_⟩⟩;have x:=L.trans s3;cases c1:CM (Bq d e) (BU g a b)with
  |true=>
   have:=q H3 x;rw[c1]at this;exact Aj (Aj this)
  |false=>
  rw[c1]at q;refine Ae ⟨_,rfl,_,rfl,r,d,e,m,p,G,g,a,b,I,rfl,R.up x,R2.up x,fun H4 s4=>⟨_,rfl,?_⟩⟩;have y:=x.trans s4;cases c2:Du d e m g a b with
  |true=>
   have:=q H4 y;rw[c2]at this;exact Aj this
  |false=>
  rw[c2]at q;refine Ae ⟨_,rfl,_,rfl,r,d,e,m,p,G,g,a,b,I,rfl,R.up y,R2.up y,fun H5 s5=>⟨_,rfl,?_⟩⟩;have z:=y.trans s5;cases c3:Br d e m g a b with
  |true=>
   have:=q H5 z;rw[c3]at this;exact Aj (Aj this)
  |false=>
  rw[c3]at q;refine Ae ⟨_,rfl,_,rfl,r,d,e,m,p,G,g,a,b,I,rfl,R.up z,R2.up z,fun H6 s6=>⟨_,rfl,?_⟩⟩;have B:=z.trans s6;cases c4:Cg d e m g a b with
  |true=>
   have:=q H6 B;rw[c4]at this;exact Aj (Aj this)
  |false=>
  rw[c4]at q;refine Ae ⟨_,rfl,_,rfl,r,d,e,m,p,G,g,a,b,I,rfl,R.up B,R2.up B,fun H7 s7=>⟨_,rfl,?_⟩⟩;have C:=B.trans s7;cases c5:Bv d e m g a b with
  |true=>
   have:=q H7 C;rw[c5]at this;exact Aj this
  |false=>
  rw[c5]at q;refine Ae ⟨_,rfl,_,rfl,r,d,e,m,p,G,g,a,b,I,rfl,R.up C,R2.up C,fun H8 s8=>⟨_,rfl,?_⟩⟩;have D:=C.trans s8;cases c6:Bh d e m g a b with
  |false=>
   have:=q H8 D;rw[c6]at this;exact Ae this
  |true=>
   rw[c6]at q;exact Aj ⟨_,rfl,_,rfl,G,g,a,b,I,r,d,e,m,p,rfl,R2.up D,R.up D,fun H9 s9=>q _ (D.trans s9)⟩
end
end BF
namespace BF
open PySem L2
section
variable{P:Program} {w:World} {K:vA} [A_ K] {mg:Str->Option Value} {base:Heap}
theorem Ms:AU ["one","other"] ["one","other"] (AL LN):={}
theorem Rt{f:Addr}{l:FuncData}(F:CL K "clashes" "clashes" LN f l)(T:Txt mg)(a:Df P w K mg base "clashes_one_way" ["one","other"] 7 (DM Dy)):Av P w K mg base CP 8 f l ["one","other"] (DM CV):=by
 refine F.oq Ms fun o A outer s H x Q E k h=>?_
 ·obtain⟨r,d,e,g,p,m,i,b,c,n,rfl,R,R2,q⟩:=h;have nd:=Ms.nd;have y:=An k;refine⟨_,(AE (AH (fb (Al a k.mm (AA (pv 0) (AO (pv 1)))) (DY (Al a k.mm (AA (pv 1) (AO (pv 0)))))))),?_⟩;refine⟨_,rfl,_,rfl,r,d,e,g,p,m,i,b,c,n,rfl,R,R2,fun t j=>⟨_,rfl,?_⟩⟩;have u:CV d e g i b c=(Dy d e g i b c||Dy i b c d e g):=rfl;rw[u]at q;cases c1:Dy d e g i b c with
  |true=>
   have:=q t j;rw[c1]at this;exact Aj this
  |false=>
   rw[c1]at q;exact Ae ⟨_,rfl,_,rfl,m,i,b,c,n,r,d,e,g,p,rfl,R2.up j,R.up j,fun z v=>q _ (j.trans v)⟩
end
end BF
namespace BF
open PySem L2
section
variable{P:Program} {w:World} {K:vA} [A_ K] {mg:Str->Option Value} {base:Heap}
theorem IT:AU ["one","other","first","coming","step"] ["one","other","first"] (AL GW):={}
theorem Ln{f:Addr}{V:FuncData}(F:CL K "coming_over" "coming_over" GW f V)(T:Txt mg)(i:Df P w K mg base "is_place" ["step"] 1 Eh)(l:Df P w K mg base "comes_to" ["row"] 4 Cs)(a:Df P w K mg base "place_behind" ["holder","place","row","ahead"] 5 Na)(n:Df P w K mg base "after" ["path","row"] 7 Nb):Av P w K mg base CP 8 f V ["one","other","first"] LD:=by
 refine F.oq IT fun Ic A outer s H vs Q E G h=>?_
 ·obtain⟨r,m,u,x,p,M,y,c,d,X,L,ys,rfl,R,R2,hc,C,q⟩:=h;have nd:=IT.nd;have hu:=An G;refine⟨_,(AD (Ac 3 nd (Al l G.mm (AO (pv 0)))) (AD (Ac 4 nd (Bx K 3)) (AD (AX (Ag (Al i G.mm (AO (pv 4)))) (AE (Ac 4 nd (Al a G.mm (AA (Bx K 3) (AA (pv 4) (AA (pv 1) (AO (Qa (pv 2))))))))) AK) (AE (AH (AV Bf (Al n G.mm (AA (Bx K 3) (AO (pv 1)))) (AW (AO (pv 4))))))))),?_⟩;refine⟨_,rfl,r,m,u,x,p,rfl,R,fun v H1 Y N=>?_⟩;unfold GD at N;rw[if_pos hc]at N;obtain⟨t,Z,B,rfl,O,hh,hg⟩:=N;have st:=CU (w:=m) R.sx R.sz;have sv:Dc.Bi B:=st B (List.mem_of_getLast? hg);have sd:steps (CT m u x).dropLast:=fun z hz=>st z (List.dropLast_subset _ hz);have gl:(CT m u x).getLastD .As=B:=by rw[List.getLastD_eq_getLast?,hg];rfl
  have lt:=Zq (w:=m) R.lx R.lz;have ld:(CT m u x).dropLast.length<=100:=by rw[List.length_dropLast];omega
  obtain⟨I,ea,ey⟩:∃I,B_ y c d (CT m u x).dropLast=some I/\I++[GN (CT m u x).dropLast y c d (!L) B]=ys:=by
   unfold CF at C;rw[gl]at C;cases e:B_ y c d (CT m u x).dropLast with
   |none=>rw[e]at C;cases C
   |some I=>rw[e]at C;exact⟨I,rfl,uz C⟩
  have J:=R2.up Y;have lh:=FK ea;have Yb:=R2.lz;refine⟨_,rfl,t,_,1,_,rfl,rfl,Ah.of O,Cy,?_⟩;dsimp only[Bm];refine Co (t:=KG _ _ _) (fun σ H'=>σ=[some r,some M,some (.bl L),some (.ref t),some (GN (CT m u x).dropLast y c d (!L) B)]/\AF H1 H') (fun σ' H2 z=>?_) (fun k=>?_)
  ·obtain⟨rfl,D⟩:=z;refine⟨_,rfl,t,_,0,_,rfl,rfl,Ah.of (D _ _ O),Ec,_,rfl,Z,_,M,y,c,d,X,rfl,D _ _ hh,sd,ld,J.up D,fun av H3 s3 af=>?_⟩;rw[ea]at af;obtain⟨b,rfl,hb⟩:=af;refine⟨_,rfl,BI,fun g S=>?_⟩;have sg:=AF.new (o:=.tup [GN (CT m u x).dropLast y c d (!L) B]) S;refine⟨b,g,_,_,rfl,rfl,sg _ _ hb,AB,Ap (by simp only[List.length_singleton];omega),fun g2 H4 s4 U=>q g2 H4 ((((Y.trans D).trans s3).trans sg).trans s4) ?_⟩;rw[<-ey];exact U
  ·refine⟨_,rfl,B,rfl,sv,_,rfl,?_⟩;rcases sv with⟨j,rfl⟩|⟨kk,rfl,_⟩
   ·refine Aj ⟨_,rfl,t,_,0,_,rfl,rfl,Ah.of O,Ec,_,rfl,_,rfl,_,rfl,_,rfl,Z,_,_,M,y,c,d,X,_,rfl,hh,sd,J,fun H2 D=>k _ _ ⟨rfl,D⟩⟩
   ·exact Ae (k _ _ ⟨rfl,AF.refl _⟩)
end
end BF
namespace BF
open PySem L2
section
variable{P:Program} {w:World} {K:vA} [A_ K] {mg:Str->Option Value} {base:Heap}
theorem GX:AU ["to","path","holder","place"] ["to","path"] (AL Er):={}
theorem Jm{f:Addr}{G:FuncData}(F:CL K "behind_taking" "behind_taking" Er f G)(T:Txt mg)(c:Df P w K mg base "is_place" ["step"] 1 Eh)(a:Df P w K mg base "place_into" ["path","holder"] 2 RA)(b:Df P w K mg base "with_place" ["path","holder","place"] 1 RC):Av P w K mg base CP 3 f G ["to","path"] Mi:=by
 refine F.oq GX fun Y A outer s H vs Q E v h=>?_
 ·obtain⟨t,p,m,x,rfl,I,J,L,sz,M,lz,Z,q⟩:=h;have nd:=GX.nd;have hu:=An v;refine⟨_,(AD (Ac 2 nd (Ai BH (pv 1) Ax (Au (Bw BM AG)))) (AD (Ac 3 nd (Al a v.mm (AA (pv 0) (AO (pv 2))))) (AD (AX (PW.pt (pw_or (AI Fq (pv 3) BA (AM _)) (pw_or (EE (Ag (Al c v.mm (AO (CN (r:=EF K) By (pv 1) (Bw BM AG) (fun _ _=>rfl)))))) (pw_or1 (AI gC (pv 3) (CN (r:=EF K) By (pv 1) (Bw BM AG) (fun _ _=>rfl)) (AM _)))))) (AE (AH (pv 0))) AK) (AE (AH (Al b v.mm (AA (pv 0) (AA (pv 2) (AO (AV KH (pv 3) AG)))))))))),?_⟩;obtain⟨d,n,rfl⟩:∃d n,x=d++[n]:=⟨x.dropLast,x.getLast L,(List.dropLast_concat_getLast L).symm⟩;have N:steps d:=fun z y=>M z (List.mem_append_left _ y);have O:Dc.Bi n:=M n (by simp);refine⟨_,rfl,_,rfl,_,rfl,p,_,rfl,J,fun h H1 R B=>?_⟩;rw[BR]at B;refine⟨_,rfl,_,rfl,t,h,m,d,rfl,R _ _ I,B,sz,N,fun S U=>?_⟩;have l:=R.trans U;have o:=l _ _ I;have u:=l _ _ J;have C:=U _ _ B;have lu:d.length<=400:=by simp only[List.length_append,List.length_cons,List.length_nil]at Z;omega
  have keep:Cv m (d++[n])=m->Q (.ref t) S:=fun e=>q t S l (by rw[e];exact o);cases D:(BQ (m.take d.length) d&&decide (d.length<m.length)&&MT (m.getD d.length .As))with
  |false=>
   rw[MV D];exact⟨_,rfl,rfl,_,rfl,BL rfl (Aj ⟨_,rfl,keep (Po D)⟩)⟩
  |true=>
  obtain⟨i,g,e,V,b2⟩:=MU sz D;rw[e];refine⟨_,rfl,rfl,_,rfl,Af rfl ?_⟩;refine⟨_,rfl,_,rfl,p,_,_,_,rfl,rfl,Ah.of u,BW d n,_,rfl,O,_,rfl,?_⟩;rcases O with⟨j,rfl⟩|⟨k,rfl,_⟩
  ·refine Ae ?_;refine⟨_,rfl,_,rfl,_,rfl,p,_,_,_,rfl,rfl,Ah.of u,BW d _,_,_,rfl,rfl,_,rfl,?_⟩;have X:=RU (j:=(j:Int)) g V;refine Bs (fun c1=>⟨_,rfl,keep (by rw[X];exact if_neg (by have:=of_decide_eq_true c1;omega))⟩) (fun c1=>?_);have n1:(j:Int)<(i:Int):=by
    have:¬(i:Int)<=(j:Int):=fun z=>c1 (decide_eq_true z);omega
   refine⟨_,rfl,_,rfl,_,rfl,_,_,rfl,rfl,t,h,m,d,_,rfl,o,C,lz,lu,fun q' H3 s3 hq=>q q' H3 (l.trans s3) ?_⟩;rw[X,if_pos n1,<-Cr (FH (fun z y=>sz z (List.mem_of_mem_take y)) N V) b2];exact hq
  ·exact Aj (Aj ⟨_,rfl,keep RT⟩)
end
end BF
namespace BF
open PySem L2
section
variable{P:Program} {w:World} {K:vA} [A_ K] {mg:Str->Option Value} {base:Heap}
theorem OJ:AU ["one","other","first","word","path"] ["one","other","first"] (AL TL):={}
theorem Z_{f:Addr}{fd:FuncData}(F:CL K "over" "over" TL f fd)(T:Txt mg)(B:Df P w K mg base "copy_of" ["doc"] 2 PM)(I:Df P w K mg base "after" ["path","row"] 7 Nb)(L:Df P w K mg base "clashes" ["one","other"] 8 (DM CV))(d:Df P w K mg base "coming_over" ["one","other","first"] 8 LD)(l:Df P w K mg base "behind_taking" ["to","path"] 3 Mi):Av P w K mg base CP 9 f fd ["one","other","first"] XT:=by
 refine F.oq OJ fun Ic A outer s H vs Q E hr h=>?_
 ·obtain⟨r,j,m,J,p,r2,U,u,k,p2,fi,us,ws,rfl,RX,R2,lx,lz,oX,Yb,mU,nc,X,q⟩:=h;have nd:=OJ.nd;have hu:=An hr;refine⟨_,(AD (AX (Ag (Al L hr.mm (AA (pv 0) (AO (pv 1))))) (AE Zr) AK) (AD (Ac 3 nd (Bx K 0)) (AD (AX (AI BO (pv 3) AQ (AM _)) (AE (AH (AW (AA (pv 3) (AA (Al d hr.mm (AA (pv 0) (AA (pv 1) (AO (pv 2))))) (AO (Al B hr.mm (AO (Bx K 0))))))))) AK) (AD (AX (AI BO (pv 3) AQ (AM _)) (AE (AH (AW (AA (pv 3) (AO (AV Bf (Al I hr.mm (AA (Ai BH (Bx K 0) Ax (Au (Bw BM AG))) (AO (pv 1)))) (Ai BH (Bx K 0) (Au (Bw BM AG)) Ax))))))) AK) (AD (Ac 4 nd (Al I hr.mm (AA (Bx K 0) (AO (pv 1))))) (AD (AX (AI BO (pv 3) AQ (AM _)) (AE (AH (AW (AA (pv 3) (AA (pv 4) (AO (Al l hr.mm (AA (Al d hr.mm (AA (pv 0) (AA (pv 1) (AO (pv 2))))) (AO (pv 4)))))))))) AK) (AD (AX (AI BO (pv 3) AQ (AM _)) (AE (AH (AW (AA (pv 3) (AA (pv 4) (AO (Al d hr.mm (AA (pv 0) (AA (pv 1) (AO (pv 2))))))))))) AK) (AD (AX (AI (B':Dg _ _ (OU K false)) (pv 3) (AW (AA AQ (AO AQ))) rfl) (AE (AH (AW (AA (pv 3) (AA (pv 4) (AO (Al B hr.mm (AO (Bx K 0))))))))) AK) (AE (AH (AV Bf (AW (AA (pv 3) (AO (pv 4)))) (Ai BH (pv 0) (Au AG) Ax)))))))))))),?_⟩;have R:=RX.rw;obtain⟨a,rest,rfl,ha,T3⟩:=RX.th;have n0:steps ([]:List V):=fun z hz=>nomatch hz;have rq:U="move"->k≠[]:=fun h=>R2.nz (.inr h);refine⟨_,rfl,_,rfl,_,j,m,J,p,r2,U,u,k,p2,rfl,R,R2,fun H1 s1=>⟨_,rfl,?_⟩⟩;rw[nc];refine Ae ?_;have M:=s1 _ _ ha;have T1:=T3.up s1;have R1:=R.up s1;have jj:=R2.up s1;refine⟨_,rfl,a,_,0,_,rfl,rfl,Ah.of M,Ec,?_⟩;by_cases y:j="put"
  ·subst y;obtain⟨v,rfl,Y,mV,oY,ry⟩:=T1.pc (.inl rfl);obtain⟨c,i⟩:=EO (fi:=fi) (by decide) nc;have eo:IH "put" m J U u k fi=some (c,[]):=by unfold IH;rw[if_pos rfl,i];rfl
   rw[eo]at X;cases X;have nx:=R.nx (.inl rfl);have et:CT "put" m J=m:=rfl;refine⟨_,rfl,rfl,_,rfl,BL (by decide) ?_⟩;refine⟨_,rfl,_,rfl,_,rfl,_,rfl,_,"put",m,J,p,r2,U,u,k,p2,fi,_,rfl,R1,jj,by decide,i,fun t H2 N du=>?_⟩;refine⟨_,rfl,a,_,2,_,rfl,rfl,Ah.of (N _ _ M),at2,v,rfl,Dc.Ab N Y,Dc.Ho v (by omega),by omega,fun v' H3 Fv C=>⟨Cj,fun b hb=>?_⟩⟩;have G:=AF.new (o:=.tup [.str "put",.ref t,v'.val]) hb;have s3:=(s1.trans N).trans (Fv.same.trans G);refine q a b _ _ t _ s3 rfl ha (I_ AB (G _ _ (Fv.same _ _ du)) (HI R.sx R.sz R2.sx R2.sz (by rw[et];exact nx) i) (by have:=LF lx lz Yb i;omega) (by decide) (fun _=>Ni i) (Fo.val (.inl rfl) (Dc.Ab G Fv.at_) (Dc.Jr v v' C mV) (by rw[<-Dc.Gd v v' C];exact oY) (ry.of (Sz (Dc.Ab N Y) Fv.at_ C))) n0 (by decide) (fun h=>absurd h (by decide))) AB rfl (fun _=>⟨v,v',rfl,rfl,C⟩)
  refine⟨_,rfl,rfl,_,rfl,Af (Jy y) ?_⟩;by_cases Z:j="lacks"
  ·subst Z;have nx:=R.nx (.inr (.inl rfl));obtain⟨O,lv,e⟩:∃O lv,m=O++[lv]:=⟨m.dropLast,m.getLast nx,(List.dropLast_concat_getLast nx).symm⟩;have ed:m.dropLast=O:=by rw[e,List.dropLast_concat]
   obtain⟨hs,hn⟩:=ED (n:=m.dropLast) nc (by unfold BU nB;rw[if_pos rfl];simp);have eo:IH "lacks" m J U u k fi=some (hs++[lv],[]):=by
    unfold IH;rw[if_neg (by decide),if_pos rfl,hn,e];simp
   rw[eo]at X;cases X;rw[ed]at hn;have su:steps O:=fun z hz=>R.sx z (by rw[e];exact List.mem_append_left _ hz);have sl:Dc.Bi lv:=R.sx lv (by rw[e];simp);have TU:=R1.hp;rw[e]at TU;have lu:O.length<=40:=by rw[e]at lx;simp at lx;omega
   refine⟨_,rfl,rfl,_,rfl,BL (by decide) ?_⟩;refine⟨_,rfl,_,rfl,a,_,1,_,rfl,rfl,Ah.of M,Cy,_,rfl,_,rfl,p,_,rfl,TU,fun p3 H2 N Ru=>?_⟩;rw[BR]at Ru;refine⟨_,rfl,p3,O,_,U,u,k,p2,rfl,Ru,su,by omega,jj.up N,fun av H3 s3 af=>?_⟩;rw[hn]at af;obtain⟨b3,rfl,jk⟩:=af;have s13:=N.trans s3;refine⟨_,rfl,a,_,1,_,rfl,rfl,Ah.of (s13 _ _ M),Cy,_,rfl,_,rfl,p,_,rfl,s13 _ _ TU,fun p4 H4 s4 Xo=>?_⟩;rw[Ur]at Xo;have s14:=s13.trans s4;refine⟨b3,p4,hs,[lv],rfl,rfl,s4 _ _ jk,Xo,Ap (by have:=FK hn;simp;omega),fun p5 H5 s5 mW=>⟨AR,fun b hb=>?_⟩⟩;have G:=AF.new (o:=.tup [.str "lacks",.ref p5]) hb;have s15:=s1.trans ((s14.trans s5).trans G);obtain⟨a',iS,D⟩:=mU (.inr (.inr rfl));cases iS;have er:rest=[]:=by rw[ha]at D;exact(List.cons.inj (List.cons.inj (HO.tup.inj (uz D))).2).2
   refine q a b _ _ p5 _ s15 rfl ha (I_ AB (G _ _ mW) ?_ (by have:=FK hn;simp;omega) (by decide) (fun _=>by simp) (Fo.no (by decide)) n0 (by decide) (fun h=>absurd h (by decide))) AB (by rw[er]) (fun h=>absurd h (by decide));intro z hz;rcases List.mem_append.mp hz with hz|hz
   ·exact GO R2.sx R2.sz su hn z hz
   ·rw[List.mem_singleton.mp hz];exact sl
  refine⟨_,rfl,rfl,_,rfl,Af (Jy Z) ?_⟩;have bM:=R.wd;simp only[DH,List.mem_cons,List.not_mem_nil,or_false]at bM;obtain⟨q',iT⟩:=ED (n:=m) nc (by
   have:Cm (.str j) NV=true:=by
    rcases bM with h|rfl|rfl|rfl|rfl|rfl|rfl|h|rfl
    ·exact absurd h y
    all_goals first|exact absurd h Z|decide
   unfold BU nA;rw[if_pos this];simp)
  have S:=GO R2.sx R2.sz R.sx iT;have uX:=FK iT;have dw:m≠[]->q'≠[]:=fun h=>XU iT h rq;refine⟨_,rfl,a,_,1,_,rfl,rfl,Ah.of M,Cy,_,rfl,p,m,_,U,u,k,p2,rfl,R1.hp,R.sx,by omega,jj,fun av H2 N af=>?_⟩;rw[iT]at af;obtain⟨b2,rfl,iU⟩:=af;have rz:=N _ _ M;have T2:=T1.up N;have oZ:=R1.up N;have oa:=jj.up N;have s02:=s1.trans N;have eo:IH j m J U u k fi=(if j="move"then(CF j m J U u k fi).map fun c=>(q',Cv c q')else if j="copy"then(CF j m J U u k fi).map fun c=>(q',c)else some (q',[])):=by
   unfold IH;rw[if_neg y,if_neg Z,iT];rfl
  rw[eo]at X;by_cases iV:j="move"
  ·subst iV;obtain⟨c,i⟩:=EO (fi:=fi) (by decide) nc;rw[if_pos rfl,i]at X;obtain⟨eu,ew⟩:=Prod.mk.inj (uz X);subst eu ew;have nx:=R.nx (.inr (.inr (.inr rfl)));have nz:=R.nz (.inr rfl);have nt:CT "move" m J≠[]:=by
    show CD J m≠[];intro z;have:=Cd J m;rw[z]at this;exact nz (List.eq_nil_of_length_eq_zero this.symm)
   have sc:=HI R.sx R.sz R2.sx R2.sz nt i;have lc:=LF lx lz Yb i;obtain⟨pz,er,_⟩:=T3.cm (.inr rfl);refine⟨_,rfl,rfl,_,rfl,BL (by decide) ?_⟩;refine⟨_,rfl,_,rfl,_,rfl,_,rfl,_,rfl,_,"move",m,J,p,r2,U,u,k,p2,fi,_,rfl,oZ,oa,by decide,i,fun t H3 s3 mY=>?_⟩;refine⟨_,rfl,t,b2,c,q',rfl,mY,s3 _ _ iU,dw nx,sc,S,by omega,by omega,fun t2 H4 s4 r_=>⟨Cj,fun b hb=>?_⟩⟩;have G:=AF.new (o:=.tup [.str "move",.ref b2,.ref t2]) hb;have iW:=(s3.trans s4).trans G;refine q a b _ _ b2 _ (s02.trans iW) rfl ha (I_ AB (iW _ _ iU) S (by omega) (by decide) (fun _=>dw nx) (Fo.two (.inr rfl) (G _ _ r_)) (Nj sc S) (by rw[LG];omega) (fun _ z=>?_)) AB (by rw[er];rfl) (fun h=>absurd h (by decide));have:=LG c q';rw[z]at this;exact Ni i (List.eq_nil_of_length_eq_zero this.symm)
  refine⟨_,rfl,rfl,_,rfl,Af (Jy iV) ?_⟩;rw[if_neg iV]at X;by_cases iX:j="copy"
  ·subst iX;obtain⟨c,i⟩:=EO (fi:=fi) (by decide) nc;rw[if_pos rfl,i]at X;obtain⟨eu,ew⟩:=Prod.mk.inj (uz X);subst eu ew;have nz:=R.nz (.inl rfl);have sc:=HI R.sx R.sz R2.sx R2.sz (show CT "copy" m J≠[]from nz) i;have lc:=LF lx lz Yb i;obtain⟨pz,er,_⟩:=T3.cm (.inl rfl);refine⟨_,rfl,rfl,_,rfl,BL (by decide) ?_⟩;refine⟨_,rfl,_,rfl,_,rfl,_,rfl,_,rfl,_,"copy",m,J,p,r2,U,u,k,p2,fi,_,rfl,oZ,oa,by decide,i,fun t H3 s3 mY=>⟨Cj,fun b hb=>?_⟩⟩;have G:=AF.new (o:=.tup [.str "copy",.ref b2,.ref t]) hb;have og:=s3.trans G;exact q a b _ _ b2 _ (s02.trans og) rfl ha (I_ AB (og _ _ iU) S (by omega) (by decide) (fun h=>absurd h (by decide)) (Fo.two (.inl rfl) (G _ _ mY)) sc (by omega) (fun _=>Ni i)) AB (by rw[er];rfl) (fun h=>absurd h (by decide))
  refine⟨_,rfl,rfl,_,rfl,Af (Jy iX) ?_⟩;rw[if_neg iX]at X;obtain⟨eu,ew⟩:=Prod.mk.inj (uz X);subst eu ew;refine⟨_,rfl,AR,fun g hg=>⟨g,_,rfl,.inr (Ah.of AB),rfl,rfl,_,rfl,?_⟩⟩;have sg:=AF.new (o:=.tup [.str "change",.str "ask"]) hg;generalize upd H2 g (.tup [.str "change",.str "ask"])=H3 at sg⊢;have oh:=sg _ _ rz;have jk:=sg _ _ iU;have s03:=s02.trans sg;have oj:j="copy"∨j="move"->([]:List V)≠[]:=fun h=>h.elim (fun h=>absurd h iX) fun h=>absurd h iV;have om:j="put"∨j="lacks"∨j="take"∨j="move"->q'≠[]:=fun h=>dw (R.nx h);refine Eg (fun bI=>?_) (fun bI=>?_)
  ·have hw:j="change"∨j="ask":=la.mp bI;obtain⟨v,er,Y,mV,oY,sC⟩:∃v:Dc,rest=[v.val]/\v.At H3/\v.ok/\v.size<=40/\(j="change"->v.size<=2/\DK v):=by
    rcases hw with rfl|rfl
    ·obtain⟨v,e,h1,h2,h3,h4⟩:=(T2.up sg).pc (.inr rfl);exact⟨v,e,h1,h2,by omega,fun _=>⟨h3,h4⟩⟩
    ·obtain⟨v,e,h1,h2,h3⟩:=(T2.up sg).ak rfl;exact⟨v,e,h1,h2,h3,fun h=>absurd h (by decide)⟩
   subst er;refine⟨_,rfl,_,rfl,_,rfl,a,_,2,_,rfl,rfl,Ah.of oh,at2,v,rfl,Y,Dc.Ho v (by omega),by omega,fun v' H4 Fv C=>⟨Cj,fun b hb=>?_⟩⟩;have G:=AF.new (o:=.tup [.str j,.ref b2,v'.val]) hb;have iW:=Fv.same.trans G;have ou:=Dc.Jr v v' C mV;have uY:=Dc.Gd v v' C;have TT:Fo (upd H4 b (.tup [.str j,.ref b2,v'.val])) j [] [v'.val]:=by
    rcases hw with rfl|rfl
    ·obtain⟨h3,h4⟩:=sC rfl;exact Fo.val (.inr rfl) (Dc.Ab G Fv.at_) ou (by omega) (h4.of (Sz Y Fv.at_ C))
    ·exact Fo.ask (Dc.Ab G Fv.at_) ou (by omega)
   exact q a b _ _ b2 _ (s03.trans iW) rfl ha (I_ AB (iW _ _ jk) S (by omega) R.wd om TT n0 (by decide) oj) AB rfl (fun h=>absurd h y)
  ·have sE:j="take"∨j="has"∨j="is":=by
    rcases bM with h|h|h|h|rfl|rfl|h|h|h
    ·exact absurd h y
    ·exact .inl h
    ·exact absurd h iV
    ·exact absurd h iX
    ·exact absurd bI (by decide)
    ·exact absurd bI (by decide)
    ·exact .inr (.inl h)
    ·exact absurd h Z
    ·exact .inr (.inr h)
   have lr:rest.length<=1/\Fo H3 j [] rest:=by
    rcases sE with rfl|rfl|rfl
    ·obtain⟨a',iS,D⟩:=mU (.inl rfl);cases iS;rw[ha]at D;have er:rest=[]:=(List.cons.inj (List.cons.inj (HO.tup.inj (uz D))).2).2;exact⟨by rw[er];simp,Fo.no (by decide)⟩
    ·obtain⟨a',iS,D⟩:=mU (.inr (.inl rfl));cases iS;rw[ha]at D;have er:rest=[]:=(List.cons.inj (List.cons.inj (HO.tup.inj (uz D))).2).2;exact⟨by rw[er];simp,Fo.no (by decide)⟩
    ·obtain⟨x,rfl⟩:=T3.is rfl;exact⟨by simp,Fo.oK⟩
   refine⟨_,rfl,_,rfl,AR,fun g2 JG=>?_⟩;obtain⟨H4,eH,ow,sF⟩:=Py (o:=.tup [.str j,.ref b2]) JG;rw[eH];clear eH;refine⟨_,rfl,_,rfl,a,_,rfl,ow _ _ oh,fun g5 H5 s5 oz=>?_⟩;have ec:FQ (V.str j::V.ref p::rest) (some 2) none=rest:=by
    have:=Ga (V.str j::V.ref p::rest) 2;simpa using this
   rw[ec]at oz;refine⟨g2,g5,_,_,rfl,rfl,s5 _ _ sF,oz,Ap (by simp;omega),fun b H6 s6 o_=>?_⟩;have s36:=(ow.trans s5).trans s6;exact q a b _ _ b2 _ (s03.trans s36) rfl ha (I_ o_ (s36 _ _ jk) S (by omega) R.wd om (lr.2.up s36) n0 (by decide) oj) o_ rfl (fun h=>absurd h y)
theorem Xp{c:Nat->Addr}{m n:Addr}{f:Addr}{o:FuncData}(F:CL K "over" "over" TL f o)(T:Txt mg)(a:Df P w K mg base "clashes" ["one","other"] 8 (DM CV))(N:Nm mg c m)(C:Kc K c m n)(D:oN P w K mg base n ["self","at","other"] (Jx (c 6))):Av P w K mg base (Ya P w) 10 f o ["one","other","first"] (Nn c):=by
 obtain⟨G,i,j,k⟩:=D;refine F.rW OJ (fun I H Q E h=>?_) (fun J A outer s H I Q E g h=>?_)
 ·obtain⟨r,t,u,v,p,x,y,d,e,z,L,rfl,R,R2,B,q⟩:=h;rfl
 ·obtain⟨r,t,u,v,p,x,y,d,e,z,L,rfl,R,R2,B,q⟩:=h;have nd:=OJ.nd;have S:=An g;have b:BZ 8 _:=g.mono (by decide);have l:BZ 2 _:=g.mono (by decide);refine⟨_,(AD (AX (Ag (Al a g.mm (AA (pv 0) (AO (pv 1))))) (AE (Up rfl rfl rfl N.bJ C.own i l j k Zl (AA AG (AO AG)))) AK) Xa),?_⟩;refine⟨_,rfl,_,rfl,r,t,u,v,p,x,y,d,e,z,rfl,R,R2,fun U M=>⟨_,rfl,?_⟩⟩;rw[B];exact Aj (mD AR fun O h=>q O _ (M.trans (AF.new h)) AB)
end
end BF
namespace BF
open PySem L2
section
variable{P:Program} {w:World} {K:vA} [A_ K] {mg:Str->Option Value} {base:Heap}
theorem Xq:AU ["_law_script","_law_k"] ["_law_script","_law_k"] (AL Xc):={}
theorem Z'{f:Addr}{c:FuncData}(F:CL K "_law_cell" "_law_cell" Xc f c)(T:Txt mg):Av P w K mg base CP 1 f c ["_law_script","_law_k"] (NO K):=by
 refine F.oq Xq fun g A outer s H m Q E i h=>?_
 ·obtain⟨a,b,k,rfl,d,q⟩:=h;have nd:=Xq.nd;have n:=An i;refine⟨_,(AD (AX (AI Gh (pv 1) (DS T.len (pv 0)) (AM _)) (AE (AH (AV BD (LI K (pv 0) (pv 1)) (AV Vd AG AG)))) AK) (AE (AH (AV Bc AG (AV Fp AG (pv 1)))))),?_⟩;refine⟨_,rfl,_,rfl,a,_,rfl,.inl d,_,_,rfl,rfl,_,rfl,?_⟩;refine Bs (fun e=>?_) (fun e=>?_)
  ·have j:k<b.length:=by
    have:=of_decide_eq_true e;rw[List.length_map]at this;omega
   have l:(b.map V.int)[k]?=some (.int b[k]):=by rw[List.getElem?_map,ux j];rfl
   exact⟨_,rfl,_,rfl,a,_,_,_,rfl,rfl,d,BV l,_,_,rfl,rfl,⟨by decide,by decide,by decide⟩,_,_,rfl,rfl,(by show(0:Int)<_;decide),q _ (Int.emod_nonneg _ (by decide))⟩
  ·exact⟨_,rfl,_,_,rfl,rfl,.inl ⟨by decide,by decide⟩,_,_,rfl,rfl,q _ (by omega)⟩
end
end BF
namespace BF
open PySem L2
section
variable{P:Program} {w:World} {K:vA} [A_ K] {mg:Str->Option Value} {base:Heap}
theorem bN:AU ["_law_cell_here","_law_k","_law_number","_law_j"] ["_law_cell_here","_law_k"] (AL Zw):={}
theorem Xr{f:Addr}{m:FuncData}(F:CL K "_law_mix" "_law_mix" Zw f m)(T:Txt mg):Av P w K mg base CP 1 f m ["_law_cell_here","_law_k"] Qv:=by
 refine F.oq bN fun o A outer s H r Q E p h=>?_
 ·obtain⟨c,k,rfl,t,q⟩:=h;have nd:=bN.nd;have u:=An p;refine⟨_,(AD (AX (PW.pt (pw_and (AI BO (AV BD (pv 0) AG) AG (AM _)) (pw_and1 (AI ar (pv 0) (AV Fp AG (AV Vd AG AG)) (AM _))))) (AD (Ac 2 nd (AV GY (pv 0) AG)) (AD (VS (DZ rfl T.range (AO (pv 1))) (EZ 3 nd) (AE (Ac 2 nd (AV GY (pv 2) AG)))) (AE (AH (AV BD (pv 2) AG))))) AK) (AD (Ac 2 nd (AV BD (AV Fp (AV Bc (pv 0) AG) AG) AG)) (AD (Ac 2 nd (AV BD (AV Bc (pv 2) (AV Fp (AV Bc (pv 1) AG) AG)) AG)) (AD (Ac 2 nd (AV BD (AV Fp (pv 2) (pv 2)) AG)) (AD (Ac 2 nd (AV BD (AV Fp (AV Bc (pv 2) AG) (AV Bc (AV GY (pv 2) AG) AG)) AG)) (AE (AH (AV GY (pv 2) AG)))))))),?_⟩;have lo:∀x:Int,-(2 ^ 64)<x % 2305843009213693951/\x % 2305843009213693951<2 ^ 64:=fun x=>by
   have b:=Int.emod_nonneg x (show(2305843009213693951:Int)≠0 by decide);have d:=Int.emod_lt_of_pos x (show(0:Int)<2305843009213693951 by decide);constructor<;>omega
  have lo1:∀x:Int,-(2 ^ 64)<x % 999999999999999989+1/\x % 999999999999999989+1<2 ^ 64:=fun x=>by
   have b:=Int.emod_nonneg x (show(999999999999999989:Int)≠0 by decide);have d:=Int.emod_lt_of_pos x (show(0:Int)<999999999999999989 by decide);constructor<;>omega
  have n:¬(c % 4=0/\4*10 ^ 60<=c)->Q (.int ((PF c k+1)*(PF c k/1000003+7) % 2305843009213693951/7919)) H:=fun h=>by
   have e:Kl c k=_:=if_neg h;rw[e]at q;exact q
  refine⟨_,rfl,_,_,rfl,rfl,(by show(0:Int)<_;decide),rfl,_,rfl,?_⟩;refine Bs (fun b=>?_) (fun b=>?_)
  ·refine⟨_,rfl,_,_,rfl,rfl,⟨by decide,by decide,by decide⟩,_,_,rfl,rfl,.inl ⟨by decide,by decide⟩,_,_,rfl,rfl,_,rfl,?_⟩;have c4:c % 4=0:=V.int.inj (of_decide_eq_true b);refine Bs (fun d=>?_) (fun d=>?_)
   ·have c60:4*10 ^ 60<=c:=of_decide_eq_true d;have e:Kl c k=_:=if_pos ⟨c4,c60⟩;rw[e]at q;refine⟨_,rfl,_,_,rfl,rfl,⟨by decide,by decide⟩,?_⟩;refine⟨_,rfl,_,rfl,by omega,by omega,Ew (lo:=0) (fun i g j=>∃(l:Option V),g=[some (.int c),some (.int (k:Int)),some (.int (WN i (c/4))),l]/\j=H) ⟨none,rfl,rfl⟩ ?_ ?_⟩
    ·rintro i g j v ⟨l,rfl,rfl⟩;exact⟨_,rfl,_,_,rfl,rfl,⟨by decide,by decide⟩,_,rfl,rfl⟩
    ·rintro g j ⟨l,rfl,rfl⟩;rw[Int.toNat_natCast];exact⟨_,rfl,_,_,rfl,rfl,(by show(0:Int)<_;decide),q⟩
   ·have a:¬(c % 4=0/\4*10 ^ 60<=c):=fun z=>d (decide_eq_true z.2);refine⟨_,rfl,_,_,rfl,rfl,_,_,rfl,rfl,.inr ⟨by decide,by decide⟩,_,_,rfl,rfl,(by show(0:Int)<_;decide),?_⟩;refine⟨_,rfl,_,rfl,_,_,rfl,rfl,_,_,rfl,rfl,.inr ⟨by decide,by decide⟩,_,_,rfl,rfl,_,_,rfl,rfl,(by show(0:Int)<_;decide),?_⟩;refine⟨_,rfl,_,rfl,_,_,rfl,rfl,.inl (lo _),_,_,rfl,rfl,(by show(0:Int)<_;decide),?_⟩;refine⟨_,rfl,_,_,rfl,rfl,_,rfl,_,_,rfl,rfl,⟨by decide,by decide⟩,_,_,rfl,rfl,_,_,rfl,rfl,.inl (lo1 _),_,_,rfl,rfl,(by show(0:Int)<_;decide),?_⟩;exact⟨_,rfl,_,_,rfl,rfl,⟨by decide,by decide⟩,n a⟩
  ·refine Ae ?_;have a:¬(c % 4=0/\4*10 ^ 60<=c):=fun z=>b (decide_eq_true (congrArg V.int z.1));refine⟨_,rfl,_,_,rfl,rfl,_,_,rfl,rfl,.inr ⟨by decide,by decide⟩,_,_,rfl,rfl,(by show(0:Int)<_;decide),?_⟩;refine⟨_,rfl,_,rfl,_,_,rfl,rfl,_,_,rfl,rfl,.inr ⟨by decide,by decide⟩,_,_,rfl,rfl,_,_,rfl,rfl,(by show(0:Int)<_;decide),?_⟩;refine⟨_,rfl,_,rfl,_,_,rfl,rfl,.inl (lo _),_,_,rfl,rfl,(by show(0:Int)<_;decide),?_⟩;refine⟨_,rfl,_,_,rfl,rfl,_,rfl,_,_,rfl,rfl,⟨by decide,by decide⟩,_,_,rfl,rfl,_,_,rfl,rfl,.inl (lo1 _),_,_,rfl,rfl,(by show(0:Int)<_;decide),?_⟩;exact⟨_,rfl,_,_,rfl,rfl,⟨by decide,by decide⟩,n a⟩
theorem aC{f:Addr}{a:FuncData}(F:CL K "_law_mix" "_law_mix" Zw f a)(T:Txt mg):Av P w K mg base CP 1 f a ["_law_cell_here","_law_k"] F_:=(Xr F T).imp fun _ _ _ _ h=>WQ h
end
end BF
namespace BF
open PySem L2
section
variable{P:Program} {w:World} {K:vA} [A_ K] {mg:Str->Option Value} {base:Heap}
theorem TV:AU ["_law_one","_law_two","_law_letters","_law_word","_law_size","_law_at","_law_shift","_law_names_here","_law_k","_law_sign"] ["_law_one","_law_two"] (AL Rb):={}
theorem Xs{f:Addr}{fd:FuncData}(F:CL K "_law_names" "_law_names" Rb f fd)(T:Txt mg)(g:Df P w K mg base "_law_mix" ["_law_cell_here","_law_k"] 1 Qv):Av P w K mg base CP 2 f fd ["_law_one","_law_two"] So:=by
 refine F.oq TV fun Ic A outer s H vs Q E U h=>?_
 ·obtain⟨c,d,rfl,q⟩:=h;have nd:=TV.nd;have hu:=An U;refine⟨_,(AD (IX (i:=2) nd rfl (Or.inr rfl) AQ) (AD (Ac 3 nd (D' PySem.F.plainAttrs_str PySem.F.slot_str_join PySem.F.type_str_join ZD AQ (AO (cmp ["_law_letters","_law_one"] [2,0] (DZ rfl T.range (AO AG)) fun _ _ _ _=>(CN Vi (pv 1) (AV BD (Al g U.mm (AA (pv 2) (AO (pv 0)))) AG) (fun _ _=>rfl)))))) (AD (Ac 4 nd (AV Bc AG (AV BD (Al g U.mm (AA (pv 1) (AO AG))) AG))) (AD (Ac 5 nd (AV BD (Al g U.mm (AA (pv 1) (AO AG))) (pv 4))) (AD (Ac 6 nd (AV BD (Al g U.mm (AA (pv 1) (AO AG))) AG)) (AD (Ac 7 nd (BB CH)) (AD (VS (DZ rfl T.range (AO AG)) (EZ 8 nd) (AE (AX (AI BO (AV BD (Al g U.mm (AA (pv 1) (AO AG))) AG) AG (AM _)) (AE (CK (D' PySem.F.plainAttrs_list PySem.F.slot_list_append PySem.F.type_list_append CI (pv 7) (AO (Ai Kb (pv 3) Ax (Au (AV Bc (AV Bc (pv 8) AG) (AV BD (pv 6) AG)))))))) (AD (Ac 9 nd (CN Vi (pv 2) (AV BD (AV Bc (pv 6) (AV Fp AG (pv 8))) AG) (fun _ _=>rfl))) (AE (CK (D' PySem.F.plainAttrs_list PySem.F.slot_list_append PySem.F.type_list_append CI (pv 7) (AO (AV KL (AV KL (Ai Kb (pv 3) Ax (Au (pv 5))) (pv 9)) (Ai Kb (pv 3) (Au (AV Bc (pv 5) AG)) (Au (pv 4)))))))))))) (AE (AH (pv 7)))))))))),?_⟩;refine⟨rfl,8,rfl,by decide,by decide,V_ (n:=8) (fun i=>.int (0+(i:Int))) (fun _ v=>gq v) (by decide) (fun i X hi Y=>hi) (fun i X v H' hi Y y=>⟨y.2,y.1⟩) (fun X Y=>Nat.le_refl _) (fun i X R hi Y r=>?_) (fun D X k hD Y d2 ly oy=>?_)⟩
  ·refine⟨_,rfl,_,rfl,_,rfl,c,i,by simp,by omega,?_⟩;obtain⟨B,u,hl⟩:=WM (Kl c i % 26) (Hn _).1 (Hn _).2;exact⟨_,_,rfl,rfl,(by show(0:Int)<_;decide),QV,_,B,rfl,rfl,by decide,u,r _ X (AF.refl X) ⟨B,rfl,hl⟩⟩
  ·obtain⟨C,e1,h1,h2,h3⟩:=MI k fun y G=>by
    obtain⟨j,L,e⟩:=List.mem_iff_getElem.mp G;exact oy j y (by rw[ux L,e])
   subst e1;have lz:C.length=8:=by rw[<-ly,List.length_map]
   have sz:∀C:List Str,(∀z∈C,z.length=1)->(C.map (·.length)).sum=C.length:=by
    intro C
    induction C with
    |nil=>intro _;rfl
    |cons z r ih=>
     intro h;rw[List.map_cons,List.sum_cons,ih fun y G=>h y (List.mem_cons_of_mem _ G),h z List.mem_cons_self,List.length_cons];omega
   refine⟨_,D,C,rfl,rfl,Ay.of d2,?_,?_⟩
   ·rw[sz C h1,lz];decide
   obtain⟨W,hW⟩:∃W,W=Txt.join "" C:=⟨_,rfl⟩;have M:(sgn W).length=8:=by rw[hW,Ox,h2,List.length_map,lz]
   have wL:(sgn W).all Ow=true:=by rw[hW,Ox];exact h3
   have wz:W.length=8:=by rw[<-Gr];exact M
   rw[<-hW];obtain⟨t,sH⟩:∃r,r=Kl d 0:=⟨_,rfl⟩;refine⟨_,rfl,d,0,rfl,by decide,_,_,rfl,rfl,(by show(0:Int)<_;decide),_,_,rfl,rfl,?_⟩;rw[<-sH];have b1:0<=t % 8/\t % 8<8:=⟨Int.emod_nonneg _ (by decide),Int.emod_lt_of_pos _ (by decide)⟩;obtain⟨x,YZ⟩:∃z:Nat,1+t % 8=(z:Int):=⟨(1+t % 8).toNat,by omega⟩;have bs:1<=x/\x<=8:=by omega
   obtain⟨r2,sI⟩:∃r,r=Kl d 1:=⟨_,rfl⟩;refine⟨_,rfl,d,1,rfl,by decide,_,rfl,_,_,rfl,rfl,(by show(0:Int)<1+t % 8;omega),?_⟩;rw[<-sI];have b2:0<=r2 % (1+t % 8)/\r2 % (1+t % 8)<1+t % 8:=⟨Int.emod_nonneg _ (by omega),Int.emod_lt_of_pos _ (by omega)⟩;obtain⟨Cy,fO⟩:∃z:Nat,r2 % (1+t % 8)=(z:Int):=⟨(r2 % (1+t % 8)).toNat,by omega⟩;have uZ:Cy<x:=by omega
   obtain⟨r3,sJ⟩:∃r,r=Kl d 2:=⟨_,rfl⟩;refine⟨_,rfl,d,2,rfl,by decide,_,_,rfl,rfl,(by show(0:Int)<_;decide),?_⟩;rw[<-sJ];have b3:=Hn r3;obtain⟨l,mZ⟩:∃z:Int,z=1+t % 8:=⟨_,rfl⟩;obtain⟨a,ma⟩:∃z:Int,z=r2 % (1+t % 8):=⟨_,rfl⟩;obtain⟨b,sN⟩:∃z:Int,z=r3 % 26:=⟨_,rfl⟩;obtain⟨r4,sO⟩:∃r,r=Kl d 3:=⟨_,rfl⟩;obtain⟨o,N⟩:∃o:Nat->Str->Prop,o=fun(j:Nat)(y:Str)=>if r4 % 3=0 then((sgn y).length:Int)=(j:Int)+1+b % 3 else(sgn y)[Cy]?=YY[((b+5*(j:Int)) % 26).toNat]?:=⟨_,rfl⟩;refine⟨Nat.zero_le _,fun p hp=>?_⟩;have pf:H p=none:=Y.free hp;refine⟨6,rfl,by decide,by decide,Ew (lo:=0) (n:=6) (fun i σ O=>∃(k:List Str)(ok os:Option V),σ=[some (.int c),some (.int d),some (.str QV),some (.str W),some (.int l),some (.int a),some (.int b),some (.ref p),ok,os]/\
    AF H O/\O p=some (.lst (k.map V.str))/\k.length=i/\(∀(j:Nat) y,k[j]?=some y->o j y)/\∀y∈k,Bn y=true) ⟨[],none,none,by rw[mZ,ma,sN];rfl,Y.put pf,AB,rfl,fun j y G=>(by simp at G),fun y G=>nomatch G⟩ ?_ ?_⟩
   ·rintro i σ O hi ⟨k,ok,os,rfl,s3,Z,I,pm,ny⟩;have more:∀(y:Str)(oo S:Option V),o i y/\Bn y=true->∃(J:List Str)(ok os:Option V),[some (V.int c),some (V.int d),some (V.str QV),some (V.str W),some (V.int l),some (V.int a),some (V.int b),some (V.ref p),oo,S]=
      [some (V.int c),some (V.int d),some (V.str QV),some (V.str W),some (V.int l),some (V.int a),some (V.int b),some (V.ref p),ok,os]/\
      AF H (upd O p (.lst (k.map V.str++[.str y])))/\upd O p (.lst (k.map V.str++[.str y])) p=some (.lst (J.map V.str))/\J.length=i+1/\(∀(j:Nat) y,J[j]?=some y->o j y)/\∀z∈J,Bn z=true:=fun y oo S G=>
     ⟨k++[y],oo,S,rfl,s3.put pf,by rw[AB,List.map_append];rfl,by simp[I],fun j z L=>by
      by_cases dj:j<k.length
      ·rw[List.getElem?_append_left dj]at L;exact pm j z L
      ·have hl:=(uy L).1;rw[List.length_append,List.length_singleton]at hl;have e:j=i:=by omega
       subst e;rw[List.getElem?_append_right (by omega),I,Nat.sub_self]at L;have e:y=z:=by simpa using L
       rw[<-e];exact G.1,fun z hz=>(List.mem_append.mp hz).elim (ny z) fun hz=>by rw[List.mem_singleton.mp hz];exact G.2⟩
    have pA:(k.map V.str).length<sizeLine:=Aw (by rw[List.length_map];omega);refine⟨_,rfl,d,3,rfl,by decide,_,_,rfl,rfl,(by show(0:Int)<_;decide),rfl,_,rfl,?_⟩;rw[<-sO];refine Bs (fun h4=>?_) (fun h4=>?_)
    ·refine⟨_,rfl,.inl ⟨rfl,_,Ay.of Z⟩,_,rfl,_,rfl,_,_,rfl,rfl,_,rfl,_,_,rfl,rfl,(by show(0:Int)<_;decide),_,_,rfl,rfl,_,rfl,W,rfl,by rw[wz];decide,p,_,_,rfl,rfl,Z,pA,more _ _ _ ⟨?_,?_⟩⟩
     ·have c4:r4 % 3=0:=V.int.inj (of_decide_eq_true h4);rw[N];simp only[if_pos c4];obtain⟨n,hn⟩:∃n:Nat,0+(i:Int)+1+b % 3=(n:Int):=⟨(0+(i:Int)+1+b % 3).toNat,by omega⟩;rw[hn,Dk,Kd,List.length_take,M];omega
     obtain⟨n,hn⟩:∃n:Nat,0+(i:Int)+1+b % 3=(n:Int):=⟨(0+(i:Int)+1+b % 3).toNat,by omega⟩;show JM (sgn (Txt.slice W none (some (0+(i:Int)+1+b % 3))))=true;rw[hn,Dk,Kd];refine Oz ?_ ?_ (Hg wL n)
     ·rw[List.length_take,M];omega
     ·rw[List.length_take,M];omega
    ·obtain⟨B,u,hl⟩:=WM ((b+5*(0+(i:Int))) % 26) (Hn _).1 (Hn _).2;refine⟨_,rfl,_,rfl,_,rfl,_,_,rfl,rfl,.inl ⟨by decide,by decide⟩,_,_,rfl,rfl,_,_,rfl,rfl,(by show(0:Int)<_;decide),QV,_,B,rfl,rfl,by decide,u,?_⟩;have l1:(Txt.slice W none (some a)).length<=8:=by rw[<-wz];exact Txt.slice_le W _ _
     have l2:(Txt.slice W (some (a+1)) (some l)).length<=8:=by rw[<-wz];exact Txt.slice_le W _ _
     have l3:(Txt.slice W none (some a)++(⟨#[B]⟩:Str)).length<=9:=by rw[Str.length_append];show _+1<=9;omega
     refine⟨_,rfl,.inl ⟨rfl,_,Ay.of Z⟩,_,rfl,_,rfl,_,rfl,W,rfl,by rw[wz];decide,_,rfl,_,_,rfl,rfl,?_,_,rfl,_,rfl,_,_,rfl,rfl,_,rfl,_,rfl,_,rfl,W,rfl,by rw[wz];decide,_,_,rfl,rfl,?_,p,_,_,rfl,rfl,Z,pA,more _ _ _ ⟨?_,?_⟩⟩
     ·exact Nat.le_of_lt (Aw (by show(Txt.slice W none (some a)).length+1<=1000;omega))
     ·exact Nat.le_of_lt (Aw (by omega))
     ·have c4:¬r4 % 3=0:=fun z=>h4 (decide_eq_true (congrArg V.int z));rw[N];simp only[if_neg c4];have e0:a=(Cy:Int):=by omega
      rw[Dj,Dj,Dk,e0,Kd];have ec:sgn ⟨#[B]⟩=[B]:=rfl;rw[ec];have lt:((sgn W).take Cy).length=Cy:=by rw[List.length_take,M];omega
      rw[List.getElem?_append_left (by rw[List.length_append,lt,List.length_singleton];omega),List.getElem?_append_right (by rw[lt];exact Nat.le_refl _),lt,Nat.sub_self];have hb:=Hn (b+5*(0+(i:Int)));obtain⟨m,hm⟩:∃m:Nat,(b+5*(0+(i:Int))) % 26=(m:Int):=⟨((b+5*(0+(i:Int))) % 26).toNat,by omega⟩;have hz:(b+5*(i:Int)) % 26=(m:Int):=by rw[<-hm,Int.zero_add]
      rw[hz,Int.toNat_natCast];rw[hm]at u;obtain⟨j',g1,g2,g3,_⟩:=HW u;have:j'=m:=by
       have md:m<(sgn QV).length:=by show m<YY.length;rw[NN];omega
       have:=BV (xs:=sgn QV) (j:=m) (ux md);obtain⟨j2,k1,_⟩:=HW this;have q1:Qk (sgn QV).length (m:Int)=some m:=by
        unfold Qk;rw[if_pos (by omega),if_pos (by omega),Int.toNat_natCast]
       have:=(Jp q1).1;rw[this]at g1;exact(uz g1).symm
      rw[this]at g2;exact g2.symm
     ·show JM (sgn (Txt.slice W none (some a)++⟨#[B]⟩++Txt.slice W (some (a+1)) (some l)))=true;have e0:a=(Cy:Int):=by omega
      have e1:(Cy:Int)+1=((Cy+1:Nat):Int):=by omega
      have e2:l=(x:Int):=by omega
      rw[Dj,Dj,Dk,Dk,e0,e1,e2,Kd,ZG _ _ _ (by omega) (by rw[M];omega)];have ec:sgn ⟨#[B]⟩=[B]:=rfl;rw[ec];refine Oz ?_ ?_ ?_
      ·simp only[List.length_append,List.length_take,List.length_drop,M,List.length_singleton];omega
      ·simp only[List.length_append,List.length_take,List.length_drop,M,List.length_singleton];omega
      ·rw[List.all_append,List.all_append,Hg wL,Oy (Hg wL x)];simp[hl]
   ·rintro σ O ⟨k,ok,os,rfl,s3,Z,I,pm,ny⟩;refine⟨_,rfl,q p k O s3 pf Z I (WR o pm fun i j y ua L p1 p2=>?_) ny⟩;rw[N]at p1 p2;have hb:=(Hn (b+5*(i:Int)));have iU:=(Hn (b+5*(j:Int)));by_cases c4:r4 % 3=0
    ·simp only[if_pos c4]at p1 p2;omega
    ·simp only[if_neg c4]at p1 p2;rw[p1]at p2;have nl:YY.Nodup:=by decide+kernel
     have h1:((b+5*(i:Int)) % 26).toNat<YY.length:=by rw[NN];omega
     have:=(List.getElem?_inj h1 nl).mp p2;omega
end
end BF
namespace BF
open PySem L2
section
variable{P:Program} {w:World} {K:vA} [A_ K] {mg:Str->Option Value} {base:Heap}
theorem Xt:AU ["_law_cell_here","_law_number"] ["_law_cell_here"] (AL Xd):={}
theorem aD{f:Addr}{m:FuncData}(F:CL K "_law_leaf" "_law_leaf" Xd f m)(T:Txt mg)(a:Df P w K mg base "_law_mix" ["_law_cell_here","_law_k"] 1 F_):Av P w K mg base CP 2 f m ["_law_cell_here"] Nc:=by
 refine F.oq Xt fun o A outer s H z Q E d h=>?_
 ·obtain⟨c,rfl,q⟩:=h;have nd:=Xt.nd;have B:=An d;refine⟨_,(AD (Ac 1 nd (Al a d.mm (AA (pv 0) (AO AG)))) (AD (AX (AI BO (AV BD (Al a d.mm (AA (pv 0) (AO AG))) AG) AG (AM _)) (AE (AH (AV KH (AV BD (pv 1) AG) AG))) AK) (AD (AX (AI BO (AV BD (Al a d.mm (AA (pv 0) (AO AG))) AG) AG (AM _)) (AE (AH (Ai Kb (Ai Kb AQ (Au (AV BD (pv 1) AG)) Ax) Ax (Au (AV BD (AV GY (pv 1) AG) AG))))) AK) (AE (AH (AV Bc AG (pv 1))))))),?_⟩;have b:∀(i:Int) g,i.natAbs<2 ^ 400/\i<10 ^ 20->AF H g->Q (.int i) g:=fun i g k p=>q _ _ (.inl ⟨i,rfl,k.1⟩) (fun⟨j,e,l⟩=>by cases e;omega) p;have small:∀x:Int,-(2 ^ 399)<x->x<2 ^ 399->x.natAbs<2 ^ 400:=fun x C D=>by omega
  refine⟨_,rfl,c,4,rfl,by decide,fun n G I=>?_⟩;refine⟨_,rfl,c,3,rfl,by decide,fun J L M=>⟨_,_,rfl,rfl,(by show(0:Int)<_;decide),rfl,_,rfl,?_⟩⟩;refine Bs (fun _=>?_) (fun _=>?_)
  ·have N:=Hm n (n:=7) (by decide);exact⟨_,rfl,_,_,rfl,rfl,(by show(0:Int)<_;decide),_,_,rfl,rfl,b _ _ ⟨small _ (by omega) (by omega),by omega⟩ (AF.refl H)⟩
  refine⟨_,rfl,c,3,rfl,by decide,fun O R S=>⟨_,_,rfl,rfl,(by show(0:Int)<_;decide),rfl,_,rfl,?_⟩⟩;refine Bs (fun _=>?_) (fun _=>?_)
  ·have r:=Hn n;have t:=Hm (n/26) (n:=4) (by decide);have l1:(Txt.slice QV (some (n % 26)) none).length<=26:=by
    have:=Txt.slice_le QV (some (n % 26)) none;rw[Sn]at this;exact this
   refine⟨_,rfl,_,_,rfl,rfl,(by show(0:Int)<_;decide),_,rfl,QV,rfl,by rw[Sn];decide,_,rfl,_,_,rfl,rfl,⟨by decide,by decide⟩,_,_,rfl,rfl,(by show(0:Int)<_;decide),_,rfl,_,rfl,Nat.le_of_lt (Aw (Nat.le_trans l1 (by decide))),q _ _ (.inr ⟨_,rfl,?_⟩) (fun⟨j,e,l⟩=>nomatch e) (AF.refl H)⟩;obtain⟨i,k⟩:∃i:Nat,n % 26=(i:Int):=⟨(n % 26).toNat,by omega⟩;obtain⟨j,l⟩:∃j:Nat,n/26 % 4=(j:Int):=⟨(n/26 % 4).toNat,by omega⟩;have u:sgn (Txt.slice (Txt.slice QV (some (n % 26)) none) none (some (n/26 % 4)))=((sgn QV).drop i).take j:=by
    rw[Dk,Dk,k,l,WD,Kd]
   have v:(sgn QV).all Ow=true:=by
    rw[List.all_eq_true];exact fun x y=>Ke y
   unfold WK;rw[<-Gr,u,Bool.and_eq_true];refine⟨decide_eq_true ?_,Hg (Oy v i) j⟩;rw[List.length_take];omega
  exact⟨_,rfl,_,_,rfl,rfl,b _ _ ⟨small _ (by omega) (by omega),by omega⟩ (AF.refl H)⟩
end
end BF
namespace BF
open PySem L2
section
variable{P:Program} {w:World} {K:vA} [A_ K] {mg:Str->Option Value} {base:Heap}
theorem Xu:AU ["_law_cell_here","_law_deep","_law_way"] ["_law_cell_here","_law_deep"] (AL Xe):={}
theorem aE{f:Addr}{t:FuncData}(F:CL K "_law_part" "_law_part" Xe f t)(T:Txt mg)(m:Df P w K mg base "_law_mix" ["_law_cell_here","_law_k"] 1 F_)(j:Df P w K mg base "_law_leaf" ["_law_cell_here"] 2 Nc):Av P w K mg base CP 3 f t ["_law_cell_here","_law_deep"] Sw:=by
 refine F.oq Xu fun y A outer s H B Q E n h=>?_
 ·obtain⟨c,d,rfl,q⟩:=h;have nd:=Xu.nd;have C:=An n;refine⟨_,(AD (Ac 2 nd (AV BD (Al m n.mm (AA (pv 0) (AO AG))) AG)) (AD (AX (PW.pt (pw_and (AI Gh (pv 2) AG (AM _)) (pw_and1 (AI Gh (pv 1) AG (AM _))))) (AE (AH (BB CH))) AK) (AD (AX (PW.pt (pw_and (AI Gh (pv 2) AG (AM _)) (pw_and1 (AI Gh (pv 1) AG (AM _))))) (AE (AH KU)) AK) (AE (AH (Al j n.mm (AO (pv 0)))))))),?_⟩;have row:∀p,H p=none->Q (.ref p) (upd H p (.lst [])):=fun p i=>q (.row p []) _ (AF.new i) (by simp only[Dc.At,Dc.DP,List.map_nil,and_true];exact .inl AB) rfl (fun a b o u e=>by simp[Dc.addrs,Dc.AJ]at b;rw[b,AB]at e;cases e) (fun a b=>by simp[Dc.addrs,Dc.AJ]at b;rw[b];exact i);have tab:∀p,H p=none->Q (.ref p) (upd H p (.dK [])):=fun p i=>q (.tab p [] []) _ (AF.new i) (by simp only[Dc.At,Dc.DP,List.length_nil,List.nodup_nil,and_true,true_and];exact .inl AB) ⟨rfl,rfl⟩ (fun a b o u e=>by simp[Dc.addrs,Dc.AJ]at b;rw[b,AB]at e;cases e) (fun a b=>by simp[Dc.addrs,Dc.AJ]at b;rw[b];exact i);have leaf:∀v g,Kj v->AF H g->Q v g:=fun v g x z=>q (.leaf v) g z x.lf x (fun a b=>by simp[Dc.addrs]at b) (fun a b=>by simp[Dc.addrs]at b);refine⟨_,rfl,c,0,rfl,by decide,fun r D G=>⟨_,_,rfl,rfl,(by show(0:Int)<_;decide),?_⟩⟩;refine⟨_,rfl,_,_,rfl,rfl,_,rfl,?_⟩;refine Bs (fun _=>⟨_,rfl,_,_,rfl,rfl,_,rfl,?_⟩) (fun _=>Ae ?_)
  ·refine Bs (fun _=>⟨Nat.zero_le _,fun p i=>row p i⟩) (fun _=>?_);refine⟨_,rfl,_,_,rfl,rfl,_,rfl,?_⟩;refine Bs (fun _=>⟨_,rfl,_,_,rfl,rfl,_,rfl,?_⟩) (fun _=>Ae ⟨_,rfl,c,rfl,fun v g k _ l=>leaf v g k l⟩);refine Bs (fun _=>fun p i=>tab p i) (fun _=>⟨_,rfl,c,rfl,fun v g k _ l=>leaf v g k l⟩)
  ·refine⟨_,rfl,_,_,rfl,rfl,_,rfl,?_⟩;refine Bs (fun _=>⟨_,rfl,_,_,rfl,rfl,_,rfl,?_⟩) (fun _=>Ae ⟨_,rfl,c,rfl,fun v g k _ l=>leaf v g k l⟩);refine Bs (fun _=>fun p i=>tab p i) (fun _=>⟨_,rfl,c,rfl,fun v g k _ l=>leaf v g k l⟩)
end
end BF
namespace BF
open PySem L2
section
variable{P:Program} {w:World} {K:vA} [A_ K] {mg:Str->Option Value} {base:Heap}
theorem bO:AU ["_law_script","_law_start","_law_many","_law_names_here","_law_doc_here","_law_holders","_law_k","_law_cell_here","_law_holder","_law_deep","_law_part_here","_law_left"] ["_law_script","_law_start","_law_many","_law_names_here"] (AL dZ):={}
theorem dy{f:Addr}{fd:FuncData}(F:CL K "_law_doc" "_law_doc" dZ f fd)(T:Txt mg)(bP:Df P w K mg base "_law_cell" ["_law_script","_law_k"] 1 (NO K))(aF:Df P w K mg base "_law_mix" ["_law_cell_here","_law_k"] 1 F_)(iY:Df P w K mg base "_law_part" ["_law_cell_here","_law_deep"] 3 Sw):Av P w K mg base CP 4 f fd ["_law_script","_law_start","_law_many","_law_names_here"] (Wk K):=by
 refine F.oq bO fun Ic A outer s H vs Q E hr h=>?_
 ·obtain⟨a,n,ns,k,m,I,rfl,hS,hlen,hk,m1,m2,hn,ln,l0,ny,q⟩:=h;have nd:=bO.nd;have hu:=An hr;refine⟨_,(AD (Ac 4 nd (LI K (BB (AA (BB CH) (AO KU))) (AV BD (Al aF hr.mm (AA (Al bP hr.mm (AA (pv 0) (AO (pv 1)))) (AO AG))) AG))) (AD (Ac 5 nd (BB (AO (AW (AA (pv 4) (AO AG)))))) (AD (VS (Tq rfl T.range (AA AG (AO (pv 2)))) (EZ 6 nd) (AD (Ac 7 nd (Al bP hr.mm (AA (pv 0) (AO (AV Bc (pv 1) (pv 6)))))) (AD (NA (LI K (pv 5) (AV BD (Al aF hr.mm (AA (pv 7) (AO AG))) (DS T.len (pv 5)))) (M' rfl (Dz (FP (i:=8) nd rfl (Or.inr rfl)) (Dz (EZ 9 nd) Jn)))) (AD (Ac 10 nd (Al iY hr.mm (AA (pv 7) (AO (pv 9))))) (AD (FU (i:=11) (fv:=["_law_holder"]) (fs:=[8]) rfl (.of (by rfl)) nd rfl (Or.inl rfl) (DB (pv 3)) (fun C s0 H0 fp=>Hb (PW.pt (pw_or (Ag (Aa Ao rfl T.isinstance AS (AA (pv 1) (AO (BG (v:=.ty "list") rfl T.list Dn rfl))))) (pw_or1 (QZ (Ib hu (pv 0) (pv 1))))))) (fun C s0 H0 fp=>(pv 0))) (AD (AX (Ag (Aa Ao rfl T.isinstance AS (AA (pv 8) (AO (BG (v:=.ty "list") rfl T.list Dn rfl))))) (AE (CK (D' PySem.F.plainAttrs_list PySem.F.slot_list_insert PySem.F.type_list_insert UD (pv 8) (AA (AV BD (Al aF hr.mm (AA (pv 7) (AO AG))) (AV Bc (DS T.len (pv 8)) AG)) (AO (pv 10)))))) (AE (AX (AI (WJ (BZ.CJ hr)) (pv 11) (BB CH) (AM _)) (AE (Sa hu (pv 8) (LI K (pv 11) (AV BD (Al aF hr.mm (AA (pv 7) (AO AG))) (DS T.len (pv 11)))) (pv 10) rfl)) AK))) (AE (AX (PW.pt (pw_and (Ag (Aa Qu rfl T.isinstance AS (AA (pv 10) (AO (AW (AA (BG (v:=.ty "list") rfl T.list Dn rfl) (AO (BG (v:=.ty "dict") rfl T.dict En rfl)))))))) (pw_and1 (PW.pt (pw_or (Ag (Aa Ao rfl T.isinstance AS (AA (pv 8) (AO (BG (v:=.ty "list") rfl T.list Dn rfl))))) (pw_or1 (AI (WJ (BZ.CJ hr)) (pv 11) (BB CH) (AM _)))))))) (AE (CK (D' PySem.F.plainAttrs_list PySem.F.slot_list_append PySem.F.type_list_append CI (pv 5) (AO (AW (AA (pv 10) (AO (AV Bc (pv 9) AG)))))))) AK)))))))) (AE (AH (pv 4)))))),?_⟩;refine⟨Nat.zero_le _,fun a1 h1=>fun a2 h2=>⟨AR,fun L0 h0=>?_⟩⟩;have u1:=AF.new (o:=.lst []) h1;have u2:=AF.new (o:=.dK []) h2;have u3:=AF.new (o:=.lst [.ref a1,.ref a2]) h0;refine⟨_,rfl,_,rfl,a,ns,k,rfl,(((u1.trans u2).trans u3)).seq hS,fun c0 ub=>⟨c0,0,rfl,by decide,fun r0 p0 q0=>⟨_,_,rfl,rfl,(by show(0:Int)<_;decide),?_⟩⟩⟩;have pB:=Hm r0 (n:=2) (by decide);obtain⟨v,hv,mv⟩:=FD (xs:=[V.ref a1,V.ref a2]) pB.1 pB.2;refine⟨L0,_,_,_,rfl,rfl,Ay.of AB,hv,?_⟩;obtain⟨H3,e3⟩:∃H3,H3=upd (upd (upd H a1 (.lst [])) a2 (.dK [])) L0 (.lst [.ref a1,.ref a2]):=⟨_,rfl⟩;have s3:AF H H3:=by rw[e3];exact(u1.trans u2).trans u3
  have x1:H3 a1=some (.lst []):=by rw[e3];exact u3 _ _ (u2 _ _ AB)
  have x2:H3 a2=some (.dK []):=by rw[e3];exact u3 _ _ AB
  rw[<-e3];have pk:∃(p:Dc)(b:Addr),v=p.val/\p.val=.ref b/\b∈p.addrs/\p.At H3/\p.Kk/\(∀c∈p.addrs,∀o u,H3 c≠some (.DT o u))/\(∀c∈p.addrs,H c=none):=by
   simp only[List.mem_cons,List.not_mem_nil,or_false]at mv;rcases mv with rfl|rfl
   ·exact⟨.row a1 [],a1,rfl,rfl,by simp[Dc.addrs],by simp only[Dc.At,Dc.DP,List.map_nil,and_true];exact .inl x1,rfl,(fun c hc o u e=>by simp[Dc.addrs,Dc.AJ]at hc;rw[hc,x1]at e;cases e),fun c hc=>by simp[Dc.addrs,Dc.AJ]at hc;rw[hc];exact h1⟩
   ·exact⟨.tab a2 [] [],a2,rfl,rfl,by simp[Dc.addrs],by simp only[Dc.At,Dc.DP,List.length_nil,List.nodup_nil,and_true,true_and];exact .inl x2,⟨rfl,rfl⟩,(fun c hc o u e=>by simp[Dc.addrs,Dc.AJ]at hc;rw[hc,x2]at e;cases e),fun c hc=>by simp[Dc.addrs,Dc.AJ]at hc;rw[hc];exact u1.free h2⟩
  obtain⟨p,b0,rfl,sP,sQ,me,bare,mf,mh⟩:=pk;refine⟨_,rfl,AR,fun t0 sS=>⟨BI,fun L hL=>?_⟩⟩;have s4:=AF.new (o:=.tup [p.val,.int 1]) sS;have s5:=AF.new (o:=.lst [.ref t0]) hL;have pC:DG H (upd (upd H3 t0 (.tup [p.val,.int 1])) L (.lst [.ref t0])) p L [t0]:=by
   refine⟨⟨(s3.trans s4).trans s5,Dc.Ab (s4.trans s5) me,bare.ok,bare.nodup,fun c hc=>Dp (Dc.there me hc) (mf c hc) ((s4.trans s5) c),mh⟩,(s3.trans s4).free hL,AB,fun h=>?_,fun t ht=>?_⟩
   ·exact Dc.there (Dc.Ab s4 me) h hL
   ·rw[List.mem_singleton.mp ht];exact⟨b0,1,by rw[s5 _ _ AB,sP],sQ⟩
  generalize upd (upd H3 t0 (.tup [p.val,.int 1])) L (.lst [.ref t0])=H5 at pC⊢;refine⟨_,rfl,_,_,rfl,⟨by decide,by decide,by omega,by omega⟩,Ew (lo:=1) (fun i σ Hi=>∃(d:Dc)(M:List Addr)(o6 o7 o8 o9 o10 o11:Option V),σ=[some (.ref a),some (.int (k:Int)),some (.int (m:Int)),some (.ref n),some p.val,some (.ref L),o6,o7,o8,o9,o10,o11]/\d.val=p.val/\DG H Hi d L M/\d.size<=i+1/\0<M.length/\M.length<=i+1/\d.named I)
   ⟨p,[t0],none,none,none,none,none,none,rfl,rfl,pC,by rw[bare.size];omega,by simp,by simp,bare.named⟩ ?_ ?_⟩
  ·rintro i σ Hi X ⟨d,M,o6,o7,o8,o9,o10,o11,rfl,dv,DI,ds,lp,lt,dz⟩;have sT:i<24:=by omega
   have ll:(M.map V.ref).length=M.length:=List.length_map ..;refine⟨_,rfl,_,rfl,_,rfl,_,_,rfl,rfl,a,ns,k+(1+i),(by show[V.ref a,V.int ((k:Int)+(1+(i:Int)))]=_;simp),DI.made.same.seq hS,fun c pc=>?_⟩;refine⟨_,rfl,_,rfl,c,1,rfl,by decide,fun r1 p1 q1=>⟨_,rfl,L,_,rfl,.inl (Ay.of DI.eL),_,_,rfl,rfl,(by show(0:Int)<((M.map V.ref).length:Int);rw[ll];omega),?_⟩⟩;have b1:=Hm r1 (n:=((M.map V.ref).length:Int)) (by rw[ll];omega);obtain⟨v3,sU,sV⟩:=FD (xs:=M.map V.ref) b1.1 b1.2;obtain⟨t,ht,rfl⟩:=List.mem_map.mp sV;obtain⟨b,kk,et,hb⟩:=DI.hold t ht;refine⟨L,_,_,_,rfl,rfl,Ay.of DI.eL,sU,t,_,rfl,Ah.of et,rfl,_,_,rfl,_,_,rfl,rfl,?_⟩;refine⟨_,rfl,_,rfl,c,kk,rfl,fun O H4 s4 jl bQ iZ ia=>?_⟩;have jm:=DI.up s4;have d_:=jm.made.same _ _ hn;have li:∀i,i<I.length->(I.map V.str)[i]?=some (.str (I.getD i "")):=fun i X=>by
    rw[List.getElem?_map,ux X,List.getD_eq_getElem?_getD,ux X];rfl
   have sW:(∃vs,H4 b=some (.lst vs)/\vs.length<=1000)∨∃kv,H4 b=some (.dK kv)/\kv.length<=1000:=by
    rcases Dc.Ii d jm.made.at_ hb with⟨vs,e,l⟩|⟨ks,kv,e,_,l⟩
    ·exact .inl ⟨vs,e.exact (jm.made.own b hb),by omega⟩
    ·exact .inr ⟨kv,e.exact (jm.made.own b hb),by omega⟩
   have lz:(M.map V.ref).length<sizeLine:=Aw (by rw[ll];omega);have y0:∃y∈I,Bn y=true:=by
    obtain⟨y,r,e⟩:=List.exists_cons_of_length_pos l0;exact⟨y,by rw[e];exact List.mem_cons_self,ny y (by rw[e];exact List.mem_cons_self)⟩
   have yl:∀{H':Hp}{D:Addr}{zs:List V}{i:Nat}{v:V},H4 D=none->i<I.length->(∀us,Ay K (upd H4 D (.lst zs)) n us->us[i]?=some v)->v=.str (I.getD i ""):=fun{H' D zs i v} hD X y=>by
    have:=y _ ((AF.new hD).seq (Ay.of d_));rw[li i X]at this;exact(uz this).symm
   dsimp only[Bm];rcases sW with⟨vs,pD,hz⟩|⟨kv,ml,hz⟩
   ·refine⟨_,rfl,n,rfl,⟨_,Ay.of d_⟩,MD (n:=I.length) (fun i=>.str (I.getD i "")) (fun i=>.str (I.getD i "")) (fun _=>true) (Nat.le_of_lt (Aw (Nat.le_trans ln (by decide)))) (fun i D zs X hD=>⟨_,_,(AF.new hD).seq (Ay.of d_),li i X⟩) (fun i D zs v H' X hD y=>⟨yl (H':=H') hD X y.2,y.1⟩) (fun D zs hD=>⟨_,(AF.new hD).seq (Ay.of d_),by rw[List.length_map];exact Nat.le_refl _⟩) (fun i D zs R X hD r=>⟨_,rfl,_,"list","list",rfl,rfl,.lst (.inl (AF.new hD _ _ pD)),_,rfl,Aj r⟩) (fun i D zs R X hD _ r=>⟨_,rfl,r⟩) fun Dl mn=>?_⟩;have sD:=AF.new (o:=.lst (((List.range I.length).filter fun _=>true).map fun i=>V.str (I.getD i ""))) mn;have Y:=sD _ _ pD;refine⟨_,rfl,_,"list","list",rfl,rfl,.lst (.inl Y),_,rfl,Aj ?_⟩;refine⟨_,rfl,.inl ⟨rfl,_,Ay.of Y⟩,_,rfl,c,2,rfl,by decide,fun r2 sX q2=>?_⟩;have mm:=Hm r2 (n:=(vs.length:Int)+1) (by omega);obtain⟨j,hj⟩:∃j:Nat,r2 % ((vs.length:Int)+1)=(j:Int):=⟨(r2 % ((vs.length:Int)+1)).toNat,by omega⟩;refine⟨_,rfl,b,_,rfl,.inl (Ay.of Y),_,_,rfl,rfl,_,_,rfl,rfl,(by show(0:Int)<(vs.length:Int)+1;omega),_,rfl,b,vs,j,O.val,rfl,?_,Y,by omega,Aw hz,?_⟩
    ·show[V.int (r2 % ((vs.length:Int)+1)),O.val]=_;rw[hj]
    obtain⟨d',e1,e2,ib,mq,ie,mr⟩:=DI.laid (N:=I) (s4.trans sD) (Dc.Ab sD jl) bQ (fun a ha=>Dp (Dc.there jl ha) (iZ a ha) (sD a)) ia hb fB.upd (.inl ⟨vs,j,Y,AB⟩);have S:=mr y0 dz;have ig:=(AB:upd (upd H4 Dl (.lst (((List.range I.length).filter fun _=>true).map fun i=>V.str (I.getD i "")))) b (.lst (vs.take j++O.val::vs.drop j)) b=_);refine⟨_,rfl,by decide,fun t6 g=>⟨O.val,t6,O.MH,rfl,AB,Dc.Fm (Dc.Ab (AF.new g) ie),_,rfl,?_⟩⟩;have B:=ib.up (AF.new (o:=.tup [.ty "list",.ty "dict"]) g);have push:∀(Hz:Hp)(Z:Addr),DG H Hz d' L M->O.val=.ref Z->Z∈O.addrs->∀U,Hz U=none->DG H (upd (upd Hz U (.tup [O.val,.int (kk+1)])) L (.lst (M.map V.ref++[.ref U]))) d' L (M++[U]):=fun Hz Z D7 mu mw U G=>by
     have D8:=D7.up (AF.new (o:=.tup [O.val,.int (kk+1)]) G);exact D8.push (b:=Z) (k:=kk+1) (by rw[AB,mu]) (mq Z mw)
    cases O with
    |leaf v=>exact Af (by cases v<;>rfl) (Ae ⟨d',M,_,_,_,_,_,_,rfl,by rw[e1,dv],B,by omega,lp,by omega,S⟩)
    |row Z ij=>
     refine BL rfl ?_;refine⟨_,rfl,_,"list","list",rfl,rfl,.lst (.inl (AF.new g _ _ ig)),_,rfl,Aj (Aj ?_)⟩;exact⟨_,rfl,.inl ⟨rfl,_,Ay.of B.eL⟩,_,rfl,_,rfl,_,_,rfl,rfl,AR,fun U G=>⟨L,_,_,rfl,rfl,(B.up (AF.new G)).eL,lz,d',M++[U],_,_,_,_,_,_,rfl,by rw[e1,dv],push _ Z B rfl (by simp[Dc.addrs]) U G,by omega,by simp,by simp;omega,S⟩⟩
    |tab Z pE ij=>
     refine BL rfl ?_;refine⟨_,rfl,_,"list","list",rfl,rfl,.lst (.inl (AF.new g _ _ ig)),_,rfl,Aj (Aj ?_)⟩;exact⟨_,rfl,.inl ⟨rfl,_,Ay.of B.eL⟩,_,rfl,_,rfl,_,_,rfl,rfl,AR,fun U G=>⟨L,_,_,rfl,rfl,(B.up (AF.new G)).eL,lz,d',M++[U],_,_,_,_,_,_,rfl,by rw[e1,dv],push _ Z B rfl (by simp[Dc.addrs]) U G,by omega,by simp,by simp;omega,S⟩⟩
   ·have nD:∀{D:Addr}{zs:List V},H4 D=none->upd H4 D (.lst zs) b=some (.dK kv):=fun h=>by rw[AN (Am ml h)];exact ml
    refine⟨_,rfl,n,rfl,⟨_,Ay.of d_⟩,MD (n:=I.length) (fun i=>.str (I.getD i "")) (fun i=>.str (I.getD i "")) (fun i=> !(Cw kv (Sum.inr (I.getD i ""))).isSome) (Nat.le_of_lt (Aw (Nat.le_trans ln (by decide)))) (fun i D zs X hD=>⟨_,_,(AF.new hD).seq (Ay.of d_),li i X⟩) (fun i D zs v H' X hD y=>⟨yl (H':=H') hD X y.2,y.1⟩) (fun D zs hD=>⟨_,(AF.new hD).seq (Ay.of d_),by rw[List.length_map];exact Nat.le_refl _⟩) (fun i D zs R X hD r=>⟨_,rfl,_,"list","dict",rfl,rfl,.dK (.inl (nD hD)),_,rfl,Ae ⟨_,rfl,_,rfl,b,_,rfl,NH.k (k:=Sum.inr (I.getD i "")) (nD hD),_,rfl,r⟩⟩) (fun i D zs R X hD _ r=>⟨_,rfl,r⟩) fun Dl mn=>?_⟩;obtain⟨lf,pF⟩:∃lf:List Str,lf=((List.range I.length).filter fun i=> !(Cw kv (Sum.inr (I.getD i ""))).isSome).map fun i=>I.getD i "":=⟨_,rfl⟩;have el:List.map (fun i=>V.str (I.getD i "")) (List.filter (fun i=> !(Cw kv (Sum.inr (I.getD i ""))).isSome) (List.range I.length))=lf.map V.str:=by
     rw[pF,List.map_map];rfl
    have lm:∀x∈lf,(Bn x=true/\x∈I)/\Cw kv (Sum.inr x)=none:=fun x hx=>by
     rw[pF]at hx;obtain⟨i,X,rfl⟩:=List.mem_map.mp hx;have X:=List.mem_filter.mp X;have h1:=List.mem_range.mp X.1;have my:I.getD i ""∈I:=by
      rw[List.getD_eq_getElem?_getD,ux h1];exact List.getElem_mem h1
     refine⟨⟨ny _ my,my⟩,?_⟩;have:=X.2;simp only[Bool.not_eq_true',Option.isSome_eq_false_iff,Option.isNone_iff_eq_none]at this;exact this
    rw[el];have sD:=AF.new (o:=.lst (lf.map V.str)) mn;have h1:upd H4 Dl (.lst (lf.map V.str)) Dl=some (.lst (lf.map V.str)):=AB;have Y:=sD _ _ ml;have aH:=Dc.Ab sD jl;have bR:∀a∈O.addrs,∀o u,upd H4 Dl (.lst (lf.map V.str)) a≠some (.DT o u):=fun a ha=>Dp (Dc.there jl ha) (iZ a ha) (sD a);have mx:=s4.trans sD;generalize upd H4 Dl (.lst (lf.map V.str))=HD at sD h1 Y aH bR mx⊢;refine⟨_,rfl,_,"list","dict",rfl,rfl,.dK (.inl Y),_,rfl,Ae ?_⟩;refine⟨_,rfl,Nat.zero_le _,fun z1 sY=>?_⟩;have sz:=AF.new (o:=.lst []) sY;refine⟨Dl,z1,_,rfl,rfl,Ay.of (sz _ _ h1),Ay.of AB,_,rfl,?_⟩;cases lf with
    |nil=>
     refine Ae ?_;have ib:=(DI.up mx).up sz;have ie:=Dc.Ab sz aH;have pG:=sz _ _ h1;have pH:=sz _ _ Y;refine⟨_,rfl,by decide,fun t6 g=>⟨O.val,t6,O.MH,rfl,AB,Dc.Fm (Dc.Ab (AF.new g) ie),_,rfl,?_⟩⟩;have B:=ib.up (AF.new (o:=.tup [.ty "list",.ty "dict"]) g);cases O with
     |leaf v=>exact Af (by cases v<;>rfl) (Ae ⟨d,M,_,_,_,_,_,_,rfl,dv,B,by omega,lp,by omega,dz⟩)
     |row Z ij=>exact BL rfl ⟨_,rfl,_,"list","dict",rfl,rfl,.dK (.inl (AF.new g _ _ pH)),_,rfl,Ae ⟨_,rfl,Nat.zero_le _,fun z2 J=>⟨Dl,z2,_,rfl,rfl,Ay.of (AF.new J _ _ (AF.new g _ _ pG)),Ay.of AB,_,rfl,Ae ⟨d,M,_,_,_,_,_,_,rfl,dv,B.up (AF.new J),by omega,lp,by omega,dz⟩⟩⟩⟩
     |tab Z pE ij=>exact BL rfl ⟨_,rfl,_,"list","dict",rfl,rfl,.dK (.inl (AF.new g _ _ pH)),_,rfl,Ae ⟨_,rfl,Nat.zero_le _,fun z2 J=>⟨Dl,z2,_,rfl,rfl,Ay.of (AF.new J _ _ (AF.new g _ _ pG)),Ay.of AB,_,rfl,Ae ⟨d,M,_,_,_,_,_,_,rfl,dv,B.up (AF.new J),by omega,lp,by omega,dz⟩⟩⟩⟩
    |cons x r=>
     refine Aj ?_;have h2:=sz _ _ h1;refine⟨_,rfl,_,rfl,_,rfl,_,rfl,c,2,rfl,by decide,fun r2 sX q2=>?_⟩;have mm:=Hm r2 (n:=(((x::r).map V.str).length:Int)) (by simp);obtain⟨v,hv,mv⟩:=FD mm.1 mm.2;obtain⟨z,J,rfl⟩:=List.mem_map.mp mv;obtain⟨nz,vz⟩:=lm z J;have h3:=sz _ _ Y;refine⟨_,rfl,Dl,_,rfl,.inl (Ay.of h2),_,_,rfl,rfl,(by show(0:Int)<(((x::r).map V.str).length:Int);simp),Dl,_,_,_,rfl,rfl,Ay.of h2,hv,b,_,rfl,Tw.k (k:=Sum.inr z) h3 (Aw hz),?_⟩;obtain⟨d',e1,e2,ib,mq,ie,mr⟩:=DI.laid (N:=I) (mx.trans sz) (Dc.Ab sz aH) bQ (fun a ha=>Dp (Dc.there aH ha) (bR a ha) (sz a)) ia hb (fB.upd (o:=.dK (putK kv (Sum.inr z) O.val))) (.inr ⟨kv,z,h3,Vy vz,nz,by rw[AB,Oh _ vz]⟩);have S:=mr y0 dz;have ig:=(AB:upd (upd HD z1 (.lst [])) b (.dK (putK kv (Sum.inr z) O.val)) b=_);have ik:upd (upd HD z1 (.lst [])) b (.dK (putK kv (Sum.inr z) O.val)) Dl=some (.lst ((x::r).map V.str)):=by
      rw[AN (Es h2 h3 (by intro z;cases z))];exact h2
     refine⟨_,rfl,by decide,fun t6 g=>⟨O.val,t6,O.MH,rfl,AB,Dc.Fm (Dc.Ab (AF.new g) ie),_,rfl,?_⟩⟩;have B:=ib.up (AF.new (o:=.tup [.ty "list",.ty "dict"]) g);have push:∀(Hz:Hp)(Z:Addr),DG H Hz d' L M->O.val=.ref Z->Z∈O.addrs->∀U,Hz U=none->DG H (upd (upd Hz U (.tup [O.val,.int (kk+1)])) L (.lst (M.map V.ref++[.ref U]))) d' L (M++[U]):=fun Hz Z D7 mu mw U G=>by
      have D8:=D7.up (AF.new (o:=.tup [O.val,.int (kk+1)]) G);exact D8.push (b:=Z) (k:=kk+1) (by rw[AB,mu]) (mq Z mw)
     cases O with
     |leaf v=>exact Af (by cases v<;>rfl) (Ae ⟨d',M,_,_,_,_,_,_,rfl,by rw[e1,dv],B,by omega,lp,by omega,S⟩)
     |row Z ij=>
      refine BL rfl ?_;refine⟨_,rfl,_,"list","dict",rfl,rfl,.dK (.inl (AF.new g _ _ ig)),_,rfl,Ae ⟨_,rfl,Nat.zero_le _,fun z2 J=>?_⟩⟩;have eA:=B.up (AF.new (o:=.lst []) J);refine⟨Dl,z2,_,rfl,rfl,Ay.of (AF.new J _ _ (AF.new g _ _ ik)),Ay.of AB,_,rfl,Aj ?_⟩;exact⟨_,rfl,.inl ⟨rfl,_,Ay.of eA.eL⟩,_,rfl,_,rfl,_,_,rfl,rfl,AR,fun U G=>⟨L,_,_,rfl,rfl,(eA.up (AF.new G)).eL,lz,d',M++[U],_,_,_,_,_,_,rfl,by rw[e1,dv],push _ Z eA rfl (by simp[Dc.addrs]) U G,by omega,by simp,by simp;omega,S⟩⟩
     |tab Z pE ij=>
      refine BL rfl ?_;refine⟨_,rfl,_,"list","dict",rfl,rfl,.dK (.inl (AF.new g _ _ ig)),_,rfl,Ae ⟨_,rfl,Nat.zero_le _,fun z2 J=>?_⟩⟩;have eA:=B.up (AF.new (o:=.lst []) J);refine⟨Dl,z2,_,rfl,rfl,Ay.of (AF.new J _ _ (AF.new g _ _ ik)),Ay.of AB,_,rfl,Aj ?_⟩;exact⟨_,rfl,.inl ⟨rfl,_,Ay.of eA.eL⟩,_,rfl,_,rfl,_,_,rfl,rfl,AR,fun U G=>⟨L,_,_,rfl,rfl,(eA.up (AF.new G)).eL,lz,d',M++[U],_,_,_,_,_,_,rfl,by rw[e1,dv],push _ Z eA rfl (by simp[Dc.addrs]) U G,by omega,by simp,by simp;omega,S⟩⟩
  ·rintro σ Hi ⟨d,M,o6,o7,o8,o9,o10,o11,rfl,dv,DI,ds,lp,lt,dz⟩;refine⟨_,rfl,?_⟩;rw[<-dv];exact q d Hi DI.made (by omega) dz
end
end BF
namespace BF
open PySem L2
section
variable{P:Program} {w:World} {K:vA} [A_ K] {mg:Str->Option Value} {base:Heap}
theorem Xv:AU ["_law_doc_here"] ["_law_doc_here"] (AL TM):={}
theorem aI{n:Nat}{f:Addr}{fd:FuncData}(F:CL K "_law_copy" "_law_copy" TM f fd)(T:Txt mg)(B:Df P w K mg base "_law_copy" ["_law_doc_here"] n (NQ n)):Av P w K mg base CP (n+1) f fd ["_law_doc_here"] (NQ (n+1)):=by
 refine F.oq Xv fun Ic A outer s H vs Q E hr h=>?_
 ·obtain⟨d,rfl,c,pI,hsz,q⟩:=h;have nd:=Xv.nd;have hu:=An hr;refine⟨_,(AD (AX (Ag (Aa Ao rfl T.isinstance AS (AA (pv 0) (AO (BG (v:=.ty "list") rfl T.list Dn rfl))))) (AE (AH (cmp [] [] (DB (pv 0)) fun _ _ _ _=>(Al B hr.mm (AO (pv 0)))))) AK) (AD (AX (Ag (Aa Ao rfl T.isinstance AS (AA (pv 0) (AO (BG (v:=.ty "dict") rfl T.dict En rfl))))) (AE (AH (Cq (Jk rfl) rfl T.dict En (AO (ZS (cmp ["_law_doc_here"] [0] (ZL (pv 0)) fun _ _ _ _=>(AW (AA (pv 0) (AO (Al B hr.mm (AO (fK hu (pv 1) (pv 0))))))))))))) AK) (AE (AH (pv 0))))),?_⟩;cases d with
  |leaf v=>
   refine⟨_,rfl,_,"list",Dc.MH (.leaf v),rfl,rfl,Dc.Fm c,_,rfl,Af (by cases v<;>rfl) ?_⟩;refine⟨_,rfl,_,"dict",Dc.MH (.leaf v),rfl,rfl,Dc.Fm c,_,rfl,Af (by cases v<;>rfl) ?_⟩;exact⟨_,rfl,q (.leaf v) H ⟨AF.refl H,c,.nil,fun a h=>(nomatch h),fun a h=>(nomatch h)⟩ (Dc.MM _)⟩
  |row a C=>
   refine⟨_,rfl,_,"list",_,rfl,rfl,Dc.Fm c,_,rfl,BL rfl ?_⟩;simp only[Dc.At]at c;simp only[Dc.size]at hsz;simp only[Dc.deep]at pI;have lx:=Dc.Gv C;refine⟨_,rfl,a,rfl,⟨_,.inl c.1⟩,?_⟩;refine Js C.length (fun i=>(C.map Dc.val).getD i .As) (fun D i l=>∃g,CS H l g/\D∉Dc.AJ g/\l D=some (.lst (g.map Dc.val))/\g.length=i/\Dc.BK (C.take i) g) (fun D G=>⟨[],.nil (AF.new G),(fun h=>nomatch h),AB,rfl,by simp[Dc.BK]⟩) (fun D i l N ⟨g,F,_⟩=>⟨_,_,.inl (c.1.up (F.same _)),ux (by rw[List.length_map];exact N)⟩) (fun D i l v H' N ⟨g,F,_⟩ y=>?_) (fun D l ⟨g,F,_⟩=>⟨_,.inl (c.1.up (F.same _)),by rw[List.length_map];exact Nat.le_refl _⟩) (fun D i l G N ⟨g,F,Z,O,R,lk⟩=>?_) (fun D l G ⟨g,F,Z,O,R,lk⟩=>?_)
   ·obtain⟨e,y⟩:=y;refine⟨?_,e⟩;have:=y _ (.inl (c.1.up (F.same _)));rw[List.getD_eq_getElem?_getD,this];rfl
   ·obtain⟨x,hx⟩:∃x,C[i]?=some x:=⟨_,ux N⟩;have U:=u_ hx;have dx:=Dc.Dr U;have sx:=Dc.CQ U;have ev:(C.map Dc.val).getD i .As=x.val:=by rw[List.getD_eq_getElem?_getD,List.getElem?_map,hx];rfl
    rw[ev];refine⟨_,rfl,x,rfl,Dc.Ab F.same (Dc.Ca c.2 x U),by omega,by omega,fun I H3 f X=>?_⟩;have F3:=F.snoc f;have sZ:=f.same _ _ O;have J:D∉Dc.AJ (g++[I]):=by
     rw[Dc.AY];simp only[Dc.AJ,List.append_nil,List.mem_append,not_or];exact⟨Z,fun z=>by have:=f.new D z;rw[O]at this;cases this⟩
    refine⟨_,sZ,Aw (by rw[List.length_map];omega),g++[I],F3.frame (F3.same.put G) (fun b u o e=>?_),J,?_,by simp[R],?_⟩
    ·rw[AN (fun z=>J (by rw[<-z];exact u))];exact e
    ·rw[AB,List.map_append];rfl
    ·rw[List.take_add_one,hx];exact Dc.Hs lk (by simp[Dc.BK,X])
   ·rw[List.take_length]at lk;exact q (.row D g) l (F.row G Z O) (by simp only[Dc.Cb];exact lk)
  |tab a L C=>
   refine⟨_,rfl,_,"list",_,rfl,rfl,Dc.Fm c,_,rfl,Af rfl ?_⟩;refine⟨_,rfl,_,"dict",_,rfl,rfl,Dc.Fm c,_,rfl,BL rfl ?_⟩;simp only[Dc.At]at c;simp only[Dc.size]at hsz;simp only[Dc.deep]at pI;have lx:=Dc.Gv C;have kl:=Dc.Jt c.2.1;refine⟨a,_,c.1,fun o Hf F=>⟨_,rfl,a,o,_,rfl,F.at_,?_⟩⟩;refine Js C.length (fun i=>.str (L.getD i "")) (fun D i l=>∃(g:List Dc)(M:List Addr),CS Hf l g/\D∉Dc.AJ g/\l D=some (.lst (M.map V.ref))/\M.length=i/\g.length=i/\Dc.BK (C.take i) g/\
     ∀(j:Nat) e,g[j]?=some e->∃t,M[j]?=some t/\l t=some (.tup [.str (L.getD j ""),e.val])/\Hf t=none)
    (fun D G=>⟨[],[],.nil (AF.new G),(fun h=>nomatch h),AB,rfl,rfl,by simp[Dc.BK],fun j e h=>by simp at h⟩) (fun D i l N ⟨g,M,m,_⟩=>⟨m.same _ _ F.at_,by rw[kl];exact N⟩)
    (fun D i l v H' N ⟨g,M,m,_⟩ y=>?_) (fun D l ⟨g,M,m,_⟩=>⟨m.same _ _ F.at_,kl.symm⟩) (fun D i l G N ⟨g,M,m,Z,O,lt,R,lk,tp⟩=>?_) (fun D l G ⟨g,M,m,Z,O,lt,R,lk,tp⟩=>?_)
   ·obtain⟨e,k,v',e1,e2⟩:=y;obtain⟨S,x,Y,h2,h3,h4,_⟩:=Dc.Qy c.2.1 c.2.2.1 e1;refine⟨?_,e⟩;rw[e2,h3,List.getD_eq_getElem?_getD,Y];rfl
   ·obtain⟨kv,lM⟩:∃kv,(Dc.kvs L C)[i]?=some kv:=⟨_,ux (by rw[kl];exact N)⟩;obtain⟨S,x,Y,h2,h3,h4,h5,h6⟩:=Dc.Qy c.2.1 c.2.2.1 (k:=kv.1) (v:=kv.2) lM;have U:=u_ h2;have dx:=Dc.Dr U;have sx:=Dc.CQ U;have en:L.getD i ""=S:=by rw[List.getD_eq_getElem?_getD,Y];rfl
    rw[en];have pJ:F' H l:=F.rd.trans m.same.r;refine⟨_,rfl,_,rfl,_,rfl,a,x.val,rfl,(by rw[<-h6];exact .inl ⟨_,Sum.inr S,pJ a _ c.1,rfl,rfl⟩),x,rfl,Dc.WU pJ (Dc.Ca c.2.2.2 x U),by omega,by omega,fun I H3 f X=>⟨AR,fun t ht=>?_⟩⟩;have F3:=m.snoc f;have F4:=F3.up (AF.new (o:=.tup [.str S,I.val]) ht);have pK:=(AF.new (o:=.tup [.str S,I.val]) ht) _ _ (f.same _ _ O);have J:D∉Dc.AJ (g++[I]):=by
     rw[Dc.AY];simp only[Dc.AJ,List.append_nil,List.mem_append,not_or];exact⟨Z,fun z=>by have:=f.new D z;rw[O]at this;cases this⟩
    have fA:∀{t':Addr}{ys:List V},upd H3 t (.tup [.str S,I.val]) t'=some (.tup ys)->t'≠D:=fun h=>Es h pK (by intro z;cases z);refine⟨_,pK,Aw (by rw[List.length_map];omega),g++[I],M++[t],F4.frame (F4.same.put G) (fun b u o e=>?_),J,by rw[AB,List.map_append];rfl,by simp[lt],by simp[R],?_,fun j e hj=>?_⟩
    ·rw[AN (fun z=>J (by rw[<-z];exact u))];exact e
    ·rw[List.take_add_one,h2];exact Dc.Hs lk (by simp[Dc.BK,X])
    ·by_cases dj:j<g.length
     ·rw[List.getElem?_append_left dj]at hj;obtain⟨t',g1,g2,g3⟩:=tp j e hj;have pM:=(AF.new (o:=.tup [.str S,I.val]) ht) _ _ (f.same _ _ g2);exact⟨t',by rw[List.getElem?_append_left (by omega)];exact g1,by rw[AN (fA pM)];exact pM,g3⟩
     ·have hl:=(uy hj).1;rw[List.length_append,List.length_singleton]at hl;have ej:j=i:=by omega
      subst ej;rw[List.getElem?_append_right (by omega),R,Nat.sub_self]at hj;have e1:I=e:=by simpa using hj
      subst e1;refine⟨t,by rw[List.getElem?_append_right (by omega),lt,Nat.sub_self];rfl,?_,F3.same.free ht⟩;rw[AN (fA (ys:=[.str S,I.val]) AB),AB,en]
   ·refine⟨m.same _ _ F.at_,?_⟩;rw[List.take_length]at lk;have sb:=F.back m.same;have ba:∀b,b≠a->back a H l b=l b:=fun b u=>Sr u;have Da:D≠a:=(F.free G).2;have el:L.length=g.length:=by rw[R,c.2.1]
    refine⟨D,M,Dc.kvs L g,rfl,Ay.of (by rw[ba D Da];exact O),by rw[lt,Dc.Jt el,R],fun j k v e=>?_,by rw[Dc.Jt el,R];omega,fun p hp=>?_⟩
    ·obtain⟨S,x,Y,h2,h3,h4,_⟩:=Dc.Qy el c.2.2.1 e;obtain⟨t,g1,g2,g3⟩:=tp j x h2;refine⟨t,g1,?_⟩;rw[ba t (F.free g3).2,g2,h3,h4,List.getD_eq_getElem?_getD,Y];rfl
    ·have nk:((Dc.kvs L g).map (·.1)).Nodup:=by
      rw[Dc.EA el];exact List.Pairwise.map _ (fun a b h z=>h (Sum.inr.inj z)) c.2.2.1
     have mk:EG [] (Dc.kvs L g)=Dc.kvs L g:=Ht _ _ (by simpa using nk);rw[mk];have pN:H p=none:=sb.free hp;have np:p∉Dc.AJ g:=fun z=>by
      have Y:=Dc.NR m.at_ z;have pa:p≠a:=(F.free (m.new p z)).2;rw[ba p pa]at hp;exact Y hp
     have FL:CS H (upd (back a H l) p (.dK (Dc.kvs L g))) g:=by
      refine⟨sb.put pN,Dc.Bg g (fun b u o e=>?_) m.at_,m.nd,fun b u=>?_,fun b u=>(F.free (m.new b u)).1⟩
      ·rw[AN (fun z=>np (by rw[<-z];exact u)),ba b (F.free (m.new b u)).2];exact e
      ·refine Dp (Dc.NR m.at_ u) (m.own b u) (fun o e=>?_);rw[AN (fun z=>np (by rw[<-z];exact u)),ba b (F.free (m.new b u)).2];exact e
     exact q (.tab p L g) _ (FL.tab pN np el c.2.2.1 AB) (by simp only[Dc.Cb];exact⟨trivial,lk⟩)
theorem QD{f:Addr}{a:FuncData}(F:CL K "_law_copy" "_law_copy" TM f a)(T:Txt mg)(b:Binds K a ["_law_doc_here"] [])(m:mg "_law_copy"=some (.ref f)):∀n:Nat,Av P w K mg base CP n f a ["_law_doc_here"] (NQ n)
 |0=>bA (fun c H Q E h=>by obtain⟨d,_,_,e,_⟩:=h;have:=Dc.PL d;omega)
 |n+1=>aI F T (Df.mk' F b m (QD F T b m n))
end
end BF
namespace BF
open PySem L2
section
variable{P:Program} {w:World} {K:vA} [A_ K] {mg:Str->Option Value} {base:Heap}
theorem TX:AU ["_law_doc_here","_law_path","_law_step"] ["_law_doc_here","_law_path"] (AL Rc):={}
theorem Xw{f:Addr}{D:FuncData}(F:CL K "_law_found" "_law_found" Rc f D)(T:Txt mg):Av P w K mg base CP 1 f D ["_law_doc_here","_law_path"] GI:=by
 refine F.oq TX fun J A outer s H S Q E L h=>?_
 ·obtain⟨d,t,xs,rfl,x,G,M,q⟩:=h;have nd:=TX.nd;have I:=An L;refine⟨_,(AD (VS (bp (pv 1)) (EZ 2 nd) (AD (AX (PW.pt (pw_and (Ag (Aa Ao rfl T.isinstance AS (AA (pv 2) (AO (BG (v:=.ty "str") rfl T.str Hl rfl))))) (pw_and1 (PW.pt (pw_or (EE (Ag (Aa Ao rfl T.isinstance AS (AA (pv 0) (AO (BG (v:=.ty "dict") rfl T.dict En rfl)))))) (pw_or1 (QZ (Ib I (pv 2) (pv 0))))))))) (AE (AH BA)) AK) (AD (AX (PW.pt (pw_and (EE (Ag (Aa Ao rfl T.isinstance AS (AA (pv 2) (AO (BG (v:=.ty "str") rfl T.str Hl rfl)))))) (pw_and1 (PW.pt (pw_or (EE (Ag (Aa Ao rfl T.isinstance AS (AA (pv 0) (AO (BG (v:=.ty "list") rfl T.list Dn rfl)))))) (pw_or1 (AI ar (pv 2) (DS T.len (pv 0)) (AM _)))))))) (AE (AH BA)) AK) (AE (Ac 0 nd (Ko (LI K (pv 0) (pv 2)) (fK I (pv 0) (pv 2)))))))) (AE (AH (pv 0)))),?_⟩;refine⟨_,rfl,t,rfl,⟨_,Ah.of G⟩,Yi (xs:=xs) (fun i o n=>∃(p:Dc)(B:Option V),o=[some p.val,some (.ref t),B]/\n=H/\p.At H/\d.sub xs=p.sub (xs.drop i)) ⟨d,none,rfl,rfl,x,rfl⟩ (fun i o n _ ⟨_,_,_,e,_⟩=>by rw[e];exact Ah.of G) ?_ ?_⟩
  ·rintro i z o n C ⟨p,B,rfl,rfl,c,m⟩;have N:=(uy C).1;have O:xs.drop i=z::xs.drop (i+1):=by rw[List.drop_eq_getElem_cons N,(uy C).2]
   rw[O]at m;have no:p.sub [z]=none->Q .As n:=fun h=>by
    rw[m,Dc.Le h]at q;exact q
   rcases M z (u_ C)with⟨j,rfl⟩|⟨k,rfl,_⟩
   ·refine⟨_,rfl,_,"str","int",rfl,rfl,.int _,_,rfl,Ae (Ae ?_)⟩;refine⟨_,rfl,_,"str","int",rfl,rfl,.int _,_,rfl,Aj ?_⟩;cases p with
    |leaf v=>exact⟨_,rfl,_,"list",_,rfl,rfl,Dc.Fm c,_,rfl,BL (by cases v<;>rfl) (Aj (no rfl))⟩
    |tab a r g=>exact⟨_,rfl,_,"list",_,rfl,rfl,Dc.Fm c,_,rfl,Aj (Aj (no rfl))⟩
    |row a g=>
     have b:=c;simp only[Dc.At]at b;refine⟨_,rfl,_,"list",_,rfl,rfl,Dc.Fm c,_,rfl,Ae ⟨_,rfl,_,rfl,a,_,rfl,.inl (.inl b.1),_,_,rfl,rfl,_,rfl,?_⟩⟩;by_cases R:j<g.length
     ·have l:g[j]?=some g[j]:=ux R;refine Af (decide_eq_false (by rw[List.length_map];omega)) (.inl ⟨_,rfl,_,rfl,a,_,_,_,rfl,rfl,.inl b.1,BV (by rw[List.getElem?_map,l];rfl),_,_,rfl,rfl,Dc.Ca b.2 _ (u_ l),?_⟩);rw[m,Dc.FW l]
     ·refine BL (decide_eq_true (by rw[List.length_map];omega)) (no ?_);simp only[Dc.sub];rw[if_pos (by omega),Int.toNat_natCast,List.getElem?_eq_none_iff.mpr (by omega)];rfl
   ·refine⟨_,rfl,_,"str","str",rfl,rfl,.str _,_,rfl,Aj ?_⟩;cases p with
    |leaf v=>exact⟨_,rfl,_,"dict",_,rfl,rfl,Dc.Fm c,_,rfl,BL (by cases v<;>rfl) (Aj (no rfl))⟩
    |row a g=>exact⟨_,rfl,_,"dict",_,rfl,rfl,Dc.Fm c,_,rfl,Aj (Aj (no rfl))⟩
    |tab a r g=>
     have b:=c;simp only[Dc.At]at b;refine⟨_,rfl,_,"dict",_,rfl,rfl,Dc.Fm c,_,rfl,Ae ⟨_,rfl,_,rfl,a,_,rfl,.inl ⟨_,Sum.inr k,b.1,rfl,rfl⟩,_,rfl,?_⟩⟩;cases l:(r.zip g).lookup k with
     |none=>
      have u:Cw (Dc.kvs r g) (Sum.inr k)=none:=by rw[Dc.FE b.2.1,l];rfl
      refine BL (by rw[u];rfl) (no ?_);simp only[Dc.sub,l];rfl
     |some y=>
      have u:Cw (Dc.kvs r g) (Sum.inr k)=some y.val:=by rw[Dc.FE b.2.1,l];rfl
      refine Af (by rw[u];rfl) ?_;refine⟨_,rfl,_,"str","str",rfl,rfl,.str _,_,rfl,Ae (Ae ?_)⟩;refine .inr ⟨_,rfl,_,rfl,a,y.val,rfl,(by rw[<-u];exact .inl ⟨_,Sum.inr k,b.1,rfl,rfl⟩),y,_,rfl,rfl,Dc.Ca b.2.2.2 y (Dc.Ad l).2,?_⟩;rw[m,Dc.FX l]
  ·rintro o n ⟨p,B,rfl,rfl,c,m⟩;rw[List.drop_length,Dc.BS]at m;rw[m]at q;exact⟨_,rfl,q⟩
end
end BF
namespace BF
open PySem L2
section
variable{P:Program} {w:World} {K:vA} [A_ K] {mg:Str->Option Value} {base:Heap}
theorem Xx:AU ["_law_doc_here","_law_row_here","_law_rest"] ["_law_doc_here","_law_row_here"] (AL Xf):={}
theorem aJ{f:Addr}{fd:FuncData}(F:CL K "_law_done" "_law_done" Xf f fd)(T:Txt mg)(S:Df P w K mg base "_law_copy" ["_law_doc_here"] 17 (NQ 17))(v:Df P w K mg base "_law_found" ["_law_doc_here","_law_path"] 1 GI):Av P w K mg base CP 18 f fd ["_law_doc_here","_law_row_here"] Jz:=by
 refine F.oq Xx fun Ic A outer s H vs Q E hr h=>?_
 ·obtain⟨d,a,t,L,N,e,x,rfl,U,Bb,hsz,ha,ht,hx,hs,pO,q⟩:=h;have nd:=Xx.nd;have hu:=An hr;refine⟨_,(AD (Ac 2 nd (Al S hr.mm (AO (pv 0)))) (AD (CK (Ko (D' PySem.F.plainAttrs_list PySem.F.slot_list_pop PySem.F.type_list_pop Vp (Al v hr.mm (AA (pv 2) (AO (Ai BH (Bx K 1) Ax (Au (Bw BM AG)))))) (AO (CN (r:=EF K) By (Bx K 1) (Bw BM AG) (fun _ _=>rfl)))) (Vv (Al v hr.mm (AA (pv 2) (AO (Ai BH (Bx K 1) Ax (Au (Bw BM AG)))))) (CN (r:=EF K) By (Bx K 1) (Bw BM AG) (fun _ _=>rfl)) ⟨rfl,rfl,rfl,rfl⟩))) (AE (AH (pv 2))))),?_⟩;have uc:=hx;refine⟨_,rfl,d,rfl,U,Nat.le_trans (Dc.Gb d) (by omega),by omega,fun B H1 O lk=>?_⟩;have wd:=Dc.Fg d U;have wt:=Dc.Fg B O.at_;have qd:=Dc.Ku d B lk;obtain⟨C,g,qe⟩:=Dc.Eqv.sub wd wt qd hs;have we:=Dc.Fg e ((Dc.CB.sub hs).at_ U);have D:=Dc.Fg C ((Dc.CB.sub g).at_ O.at_);obtain⟨x',m,qx⟩:=Dc.Eqv.sub we D qe pO;have pP:=Dc.Jr d B lk Bb;have ud:=Dc.Gd d B lk;have R:=Dc.CB.sub g;have Px:=Dc.CB.sub m;have ue:B.sub (L++[N])=some x':=by rw[Dc.sub_snoc g];exact m
  have pm:=Dc.Q_ D m;have G:C.addrs.Nodup:=by
   obtain⟨l,r,e1,_⟩:=Dc.Kw (n:=C) wt O.nd g;have:=O.nd;rw[e1]at this;exact(List.nodup_append.mp (List.nodup_append.mp this).1).2.1
  have se:=pm.nodup_iff.mpr G;obtain⟨uf,m_,ug⟩:=List.nodup_append.mp se;have pQ:∀z∈L,Dc.Bi z:=fun z hz=>hx z (List.mem_append_left _ hz);have fO:=O.same _ _ ha;have fN:=O.same _ _ ht;have qv:Dc.Eqv (d.Cc L (e.Ck N)) (B.Cc L (C.Ck N)):=Dc.Eqv.Cc wd wt qd hs (Dc.Eqv.Ck we D pO qe);have fin:∀(M Z:Hp)(p:Ef H M B)(b:Addr),C.val=.ref b->b∈C.addrs->(C.Ck N).At Z->(∀c o,c≠b->M c=some o->Z c=some o)->(∀o u,Z b≠some (.DT o u))->Q B.val Z:=fun M Z p b ev bm nat kp ob=>by
   have V:∀c,c∈(C.Ck N).addrs->c∈C.addrs:=fun c y=>pm.mem_iff.mp (List.mem_append_right _ y);have FF:=p.edit (n:=C.Ck N) g ev bm ((Dc.PR ..).trans ev) nat kp m_ (fun c y=>by
     by_cases pR:c=b
     ·rw[pR];exact ob
     ·exact Dp (Dc.there p.at_ (R.addrs c (V c y))) (p.own c (R.addrs c (V c y))) fun o=>kp c o pR)
    (fun c y=>.inl (V c y))
   have vv:(B.Cc L (C.Ck N)).val=B.val:=Dc.Kv g (Dc.PR ..);rw[<-vv];refine q _ Z FF.same FF.at_ (Dc.ZV wt g pP (Dc.ZW (R.ok pP))) ?_ qv;have z1:=Dc.UR (n:=C.Ck N) wt g;have z2:=Dc.US D m;omega
  dsimp only[Bm];rcases Dc.sub_one m with⟨b,J,i,rfl,rfl,pS⟩|⟨b,ks,J,k,rfl,rfl,fP⟩
  ·refine .inl ⟨_,rfl,_,rfl,a,_,1,_,rfl,rfl,Ah.of fO,Cy,_,rfl,_,rfl,t,_,rfl,fN,fun p2 M s3 I=>?_⟩;rw[BR]at I;have p:=O.up s3;have X:=p.same _ _ ha;have Y:=p.same _ _ ht;refine⟨B,p2,L,rfl,p.at_,I,pQ,?_⟩;rw[g];dsimp only[RF];have j:=R.at_ p.at_;simp only[Dc.At]at j;have eb:=j.1.exact (p.own b (R.addrs b (by simp[Dc.addrs])));have hi:=(uy pS).1;have lx:=Dc.Gv J;have sf:=R.size;simp only[Dc.size]at sf;have sq:PySem.seqIndex? (i:Int) (J.map Dc.val).length=some i:=(Jp (by unfold Qk;rw[if_pos (by omega),if_pos (by rw[List.length_map];omega),Int.toNat_natCast])).1;have nb:b∉Dc.AJ J:=by
    simp only[Dc.addrs]at G;exact(List.nodup_cons.mp G).1
   refine⟨.inl ⟨rfl,_,Ay.of eb⟩,_,rfl,a,_,1,_,rfl,rfl,Ah.of X,Cy,_,rfl,t,_,_,_,rfl,rfl,Ah.of Y,BW L _,b,_,_,i,_,rfl,rfl,eb,by omega,by omega,sq,by rw[List.getElem?_map,pS];rfl,?_⟩;refine⟨_,rfl,fin M (upd M b (.lst ((J.map Dc.val).eraseIdx i))) p b rfl (by simp[Dc.addrs]) (by
    simp only[Dc.Ck,Dc.At,Int.toNat_natCast];refine⟨.inl (AB.trans ?_),Dc.MP (Dc.Bg J (fun c y o h=>by rw[AN (fun z=>nb (by rw[<-z];exact y))];exact h) j.2)⟩;rw[List.eraseIdx_eq_take_drop_succ,List.eraseIdx_eq_take_drop_succ,List.map_append,List.map_take,List.map_drop]) (fun c o y h=>by rw[AN y];exact h) (fun o u z=>by rw[AB]at z;cases z)⟩
  ·refine .inr ⟨_,rfl,_,rfl,a,_,1,_,rfl,rfl,Ah.of fO,Cy,_,rfl,_,rfl,t,_,rfl,fN,fun p2 M s3 I=>?_⟩;rw[BR]at I;have p:=O.up s3;have X:=p.same _ _ ha;have Y:=p.same _ _ ht;refine⟨B,p2,L,rfl,p.at_,I,pQ,?_⟩;rw[g];dsimp only[RF];have j:=R.at_ p.at_;simp only[Dc.At]at j;have eb:=j.1.exact (p.own b (R.addrs b (by simp[Dc.addrs])));have hk:=(Dc.Ad fP).1;have hv:Cw (Dc.kvs ks J) (Sum.inr k)=some x'.val:=by rw[Dc.FE j.2.1,fP];rfl
   have nb:b∉Dc.AJ J:=by
    simp only[Dc.addrs]at G;exact(List.nodup_cons.mp G).1
   refine⟨b,rfl,.inl ⟨_,.inl eb⟩,_,rfl,a,_,1,_,rfl,rfl,Ah.of X,Cy,_,rfl,t,_,_,_,rfl,rfl,Ah.of Y,BW L _,_,Sum.inr k,_,eb,rfl,hv,?_⟩;have pT:=Dc.NS D m;refine⟨_,rfl,fin M (upd M b (.dK (Ee (Dc.kvs ks J) (Sum.inr k)))) p b rfl (by simp[Dc.addrs]) (by
    simp only[Dc.Ck,Dc.At]at pT⊢;cases pT with
    |tab wl wn wx=>exact⟨.inl (AB.trans (by rw[Dc.UT j.2.1 j.2.2.1 hk])),wl,wn,Dc.MP (Dc.Bg J (fun c y o h=>by rw[AN (fun z=>nb (by rw[<-z];exact y))];exact h) j.2.2.2)⟩) (fun c o y h=>by rw[AN y];exact h) (fun o u z=>by rw[AB]at z;cases z)⟩
end
end BF
namespace BF
open PySem L2
section
variable{P:Program} {w:World} {K:vA} [A_ K] {mg:Str->Option Value} {base:Heap}
theorem TY:AU ["_law_doc_here","_law_ahead","_law_found_here","_law_k","_law_name"] ["_law_doc_here","_law_ahead"] (AL Nu):={}
theorem Xy{n:Nat}{f:Addr}{fd:FuncData}(F:CL K "_law_paths" "_law_paths" Nu f fd)(T:Txt mg)(J:Df P w K mg base "_law_paths" ["_law_doc_here","_law_ahead"] n (GJ n)):Av P w K mg base CP (n+1) f fd ["_law_doc_here","_law_ahead"] (GJ (n+1)):=by
 refine F.oq TY fun Ic A outer s H vs Q E hr h=>?_
 ·obtain⟨d,t,xs,rfl,c,Y,Z,hsz,ht,hx,q⟩:=h;have nd:=TY.nd;have hu:=An hr;refine⟨_,(AD (Ac 2 nd (BB (AO (pv 1)))) (AD (AX (Ag (Aa Ao rfl T.isinstance AS (AA (pv 0) (AO (BG (v:=.ty "list") rfl T.list Dn rfl))))) (AE (VS (DZ rfl T.range (AO (DS T.len (pv 0)))) (EZ 3 nd) (AE (CK (D' PySem.F.plainAttrs_list PySem.F.slot_list_extend PySem.F.type_list_extend GZ (pv 2) (AO (Al J hr.mm (AA (LI K (pv 0) (pv 3)) (AO (AV Bf (pv 1) (AW (AO (pv 3))))))))))))) AK) (AD (AX (Ag (Aa Ao rfl T.isinstance AS (AA (pv 0) (AO (BG (v:=.ty "dict") rfl T.dict En rfl))))) (AE (VS (DB (Aa (Hk rfl) rfl T.sorted PB (AO (pv 0)))) (EZ 4 nd) (AE (CK (D' PySem.F.plainAttrs_list PySem.F.slot_list_extend PySem.F.type_list_extend GZ (pv 2) (AO (Al J hr.mm (AA (fK hu (pv 0) (pv 4)) (AO (AV Bf (pv 1) (AW (AO (pv 4))))))))))))) AK) (AE (AH (pv 2)))))),?_⟩;refine⟨_,rfl,BI,fun p hp=>?_⟩;have N:AF H (upd H p (.lst [.ref t])):=AF.new hp;have TU:upd H p (.lst [.ref t]) p=some (.lst ([t].map V.ref)):=AB;have g:=Dc.Ab N c;have fN:=N _ _ ht;have pU:∀{Hx:Hp}{M zs:List V}{z:Addr},Hx p=some (.lst M)->Hx z=some (.tup zs)->z≠p:=fun h1 h2=>Es h2 h1 (by intro z;cases z);have v0:∀z:Addr,z=t->Bu (upd H p (.lst [.ref t])) [z] (([[]]:List (List V)).map (xs++·)):=fun z hz=>by rw[hz];exact .cons (show _=some (HO.tup (xs++[]))by rw[List.append_nil];exact fN) .nil
  cases d with
  |leaf v=>
   refine⟨_,rfl,_,"list",Dc.MH (.leaf v),rfl,rfl,Dc.Fm g,_,rfl,Af (by cases v<;>rfl) ?_⟩;refine⟨_,rfl,_,"dict",Dc.MH (.leaf v),rfl,rfl,Dc.Fm g,_,rfl,Af (by cases v<;>rfl) ?_⟩;exact⟨_,rfl,q p [t] [[]] _ N hp TU rfl (v0 t rfl) (VQ.one.all fun z x h=>absurd rfl (Dc.Pd h))⟩
  |row a l=>
   refine⟨_,rfl,_,"list",Dc.MH (.row a l),rfl,rfl,Dc.Fm g,_,rfl,BL rfl ?_⟩;have c:=c;simp only[Dc.At]at c g;simp only[Dc.ok]at Y;simp only[Dc.slim]at Z;simp only[Dc.deep]at hsz;simp only[Dc.size]at hx;have so:=Dc.Gv l;have ll:(l.map Dc.val).length=l.length:=List.length_map ..;refine⟨_,rfl,a,_,rfl,.inl (.inl g.1),_,rfl,by omega,by omega,Ew (lo:=0) (fun i σ C=>∃(y:List Addr)(o3 o4:Option V),σ=[some (.ref a),some (.ref t),some (.ref p),o3,o4]/\AF H C/\C p=some (.lst (y.map V.ref))/\y.length=1+Dc.AZ (l.take i)/\∃L:List (List V),Bu C y (L.map (xs++·))/\VQ ((List.range i).map fun(j:Nat)=>V.int (j:Int)) (fun z=>(Dc.row a l).sub [z]) L)
    ⟨[t],none,none,rfl,N,TU,rfl,[[]],v0 t rfl,VQ.one⟩ ?_ ?_⟩
   ·rintro i σ C hi ⟨y,o3,o4,rfl,O,u,D,L,G,pq⟩;have sr:i<l.length:=by rw[<-ll];omega
    obtain⟨x,R⟩:∃x,l[i]?=some x:=⟨_,ux sr⟩;have S:=u_ R;have s_:=Dc.CQ S;have e0:(0:Int)+(i:Int)=(i:Int):=Int.zero_add _;have hv:Of (l.map Dc.val) (0+(i:Int))=some x.val:=by
     rw[e0];exact BV (by rw[List.getElem?_map,R];rfl)
    have lz:y.length+x.size<=1000:=by
     have:=Dc.Fe R;have:=Dc.Fy l (i+1);omega
    refine⟨_,rfl,.inl ⟨rfl,_,Ay.of u⟩,_,rfl,_,rfl,a,_,_,_,rfl,rfl,(.inl (c.1.up (O _))),hv,_,rfl,_,rfl,BI,fun t1 B=>?_⟩;have s1:=O.trans (AF.new (o:=.tup [.int (0+(i:Int))]) B);refine⟨t,t1,xs,[.int (0+(i:Int))],rfl,rfl,s1 _ _ ht,AB,Ap (by simp;omega),fun t2 H3 s3 du=>?_⟩;have I:=s1.trans s3;refine⟨x,t2,_,rfl,Dc.Ab I (Dc.Ca c.2 x S),Dc.Bo.mp Y x S,Dc.Dq Z x S,(by have:=Dc.Dr S;omega),du,by simp;omega,fun p2 U nE H4 s4 tD Zx l2 v2 nF=>?_⟩;have nG:=I.trans s4;have s5:=((AF.new (o:=.tup [.int (0+(i:Int))]) B).trans s3).trans s4;refine⟨p,p2,_,_,rfl,rfl,s5 _ _ u,Zx,Ap (by simp;omega),y++U,_,_,rfl,nG.put hp,by rw[AB,List.map_append],?_,L++nE.map (.int (i:Int)::·),?_,?_⟩
    ·rw[List.length_append,D,l2,Dc.Fe R];omega
    ·have up:∀b M,H4 b=some (.tup M)->upd H4 p (.lst (y.map V.ref++U.map V.ref)) b=some (.tup M):=fun b M h=>by rw[AN (pU (s5 _ _ u) h)];exact h
     rw[List.map_append];refine((G.up fun b M h=>s5 _ _ h).append ?_).up up;rw[List.map_map];have e:((xs++·)∘(V.int (i:Int)::·))=((xs++[.int (0+(i:Int))])++·):=by funext r;simp
     rw[e];exact v2
    ·rw[List.range_succ,List.map_append];refine pq.push (fun h=>?_) (by rw[Dc.FW R,Dc.BS]) nF;obtain⟨j,hj,e⟩:=List.mem_map.mp h;have:=List.mem_range.mp hj;cases e;omega
   ·rintro σ C ⟨y,o3,o4,rfl,O,u,D,L,G,pq⟩;refine⟨_,rfl,_,"dict",Dc.MH (.row a l),rfl,rfl,Dc.Fm (H:=C) (d:=.row a l) (Dc.Ab O (by simp only[Dc.At];exact c)),_,rfl,Af rfl ?_⟩;refine⟨_,rfl,q p y L C O hp u ?_ G (pq.all fun z x h=>?_)⟩
    ·rw[D,List.take_of_length_le (by rw[<-ll];omega)];simp only[Dc.size]
    ·obtain⟨j,rfl,hj⟩:=Dc.Ge.mp h;have lj:=(uy hj).1;exact List.mem_map.mpr ⟨j,List.mem_range.mpr (by omega),rfl⟩
  |tab a ks l=>
   refine⟨_,rfl,_,"list",Dc.MH (.tab a ks l),rfl,rfl,Dc.Fm g,_,rfl,Af rfl ?_⟩;refine⟨_,rfl,_,"dict",Dc.MH (.tab a ks l),rfl,rfl,Dc.Fm g,_,rfl,BL rfl ?_⟩;have c:=c;simp only[Dc.At]at c g;simp only[Dc.ok]at Y;simp only[Dc.slim]at Z;simp only[Dc.deep]at hsz;simp only[Dc.size]at hx;have so:=Dc.Gv l;have kk:=Dc.EA (ks:=ks) (xs:=l) c.2.1;have kl:(Dc.kvs ks l).length=ks.length:=by
    have:=congrArg List.length kk;simpa using this
   refine⟨_,rfl,a,_,ks,rfl,g.1,kk,by rw[kl];omega,fun p3 m H3 tE s3 Ru perm uh=>?_⟩;have I:=N.trans s3;have jn:p≠p3:=Am TU tE;refine⟨p3,rfl,⟨_,Ay.of Ru⟩,D_ (xs:=m.map V.str) (fun i σ C=>∃(y:List Addr)(o3 o4:Option V),σ=[some (.ref a),some (.ref t),some (.ref p),o3,o4]/\AF H C/\C p3=some (.lst (m.map V.str))/\C p=some (.lst (y.map V.ref))/\y.length=1+((m.take i).map (Dc.Gz ks l)).sum/\∃L:List (List V),Bu C y (L.map (xs++·))/\VQ ((m.take i).map V.str) (fun z=>(Dc.tab a ks l).sub [z]) L)
    ⟨[t],none,none,rfl,I,Ru,s3 _ _ TU,rfl,[[]],(v0 t rfl).up fun b M h=>s3 _ _ h,VQ.one⟩ (fun i σ C hi ⟨y,o3,o4,e,O,h3,r⟩=>Ay.of h3) ?_ ?_⟩
   ·rintro i nm σ C X ⟨y,o3,o4,rfl,O,h3,u,D,L,G,pq⟩;obtain⟨k,hk,rfl⟩:∃k,m[i]?=some k/\V.str k=nm:=by
     rw[List.getElem?_map]at X;cases e:m[i]? with
     |none=>rw[e]at X;cases X
     |some k=>rw[e]at X;exact⟨k,rfl,uz X⟩
    have mk:k∈ks:=perm.mem_iff.mp (u_ hk);obtain⟨x,fP,S⟩:=Dc.C_ c.2.1 mk;have s_:=Dc.CQ S;have tF:Dc.Gz ks l k=x.size:=by simp[Dc.Gz,fP]
    have tk:((m.take (i+1)).map (Dc.Gz ks l)).sum=((m.take i).map (Dc.Gz ks l)).sum+x.size:=by
     rw[List.take_add_one,hk,List.map_append,List.sum_append];simp[tF]
    have ui:=Dc.MJ c.2.1 c.2.2.1 perm;have lz:y.length+x.size<=1000:=by
     have:((m.take (i+1)).map (Dc.Gz ks l)).sum+((m.drop (i+1)).map (Dc.Gz ks l)).sum=(m.map (Dc.Gz ks l)).sum:=by
      rw[<-List.sum_append,<-List.map_append,List.take_append_drop]
     omega
    have hv:Cw (Dc.kvs ks l) (Sum.inr k)=some x.val:=by rw[Dc.FE c.2.1,fP];rfl
    refine⟨_,rfl,.inl ⟨rfl,_,Ay.of u⟩,_,rfl,_,rfl,a,x.val,rfl,(by rw[<-hv];exact .inl ⟨_,Sum.inr k,c.1.up (O _),rfl,rfl⟩),_,rfl,_,rfl,BI,fun t1 B=>?_⟩;have s1:=O.trans (AF.new (o:=.tup [.str k]) B);refine⟨t,t1,xs,[.str k],rfl,rfl,s1 _ _ ht,AB,Ap (by simp;omega),fun t2 H3 s3 du=>?_⟩;have I:=s1.trans s3;refine⟨x,t2,_,rfl,Dc.Ab I (Dc.Ca c.2.2.2 x S),Dc.Bo.mp Y.2 x S,Dc.Dq Z.2 x S,(by have:=Dc.Dr S;omega),du,by simp;omega,fun p2 U nE H4 s4 tD Zx l2 v2 nF=>?_⟩;have nG:=I.trans s4;have s5:=((AF.new (o:=.tup [.str k]) B).trans s3).trans s4;refine⟨p,p2,_,_,rfl,rfl,s5 _ _ u,Zx,Ap (by simp;omega),y++U,_,_,rfl,nG.put hp,by rw[AN (Ne.symm jn)];exact s5 _ _ h3,by rw[AB,List.map_append],?_,L++nE.map (.str k::·),?_,?_⟩
    ·rw[List.length_append,D,l2,tk];omega
    ·have up:∀b M,H4 b=some (.tup M)->upd H4 p (.lst (y.map V.ref++U.map V.ref)) b=some (.tup M):=fun b M h=>by rw[AN (pU (s5 _ _ u) h)];exact h
     rw[List.map_append];refine((G.up fun b M h=>s5 _ _ h).append ?_).up up;rw[List.map_map];have e:((xs++·)∘(V.str k::·))=((xs++[.str k])++·):=by funext r;simp
     rw[e];exact v2
    ·have et:m.take (i+1)=m.take i++[k]:=by rw[List.take_add_one,hk];rfl
     rw[et,List.map_append];refine pq.push (fun h=>?_) (by rw[Dc.FX fP,Dc.BS]) nF;obtain⟨k',tG,e⟩:=List.mem_map.mp h;cases e;have nd:=perm.nodup_iff.mpr c.2.2.1;obtain⟨l1,l2⟩:=uy hk;obtain⟨j,hj⟩:=List.getElem?_of_mem tG;have ji:=(uy hj).1;rw[List.length_take]at ji;rw[List.getElem?_take_of_lt (by omega)]at hj;have:=Dc.Eu nd hj hk;omega
   ·rintro σ C ⟨y,o3,o4,rfl,O,h3,u,D,L,G,pq⟩;refine⟨_,rfl,q p y L C O hp u ?_ G (pq.all fun z x h=>?_)⟩
    ·rw[D,List.length_map,List.take_length,Dc.MJ c.2.1 c.2.2.1 perm];simp only[Dc.size]
    ·obtain⟨j,k,rfl,hj,_⟩:=(Dc.Ej c.2.1 c.2.2.1).mp h;rw[List.length_map,List.take_length];exact List.mem_map.mpr ⟨k,perm.mem_iff.mpr (u_ hj),rfl⟩
theorem Mt{f:Addr}{a:FuncData}(F:CL K "_law_paths" "_law_paths" Nu f a)(T:Txt mg)(b:Binds K a ["_law_doc_here","_law_ahead"] [])(m:mg "_law_paths"=some (.ref f)):∀n:Nat,Av P w K mg base CP n f a ["_law_doc_here","_law_ahead"] (GJ n)
 |0=>bA (fun c H Q E h=>by obtain⟨d,_,_,_,_,_,_,e,_⟩:=h;have:=Dc.PL d;omega)
 |n+1=>Xy F T (Df.mk' F b m (Mt F T b m n))
end
end BF
namespace BF
open PySem L2
section
variable{P:Program} {w:World} {K:vA} [A_ K] {mg:Str->Option Value} {base:Heap}
theorem TZ:AU ["_law_doc_here","_law_names_here","_law_found_here","_law_path","_law_holder"] ["_law_doc_here","_law_names_here"] (AL Rf):={}
theorem Xz{f:Addr}{fd:FuncData}(F:CL K "_law_slots" "_law_slots" Rf f fd)(T:Txt mg)(eD:Df P w K mg base "_law_found" ["_law_doc_here","_law_path"] 1 GI)(Rv:Df P w K mg base "_law_paths" ["_law_doc_here","_law_ahead"] 17 (GJ 17)):Av P w K mg base CP 19 f fd ["_law_doc_here","_law_names_here"] GP:=by
 refine F.oq TZ fun Ic A outer s H vs Q E hr h=>?_
 ·obtain⟨d,n,I,rfl,QW,Bb,hsz,hn,ln,ny,q⟩:=h;have nd:=TZ.nd;have hu:=An hr;refine⟨_,(AD (Ac 2 nd (BB CH)) (AD (VS (DB (Al Rv hr.mm (AA (pv 0) (AO (AW CH))))) (FP (i:=3) nd rfl (Or.inr rfl)) (AD (IX (i:=4) nd rfl (Or.inr rfl) (Al eD hr.mm (AA (pv 0) (AO (pv 3))))) (AD (AX (Ag (Aa Ao rfl T.isinstance AS (AA (pv 4) (AO (BG (v:=.ty "list") rfl T.list Dn rfl))))) (AE (CK (D' PySem.F.plainAttrs_list PySem.F.slot_list_extend PySem.F.type_list_extend GZ (pv 2) (AO (cmp ["_law_path"] [3] (DZ rfl T.range (AO (AV Bc (DS T.len (pv 4)) AG))) fun _ _ _ _=>(AV Bf (pv 1) (AW (AO (pv 0))))))))) AK) (AE (AX (Ag (Aa Ao rfl T.isinstance AS (AA (pv 4) (AO (BG (v:=.ty "dict") rfl T.dict En rfl))))) (AE (CK (D' PySem.F.plainAttrs_list PySem.F.slot_list_extend PySem.F.type_list_extend GZ (pv 2) (AO (Se (fv:=["_law_path","_law_holder"]) (fs:=[3,4]) rfl (.of (by rfl)) (DB (pv 1)) (fun C s0 H0 fp=>Hb (QZ (Ib hu (pv 0) (pv 2)))) (fun C s0 H0 fp=>(AV Bf (pv 1) (AW (AO (pv 0)))))))))) AK))))) (AE (AH (pv 2))))),?_⟩;refine⟨Nat.zero_le _,fun l hl=>?_⟩;obtain⟨H1,eH,t1,fl⟩:=Py (o:=.lst []) hl;rw[eH];clear eH;refine⟨_,rfl,Nat.zero_le _,fun e0 nH=>?_⟩;have t2:=AF.new (o:=.tup []) nH;refine⟨d,e0,[],rfl,Dc.Ab (t1.trans t2) QW,Bb,Dc.Ho d (by omega),Nat.le_trans (Dc.Gb d) (by omega),AB,by simp;omega,fun p ps qs H2 s2 np hp lp tu PQ=>?_⟩;have S2:AF H H2:=(t1.trans t2).trans s2;have pV:H2 l=some (.lst []):=s2 _ _ (t2 _ _ fl);have pl:p≠l:=fun z=>by
   have:=t2 _ _ fl;rw[<-z,np]at this;cases this
  have nl:∀{x:Addr}{o:HO},H x=some o->x≠l:=fun h=>Am h hl;have il:d.At H2:=Dc.Ab S2 QW;have dl:∀a∈d.addrs,a≠l:=fun a ha z=>Dc.there QW ha (by rw[z];exact hl);refine⟨p,rfl,⟨_,Ay.of hp⟩,D_ (xs:=ps.map V.ref) (fun i σ M=>∃(o3 o4:Option V)(J:List V),σ=[some d.val,some (.ref n),some (.ref l),o3,o4]/\(∀x o,x≠l->H2 x=some o->M x=some o)/\M l=some (.lst J)/\J.length<=20*i/\DR d I M J/\∀j,j<i->∀t e,qs[j]?=some t->d.sub t=some e->VR e I->J≠[])
   ⟨none,none,[],rfl,fun _ _ _ h=>h,pV,by simp,(fun v hv=>nomatch hv),fun j O=>absurd O (Nat.not_lt_zero _)⟩ (fun i σ M _ ⟨_,_,_,_,k,_⟩=>Ay.of (k _ _ pl hp)) ?_ ?_⟩
  ·rintro i x σ M hx ⟨o3,o4,J,rfl,k,G,lu,S,NE⟩;have li:=(uy hx).1;rw[List.length_map]at li;rw[List.getElem?_map]at hx;obtain⟨q0,nI,rfl⟩:=Option.map_eq_some_iff.mp hx;obtain⟨Y,ip,jo⟩:=tu.get nI;rw[List.getElem?_map]at ip;obtain⟨t,nJ,nK⟩:=Option.map_eq_some_iff.mp ip;have nK:t=Y:=by rw[<-nK];rfl
   subst nK;have sm:=(PQ.mem t).mp (u_ nJ);obtain⟨e,hs⟩:=Option.isSome_iff_exists.mp sm;obtain⟨st,lz,ok⟩:=Dc.Fz Bb hs;have nM:M q0=some (.tup t):=k _ _ (Es jo pV (by intro z;cases z)) jo;have iq:d.At M:=Dc.FC d (fun a ha o h=>k a o (dl a ha) h) il;have fI:M n=some (.lst (I.map V.str)):=k _ _ (nl hn) (S2 _ _ hn);have P:=Dc.CB.sub hs;have g:=P.at_ iq;refine⟨_,rfl,_,rfl,d,q0,t,rfl,iq,nM,st,?_⟩;rw[hs];dsimp only[RF];have lw:=Dc.NX hs (by omega);have nx:∀(z:V),Dc.Bi z/\(∀i:Int,z=.int i->i.natAbs<1000)/\VR e I->steps (t++[z])/\t++[z]≠[]/\(t++[z]).length<=20/\low (t++[z])/\∃e,d.sub (t++[z]).dropLast=some e/\VR e I:=fun z u=>⟨fun y Z=>by
    rcases List.mem_append.mp Z with Z|Z
    ·exact st y Z
    ·rw[List.mem_singleton.mp Z];exact u.1,by simp,by simp;omega,fun y Z=>by
    rcases List.mem_append.mp Z with Z|Z
    ·exact lw y Z
    ·rw[List.mem_singleton.mp Z];exact u.2.1,e,by rw[List.dropLast_concat];exact hs,u.2.2⟩
   have ext:∀(Hc:Hp)(D:Addr)(b:List Addr),AF M Hc->Hc D=some (.lst (b.map V.ref))->b.length<=20->(VR e I->b≠[])->(∀q∈b,∃z,Hc q=some (.tup (t++[z]))/\Dc.Bi z/\(∀i:Int,z=.int i->i.natAbs<1000)/\VR e I)->(∀x o,x≠l->H2 x=some o->upd Hc l (.lst (J++b.map V.ref)) x=some o)/\upd Hc l (.lst (J++b.map V.ref)) l=some (.lst (J++b.map V.ref))/\(J++b.map V.ref).length<=20*(i+1)/\DR d I (upd Hc l (.lst (J++b.map V.ref))) (J++b.map V.ref)/\∀j,j<i+1->∀t e,qs[j]?=some t->d.sub t=some e->VR e I->J++b.map V.ref≠[]:=fun Hc D b s hD N ne' r=>by
    refine⟨fun x o hx h=>by rw[AN hx];exact s _ _ (k x o hx h),AB,by rw[List.length_append,List.length_map];omega,Pr s G S fun q hq=>?_,fun j O Y e' R L h3 z=>?_⟩
    ·obtain⟨z,R,L⟩:=r q hq;exact⟨q,_,rfl,R,nx z L⟩
    ·obtain⟨z1,z2⟩:=List.append_eq_nil_iff.mp z;by_cases c:j<i
     ·exact NE j c Y e' R L h3 z1
     ·have:j=i:=by omega
      subst this;rw[nJ]at R;cases R;rw[hs]at L;cases L;exact ne' h3 (List.map_eq_nil_iff.mp z2)
   cases e with
   |leaf v=>
    refine⟨_,rfl,_,"list",Dc.MH (.leaf v),rfl,rfl,Dc.Fm g,_,rfl,Af (by cases v<;>rfl) ?_⟩;refine⟨_,rfl,_,"dict",Dc.MH (.leaf v),rfl,rfl,Dc.Fm g,_,rfl,Af (by cases v<;>rfl) ?_⟩;refine⟨_,_,J,rfl,k,G,by omega,S,fun j O Y e' R L h3=>?_⟩;by_cases c:j<i
    ·exact NE j c Y e' R L h3
    ·have:j=i:=by omega
     subst this;rw[nJ]at R;cases R;rw[hs]at L;cases L;exact False.elim h3
   |row a xs=>
    refine⟨_,rfl,_,"list",_,rfl,rfl,Dc.Fm g,_,rfl,BL rfl ?_⟩;have sz:=P.size;have lx:=Dc.Gv xs;simp only[Dc.size]at sz;simp only[Dc.At]at g;refine⟨_,rfl,.inl ⟨rfl,_,Ay.of G⟩,_,rfl,a,_,rfl,.inl (.inl g.1),_,_,rfl,rfl,_,rfl,by rw[List.length_map];omega,by rw[List.length_map];omega,?_⟩;have en:(((xs.map Dc.val).length:Int)+1).toNat=xs.length+1:=by rw[List.length_map];omega
    rw[en];refine Js (xs.length+1) (fun i=>.int (0+(i:Int))) (fun D i Hj=>AF M Hj/\∃ps:List Addr,Hj D=some (.lst (ps.map V.ref))/\ps.length=i/\∀q∈ps,∃z,Hj q=some (.tup (t++[z]))/\Dc.Bi z/\(∀i:Int,z=.int i->i.natAbs<1000)/\VR (.row a xs) I) (fun D hD=>⟨AF.new hD,[],AB,rfl,fun z u=>nomatch u⟩) (fun D i U hi _=>hi) (fun D i U v H' hi _ y=>⟨y.2,y.1⟩) (fun D U _=>Nat.le_refl _) (fun D i U hD hi ⟨B,b,X,N,r⟩=>?_) (fun D U hD ⟨B,b,X,N,r⟩=>?_)
    ·refine⟨_,rfl,_,rfl,BI,fun g1 X_=>?_⟩;have s4:=AF.new (o:=.tup [.int (0+(i:Int))]) X_;refine⟨q0,g1,t,_,rfl,rfl,(B.trans s4) _ _ nM,AB,Ap (by simp;omega),fun g2 H5 s5 JG=>?_⟩;have m:=s4.trans s5;have nD:∀{z:Addr}{nN:List V},H5 z=some (.tup nN)->z≠D:=fun h=>Es h (m _ _ X) (by intro z;cases z);refine⟨_,m _ _ X,Aw (by simp;omega),(B.trans m).put hD,b++[g2],by rw[AB,List.map_append];rfl,by simp;omega,fun z u=>?_⟩;rcases List.mem_append.mp u with u|u
     ·obtain⟨w,f1,f2⟩:=r z u;exact⟨w,by rw[AN (nD (m _ _ f1))];exact m _ _ f1,f2⟩
     ·rw[List.mem_singleton.mp u];exact⟨_,by rw[AN (nD JG)];exact JG,.inl ⟨i,by simp⟩,(fun j e=>by cases e;omega),trivial⟩
    ·obtain⟨x1,x2,x3,x4⟩:=ext U D b B X (by omega) (fun _ z=>by rw[z]at N;simp at N) r;have nO:Dc.At (upd U l (.lst (J++b.map V.ref))) (.row a xs):=P.at_ (Dc.FC d (fun a ha o h=>x1 a o (dl a ha) h) il);refine⟨l,D,_,_,rfl,rfl,B _ _ G,X,Ap (by rw[List.length_map];omega),?_⟩;exact⟨_,rfl,_,"dict",_,rfl,rfl,Dc.Fm nO,_,rfl,Af rfl ⟨_,_,_,rfl,x1,x2,x3,x4⟩⟩
   |tab a ks xs=>
    refine⟨_,rfl,_,"list",_,rfl,rfl,Dc.Fm g,_,rfl,Af rfl ?_⟩;refine⟨_,rfl,_,"dict",_,rfl,rfl,Dc.Fm g,_,rfl,BL rfl ?_⟩;simp only[Dc.At]at g;refine⟨_,rfl,.inl ⟨rfl,_,Ay.of G⟩,_,rfl,n,rfl,⟨_,Ay.of fI⟩,?_⟩;refine Ju I.length (fun i=>(I.map V.str).getD i .As) (fun D i Hj=>AF M Hj/\∃ps:List Addr,Hj D=some (.lst (ps.map V.ref))/\ps.length<=i/\(∀j,j<i->∀kk,I[j]?=some kk->kk∉ks->ps≠[])/\∀q∈ps,∃z,Hj q=some (.tup (t++[z]))/\Dc.Bi z/\(∀i:Int,z=.int i->i.natAbs<1000)/\VR (.tab a ks xs) I) (fun D hD=>⟨AF.new hD,[],AB,Nat.le_refl _,(fun j O=>absurd O (Nat.not_lt_zero _)),fun z u=>nomatch u⟩) (fun D i U hi ⟨B,_⟩=>⟨_,_,Ay.of (B _ _ fI),ux (by simp;omega)⟩) (fun D i U v H' hi ⟨B,_⟩ y=>?_) (fun D U ⟨B,_⟩=>⟨_,Ay.of (B _ _ fI),by simp⟩) (fun D i U hD hi ⟨B,b,X,N,ne',r⟩=>?_) (fun D U hD ⟨B,b,X,N,ne',r⟩=>?_)
    ·obtain⟨e,y⟩:=y;refine⟨?_,e⟩;rw[List.getD_eq_getElem?_getD,y _ (Ay.of (B _ _ fI))];rfl
    ·obtain⟨kk,jq⟩:∃kk,I[i]?=some kk:=⟨_,ux (by omega)⟩;have ek:(I.map V.str).getD i .As=.str kk:=by rw[List.getD_eq_getElem?_getD,List.getElem?_map,jq];rfl
     rw[ek];refine⟨_,rfl,_,rfl,a,_,rfl,.inl ⟨_,Sum.inr kk,g.1.up (B _),rfl,rfl⟩,_,rfl,?_⟩;refine MS (fun er=>?_) (fun er=>⟨B,b,X,by omega,(fun j O k2 L n2=>by
      by_cases c:j<i
      ·exact ne' j c k2 L n2
      ·have:j=i:=by omega
       subst this;rw[jq]at L;cases L;rw[TK g.2.1,decide_eq_false n2]at er;cases er),r⟩)
     refine⟨_,rfl,_,rfl,BI,fun g1 X_=>?_⟩;have s4:=AF.new (o:=.tup [.str kk]) X_;refine⟨q0,g1,t,_,rfl,rfl,(B.trans s4) _ _ nM,AB,Ap (by simp;omega),fun g2 H5 s5 JG=>?_⟩;have m:=s4.trans s5;have nD:∀{z:Addr}{nN:List V},H5 z=some (.tup nN)->z≠D:=fun h=>Es h (m _ _ X) (by intro z;cases z);refine⟨_,m _ _ X,Aw (by simp;omega),(B.trans m).put hD,b++[g2],by rw[AB,List.map_append];rfl,by simp;omega,(fun _ _ _ _ _ z=>by simp at z),fun z u=>?_⟩;rcases List.mem_append.mp u with u|u
     ·obtain⟨w,f1,f2⟩:=r z u;exact⟨w,by rw[AN (nD (m _ _ f1))];exact m _ _ f1,f2⟩
     ·rw[List.mem_singleton.mp u];exact⟨_,by rw[AN (nD JG)];exact JG,.inr ⟨kk,rfl,ny kk (u_ jq)⟩,(fun j e=>nomatch e),kk,u_ jq,fun c=>by rw[TK g.2.1,decide_eq_true c]at er;cases er⟩
    ·obtain⟨x1,x2,x3,x4⟩:=ext U D b B X (by omega) (fun⟨kk,hm,nk⟩=>by
      obtain⟨j,O⟩:=List.getElem?_of_mem hm;exact ne' j (uy O).1 kk O nk) r
     refine⟨l,D,_,_,rfl,rfl,B _ _ G,X,Ap (by rw[List.length_map];omega),?_⟩;exact⟨_,_,_,rfl,x1,x2,x3,x4⟩
  ·rintro σ M ⟨o3,o4,J,rfl,k,G,lu,S,NE⟩;refine⟨_,rfl,q l J M (fun x o h=>k x o (nl h) (S2 _ _ h)) G ?_ S fun⟨q0,e,R,L⟩=>?_⟩
   ·rw[List.length_map,lp]at lu;omega
   ·obtain⟨j,O⟩:=List.getElem?_of_mem ((PQ.mem q0).mpr (by rw[R];rfl));have lq:=tu.length;rw[List.length_map]at lq;have:=(uy O).1;exact NE j (by rw[List.length_map];omega) q0 e O R L
end
end BF
namespace BF
open PySem L2
section
variable{P:Program} {w:World} {K:vA} [A_ K] {mg:Str->Option Value} {base:Heap}
theorem Ta:AU ["_law_cell_here","_law_names_here","_law_leaf_here"] ["_law_cell_here","_law_names_here"] (AL Rg):={}
theorem X'{f:Addr}{X:FuncData}(F:CL K "_law_value" "_law_value" Rg f X)(T:Txt mg)(e:Df P w K mg base "_law_mix" ["_law_cell_here","_law_k"] 1 F_)(g:Df P w K mg base "_law_leaf" ["_law_cell_here"] 2 Nc):Av P w K mg base CP 3 f X ["_law_cell_here","_law_names_here"] IE:=by
 refine F.oq Ta fun Ic A outer s H vs Q E x h=>?_
 ·obtain⟨c,n,y,rfl,hn,ln,l0,ny,q⟩:=h;have nd:=Ta.nd;have hu:=An x;refine⟨_,(AD (Ac 2 nd (Al g x.mm (AO (pv 0)))) (AE (AH (LI K (BB (AA (pv 2) (AA (BB CH) (AA KU (AA (BB (AO (pv 2))) (AO (Yz (Vu (LI K (pv 1) (AV BD (Al e x.mm (AA (pv 0) (AO AG))) (DS T.len (pv 1)))) (pv 2) Yy) rfl rfl (by simp) (by simp)))))))) (AV BD (Al e x.mm (AA (pv 0) (AO AG))) AG))))),?_⟩;refine⟨_,rfl,c,rfl,fun o H1 lo i s1=>?_⟩;have lf:Dc.Lf o:=lo.lf;refine⟨_,rfl,Nat.zero_le _,fun B C=>?_⟩;obtain⟨H2,a,t1,f1⟩:=Py (o:=.lst []) C;rw[a];clear a;refine fun D G=>?_;obtain⟨H3,a,Y,f2⟩:=Py (o:=.dK []) G;rw[a];clear a;refine⟨_,rfl,BI,fun I J=>?_⟩;obtain⟨l,a,Z,f3⟩:=Py (o:=.lst [o]) J;rw[a];clear a;refine fun b m=>?_;have t4:=AF.new (o:=.dK []) m;have s4:AF H l:=((s1.trans t1).trans Y).trans Z;have p:=(s4.trans t4) _ _ hn;refine⟨_,rfl,_,rfl,c,8,rfl,by decide,fun r8 _ _=>⟨_,rfl,n,_,rfl,.inl (Ay.of p),_,_,rfl,rfl,(by show(0:Int)<((y.map V.str).length:Int);rw[List.length_map];omega),?_⟩⟩;have m8:=Hm r8 (n:=((y.map V.str).length:Int)) (by rw[List.length_map];omega);obtain⟨v8,M,N⟩:=FD (xs:=y.map V.str) m8.1 m8.2;obtain⟨d,O,rfl⟩:=List.mem_map.mp N;refine⟨n,_,_,_,rfl,rfl,Ay.of p,M,_,rfl,AB,[(Sum.inr d,o)],rfl,by simp,?_⟩;have m5:EG [] [((Sum.inr d:Key),o)]=[(Sum.inr d,o)]:=rfl;rw[m5];have t:AF l (upd (upd l b (.dK [])) b (.dK [(Sum.inr d,o)])):=t4.put m;have f4:upd (upd l b (.dK [])) b (.dK [(Sum.inr d,o)]) b=some (.dK [(Sum.inr d,o)]):=AB;generalize upd (upd l b (.dK [])) b (.dK [(Sum.inr d,o)])=H5 at t f4⊢;refine⟨Ap (show 5<=1000 by decide),fun L hL=>?_⟩;obtain⟨R,a,tL,fL⟩:=Py (o:=.lst [o,.ref B,.ref D,.ref I,.ref b]) hL;rw[a];clear a;refine⟨_,rfl,c,7,rfl,by decide,fun r _ _=>⟨_,_,rfl,rfl,(by show(0:Int)<_;decide),?_⟩⟩;have mb:=Hm r (n:=5) (by decide);obtain⟨v,hv,mv⟩:=FD (xs:=[o,V.ref B,.ref D,.ref I,.ref b]) mb.1 mb.2;refine⟨L,_,_,_,rfl,rfl,Ay.of fL,hv,?_⟩;have j:=t.trans tL;have u:=Z.trans j;have S:=Y.trans u;have U:=s4.trans j;simp only[List.mem_cons,List.not_mem_nil,or_false]at mv;have k:∀(v:Dc),v.At R->v.ok->v.size<=2->DK v->Q v.val R:=fun v h1 h2 h3 h4=>q v R U h1 h2 h3 h4;rcases mv with rfl|rfl|rfl|rfl|rfl
  ·exact k (.leaf v) lf lo (by simp[Dc.size]) (HH i)
  ·exact k (.row B []) (by simp only[Dc.At,Dc.DP];exact⟨.inl (S _ _ f1),trivial⟩) (by simp[Dc.ok,Dc.Jj]) (by simp[Dc.size,Dc.AZ]) RG
  ·exact k (.tab D [] []) (by simp only[Dc.At,Dc.DP];exact⟨.inl (u _ _ f2),rfl,.nil,trivial⟩) (by simp[Dc.ok,Dc.Jj]) (by simp[Dc.size,Dc.AZ]) RH
  ·exact k (.row I [.leaf o]) (by simp only[Dc.At,Dc.DP];exact⟨.inl (j _ _ f3),lf,trivial⟩) (by simp only[Dc.ok,Dc.Jj];exact⟨lo,trivial⟩) (by simp[Dc.size,Dc.AZ]) (RI i)
  ·exact k (.tab b [d] [.leaf o]) (by simp only[Dc.At,Dc.DP];exact⟨.inl (tL _ _ f4),rfl,by simp,lf,trivial⟩) (by simp only[Dc.ok,Dc.Jj];exact⟨fun z hz=>by rw[List.mem_singleton.mp hz];exact ny d O,lo,trivial⟩) (by simp[Dc.size,Dc.AZ]) (RJ i)
end
end BF
namespace BF
open PySem L2
section
variable{P:Program} {w:World} {K:vA} [A_ K] {mg:Str->Option Value} {base:Heap}
theorem QE:AU ["_law_some","_law_cell_here","_law_k"] ["_law_some","_law_cell_here","_law_k"] (AL Nv):={}
theorem U'{f:Addr}{d:FuncData}(F:CL K "_law_picked" "_law_picked" Nv f d)(T:Txt mg)(b:Df P w K mg base "_law_mix" ["_law_cell_here","_law_k"] 1 F_):Av P w K mg base CP 2 f d ["_law_some","_law_cell_here","_law_k"] (GG K):=by
 refine F.oq QE fun i A outer s H t Q E e h=>?_
 ·obtain⟨l,a,c,j,rfl,g,u,k,q⟩:=h;have nd:=QE.nd;have x:=An e;refine⟨_,(AE (AH (LI K (pv 0) (AV BD (Al b e.mm (AA (pv 1) (AO (pv 2)))) (DS T.len (pv 0)))))),?_⟩;refine⟨_,rfl,_,rfl,_,rfl,c,j,rfl,k,fun r y z=>⟨_,rfl,l,_,rfl,.inl g,_,_,rfl,rfl,(by show(0:Int)<(a.length:Int);omega),?_⟩⟩;have m:=Hm r (n:=(a.length:Int)) (by omega);obtain⟨v,o,p⟩:=FD (xs:=a) m.1 m.2;exact⟨l,_,_,_,rfl,rfl,g,o,q v p⟩
end
end BF
namespace BF
open PySem L2
section
variable{P:Program} {w:World} {K:vA} [A_ K] {mg:Str->Option Value} {base:Heap}
theorem QF:AU ["_law_word","_law_path","_law_cell_here","_law_doc_here","_law_names_here"] ["_law_word","_law_path","_law_cell_here","_law_doc_here","_law_names_here"] (AL Nw):={}
theorem VA{f:Addr}{Z:FuncData}(F:CL K "_law_asking" "_law_asking" Nw f Z)(T:Txt mg)(p:Df P w K mg base "_law_mix" ["_law_cell_here","_law_k"] 1 F_)(b:Df P w K mg base "_law_found" ["_law_doc_here","_law_path"] 1 GI)(j:Df P w K mg base "_law_value" ["_law_cell_here","_law_names_here"] 3 IE):Av P w K mg base CP 4 f Z ["_law_word","_law_path","_law_cell_here","_law_doc_here","_law_names_here"] Ml:=by
 refine F.oq QF fun Ic A outer s H vs Q E y h=>?_
 ·obtain⟨N,t,c,d,n,R,e,ys,rfl,hw,ht,hx,g,B,hsz,S,hn,ln,l0,ny,q⟩:=h;have nd:=QF.nd;have hu:=An y;refine⟨_,(AD (AX (AI BO (pv 0) AQ (AM _)) (AE (AH (AW (AA (pv 0) (AA (pv 1) (AO (LI K (BB (AA (Al b y.mm (AA (pv 3) (AO (pv 1)))) (AO (Al j y.mm (AA (pv 2) (AO (pv 4))))))) (Cq Lv rfl T.int a_ (AO (Be BO (AV BD (Al p y.mm (AA (pv 2) (AO AG))) AG) AG (AM _))))))))))) AK) (AD (AX (AI BO (pv 0) AQ (AM _)) (AE (AH (AW (AA (pv 0) (AA (pv 1) (AO (LI K (BB (AA AQ (AO AQ))) (Cq Lv rfl T.int a_ (AO (Aa Ao rfl T.isinstance AS (AA (Al b y.mm (AA (pv 3) (AO (pv 1)))) (AO (BG (v:=.ty "dict") rfl T.dict En rfl))))))))))))) AK) (AE (AH (AW (AA (pv 0) (AO (pv 1)))))))),?_⟩;have C:∀z∈R,Dc.Bi z:=hx;have pk:∀(u v:V)(k:Bool),∃x,Of [u,v] (if k=true then 1 else 0)=some x/\(x=u∨x=v):=fun u v k=>by
   cases k with
   |true=>exact⟨v,rfl,.inr rfl⟩
   |false=>exact⟨u,rfl,.inl rfl⟩
  have P:=Dc.CB.sub S;refine⟨_,rfl,rfl,_,rfl,?_⟩;refine Bs (fun h=>?_) (fun h=>?_)
  ·refine⟨_,rfl,_,rfl,_,rfl,_,rfl,d,t,R,rfl,g,ht,C,?_⟩;rw[S];dsimp only[RF];refine⟨_,rfl,_,rfl,c,n,ys,rfl,hn,by omega,l0,ny,fun d2 H1 U D G Zy _=>⟨AR,fun L X=>?_⟩⟩;obtain⟨H2,I,i,Y⟩:=Py (o:=.lst [e.val,d2.val]) X;rw[I];clear I;refine⟨_,rfl,c,9,rfl,by decide,fun r _ _=>⟨_,_,rfl,rfl,(by show(0:Int)<_;decide),rfl,.inr ⟨_,rfl,?_⟩⟩⟩;obtain⟨x,l,J⟩:=pk e.val d2.val (decide (V.int (r % 6)=V.int 0));refine⟨L,_,_,_,rfl,rfl,Ay.of Y,l,Cj,fun a m=>q a [x] _ ((U.trans i).trans (AF.new m)) AB ?_ ?_ (fun c=>by subst c;exact absurd h (by decide))⟩;have M:=AF.new (o:=.tup [.str N,.ref t,x]) m
   ·have hw:N="ask":=V.str.inj (of_decide_eq_true h);subst hw;rcases J with rfl|rfl
    ·exact Fo.ask (Dc.Ab ((U.trans i).trans M) (P.at_ g)) (P.ok B) (by have:=P.size;omega)
    ·exact Fo.ask (Dc.Ab (i.trans M) D) G (by omega)
   ·have M:=AF.new (o:=.tup [.str N,.ref t,x]) m;rcases J with rfl|rfl
    ·exact GQ (Dc.Ab ((U.trans i).trans M) (P.at_ g)) (P.ok B) (by have:=P.size;omega)
    ·exact GQ (Dc.Ab (i.trans M) D) G (by omega)
  refine⟨_,rfl,rfl,_,rfl,?_⟩;refine Bs (fun O=>?_) (fun O=>?_)
  ·refine⟨_,rfl,_,rfl,AR,fun L X=>?_⟩;obtain⟨H2,I,i,Y⟩:=Py (o:=.lst [.str "row",.str "table"]) X;rw[I];clear I;refine⟨_,rfl,_,rfl,d,t,R,rfl,Dc.Ab i g,i _ _ ht,C,?_⟩;rw[S];dsimp only[RF];refine⟨_,"dict",_,rfl,rfl,Dc.Fm (Dc.Ab i (P.at_ g)),.inr ⟨_,rfl,?_⟩⟩;obtain⟨x,l,J⟩:=pk (.str "row") (.str "table") (cX e.MH "dict");refine⟨L,_,_,_,rfl,rfl,Ay.of Y,l,Cj,fun a m=>q a [x] _ (i.trans (AF.new m)) AB ?_ ?_ (fun c=>by subst c;exact absurd O (by decide))⟩
   ·have hw:N="is":=V.str.inj (of_decide_eq_true O);subst hw;rcases J with rfl|rfl<;>exact Fo.oK
   ·rcases J with rfl|rfl
    ·exact .inr ⟨_,rfl,DA.str (by decide+kernel) (by decide)⟩
    ·exact .inr ⟨_,rfl,DA.str (by decide+kernel) (by decide)⟩
  ·refine⟨_,rfl,_,rfl,AR,fun a m=>q a [] _ (AF.new m) AB (Fo.no ?_) (.inl rfl) (fun _=>rfl)⟩;rcases hw with rfl|rfl|rfl
   ·exact absurd rfl h
   ·exact absurd rfl O
   ·decide
end
end BF
namespace BF
open PySem L2
section
variable{P:Program} {w:World} {K:vA} [A_ K] {mg:Str->Option Value} {base:Heap}
theorem bS:AU ["_law_cell_here","_law_doc_here","_law_names_here","_law_words","_law_word","_law_paths_here","_law_slots_here","_law_path"] ["_law_cell_here","_law_doc_here","_law_names_here"] (AL da):={}
theorem eE{f:Addr}{fd:FuncData}(F:CL K "_law_row" "_law_row" da f fd)(T:Txt mg)(QG:Df P w K mg base "_law_done" ["_law_doc_here","_law_row_here"] 18 Jz)(Rv:Df P w K mg base "_law_paths" ["_law_doc_here","_law_ahead"] 17 (GJ 17))(JH:Df P w K mg base "_law_slots" ["_law_doc_here","_law_names_here"] 19 GP)(OK:Df P w K mg base "_law_value" ["_law_cell_here","_law_names_here"] 3 IE)(m:Df P w K mg base "_law_picked" ["_law_some","_law_cell_here","_law_k"] 2 (GG K))(aK:Df P w K mg base "_law_asking" ["_law_word","_law_path","_law_cell_here","_law_doc_here","_law_names_here"] 4 Ml):Av P w K mg base CP 20 f fd ["_law_cell_here","_law_doc_here","_law_names_here"] JA:=by
 refine F.oq bS fun Ic A outer s H vs Q E Y h=>?_
 ·obtain⟨c,d,n,ys,rfl,QW,Z,hsz,hn,ln,l0,ny,q⟩:=h;have nd:=bS.nd;have hu:=An Y;refine⟨_,(@UX _ _ _ _ _ _ rfl (@IX _ _ 3 _ _ _ _ nd rfl (Or.inl rfl) (@BB _ _ _ _ (@AA _ _ _ _ _ (@AQ _ _ _ _) (@AA _ _ _ _ _ (@AQ _ _ _ _) (@AA _ _ _ _ _ (@AQ _ _ _ _) (@AA _ _ _ _ _ (@AQ _ _ _ _) (@AA _ _ _ _ _ (@AQ _ _ _ _) (@AA _ _ _ _ _ (@AQ _ _ _ _) (@AA _ _ _ _ _ (@AQ _ _ _ _) (@AA _ _ _ _ _ (@AQ _ _ _ _) (@AA _ _ _ _ _ (@AQ _ _ _ _) (@AA _ _ _ _ _ (@AQ _ _ _ _) (@AA _ _ _ _ _ (@AQ _ _ _ _) (@AA _ _ _ _ _ (@AQ _ _ _ _) CH rfl) rfl) rfl) rfl) rfl) rfl) rfl) rfl) rfl) rfl) rfl) rfl)) rfl (Or.inr rfl)) (AD (Ac 4 nd (Al m Y.mm (AA (pv 3) (AA (pv 0) (AO AG))))) (AD (Ac 5 nd (Al Rv Y.mm (AA (pv 1) (AO (AW CH))))) (AD (Ac 6 nd (Al JH Y.mm (AA (pv 1) (AO (pv 2))))) (AD (Ac 7 nd (Al m Y.mm (AA (pv 5) (AA (pv 0) (AO AG))))) (AD (AX (AI BO (pv 4) AQ (AM _)) (AE (FU (i:=6) (fv:=[]) (fs:=[]) rfl (.of (by rfl)) nd rfl (Or.inl rfl) (DB (pv 6)) (fun C s0 H0 fp=>Hb (Ag (Aa Ao rfl T.isinstance AS (AA (CN (r:=EF K) By (pv 0) (Bw BM AG) (fun _ _=>rfl)) (AO (BG (v:=.ty "str") rfl T.str Hl rfl)))))) (fun C s0 H0 fp=>(pv 0)))) AK) (AD (AX (PW.pt (pw_or (PW.pt (pw_and (AI (Kh (BZ.CJ Y)) (pv 6) (BB CH) (AM _)) (pw_and1 (AI (B':Dg _ _ (OU K false)) (pv 4) (BB (AA AQ (AA AQ (AO AQ)))) rfl)))) (pw_or1 (PW.pt (pw_and (AI BO (DS T.len (pv 5)) AG (AM _)) (pw_and1 (AI (B':Dg _ _ (OU K false)) (pv 4) (BB (AA AQ (AO AQ))) rfl))))))) (AE (Ac 4 nd AQ)) AK) (AD (AX (AI (B':Dg _ _ (OU K false)) (pv 4) (BB (AA AQ (AO AQ))) rfl) (AE (Ac 7 nd (Al m Y.mm (AA (Ai (r:=cI K) SX (pv 5) (Au AG) Ax) (AA (pv 0) (AO AG)))))) AK) (AD (AX (AI BO (pv 4) AQ (AM _)) (AE (AH (AW (AA (pv 4) (AA (Al m Y.mm (AA (pv 6) (AA (pv 0) (AO AG)))) (AO (Al OK Y.mm (AA (pv 0) (AO (pv 2)))))))))) AK) (AD (AX (AI BO (pv 4) AQ (AM _)) (AE (AH (AW (AA (pv 4) (AO (Al m Y.mm (AA (pv 6) (AA (pv 0) (AO AG))))))))) AK) (AD (AX (AI BO (pv 4) AQ (AM _)) (AE (AH (AW (AA (pv 4) (AA (pv 7) (AO (Al m Y.mm (AA (pv 6) (AA (pv 0) (AO AG)))))))))) AK) (AD (AX (AI BO (pv 4) AQ (AM _)) (AD (Ac 6 nd (Al JH Y.mm (AA (Al QG Y.mm (AA (pv 1) (AO (AW (AA AQ (AO (pv 7))))))) (AO (pv 2))))) (AD (AX (AI (Kh (BZ.CJ Y)) (pv 6) (BB CH) (AM _)) (AE (AH (AW (AA AQ (AO (pv 7)))))) AK) (AE (AH (AW (AA (pv 4) (AA (pv 7) (AO (Al m Y.mm (AA (pv 6) (AA (pv 0) (AO AG)))))))))))) AK) (AD (AX (AI BO (pv 4) AQ (AM _)) (AE (AH (AW (AA (pv 4) (AA (pv 7) (AO (Al OK Y.mm (AA (pv 0) (AO (pv 2)))))))))) AK) (AD (AX (AI BO (pv 4) AQ (AM _)) (AE (AH (AW (AA (pv 4) (AO (pv 7)))))) AK) (AE (AH (Al aK Y.mm (AA (pv 4) (AA (pv 7) (AA (pv 0) (AA (pv 1) (AO (pv 2))))))))))))))))))))))),?_⟩;refine⟨Ap (show 12<=1000 by decide),fun W hW=>?_⟩;have t1:=AF.new (o:=.lst ((["put","take","move","copy","change","ask","has","lacks","is","move","put","take"]:List Str).map V.str)) hW;have fW:upd H W (.lst ((["put","take","move","copy","change","ask","has","lacks","is","move","put","take"]:List Str).map V.str)) W=_:=AB;refine⟨_,rfl,_,rfl,W,_,c,0,rfl,Ay.of fW,by decide,by decide,fun v L=>?_⟩;obtain⟨w0,hw,rfl⟩:=List.mem_map.mp L;have wd:w0∈DH:=by
   have all:∀w∈(["put","take","move","copy","change","ask","has","lacks","is","move","put","take"]:List Str),w∈DH:=by decide+kernel
   exact all w0 hw
  refine⟨_,rfl,Nat.zero_le _,fun e0 nH=>?_⟩;have t2:=AF.new (o:=.tup []) nH;refine⟨d,e0,[],rfl,Dc.Ab (t1.trans t2) QW,Z,Dc.Ho d (by omega),Nat.le_trans (Dc.Gb d) (by omega),AB,by simp;omega,fun p ps qs H2 s2 np hp lp tu PQ=>?_⟩;have vp:=Ue tu PQ;have S2:AF H H2:=(t1.trans t2).trans s2;refine⟨_,rfl,_,rfl,d,n,ys,rfl,Dc.Ab S2 QW,Z,hsz,S2 _ _ hn,ln,ny,fun l N H3 s3 hl lu S _=>?_⟩;have S3:=S2.trans s3;have dp:=Dc.size_pos d;have pW:∀(j:Nat) q,ps[j]?=some q->∃zs,H3 q=some (.tup zs)/\(∃e,d.sub zs=some e)/\(0<j->zs≠[])/\steps zs/\low zs/\zs.length<=20:=fun j q hq=>by
   obtain⟨zs,h1,h2,h3⟩:=vp j q hq;obtain⟨e,he⟩:=Option.isSome_iff_exists.mp h2;obtain⟨st,lz,_⟩:=Dc.Fz Z he;exact⟨zs,s3 _ _ (by rw[h1,List.nil_append]),⟨e,he⟩,h3,st,Dc.NX he (by omega),by omega⟩
  refine⟨_,rfl,_,rfl,p,_,c,1,rfl,Ay.of (s3 _ _ hp),by rw[List.length_map];omega,by decide,fun v L=>?_⟩;obtain⟨q0,nI,rfl⟩:=List.mem_map.mp L;obtain⟨j0,tH⟩:=List.getElem?_of_mem nI;obtain⟨z0,jo,⟨x0,tJ⟩,_,tK,tM,tN⟩:=pW j0 q0 tH;dsimp only[Bm];refine Co (fun σ' H'=>∃(l:Addr)(N:List V),σ'=[some (.int c),some d.val,some (.ref n),some (.ref W),some (.str w0),some (.ref p),some (.ref l),some (.ref q0)]/\AF H3 H'/\H' l=some (.lst N)/\N.length<=600/\DR d ys H' N) ?_ ?_;rotate_left
  ·intro J;refine⟨_,rfl,rfl,_,rfl,?_⟩;refine Bs (fun h=>?_) (fun h=>J _ _ ⟨l,N,rfl,AF.refl _,hl,lu,S⟩);refine⟨_,rfl,l,rfl,⟨_,Ay.of hl⟩,Ju N.length (fun i=>N.getD i .As) (fun D i Hj=>AF H3 Hj/\∃t:List V,Hj D=some (.lst t)/\t.length<=i/\∀v∈t,v∈N) (fun D hD=>⟨AF.new hD,[],AB,Nat.le_refl _,fun z hz=>nomatch hz⟩) (fun D i Hj hi ⟨s,_⟩=>⟨_,_,Ay.of (s _ _ hl),ux hi⟩) (fun D i Hj v H' hi ⟨s,_⟩ y=>?_) (fun D Hj ⟨s,_⟩=>⟨_,Ay.of (s _ _ hl),Nat.le_refl _⟩) (fun D i Hj hD hi ⟨s,t,fD,nP,m'⟩=>?_) (fun D Hj hD ⟨s,t,fD,nP,m'⟩=>?_)⟩
   ·obtain⟨e,y⟩:=y;refine⟨?_,e⟩;rw[List.getD_eq_getElem?_getD,y _ (Ay.of (s _ _ hl))];rfl
   ·have gi:N[i]?=some (N.getD i .As):=by rw[List.getD_eq_getElem?_getD,ux hi];rfl
    have mi:=u_ gi;obtain⟨sp,xs,ex,O,M,nx,_⟩:=S _ mi;rw[ex]at mi⊢;obtain⟨vs,lv,rfl⟩:∃vs lv,xs=vs++[lv]:=⟨xs.dropLast,xs.getLast nx,(List.dropLast_concat_getLast nx).symm⟩;have add:∃ys,Hj D=some (.lst ys)/\ys.length<sizeLine/\(AF H3 (upd Hj D (.lst (ys++[.ref sp])))/\∃t:List V,upd Hj D (.lst (ys++[.ref sp])) D=some (.lst t)/\t.length<=i+1/\∀v∈t,v∈N):=⟨t,fD,Aw (by omega),s.put hD,t++[.ref sp],AB,by simp;omega,fun v L=>by
     rcases List.mem_append.mp L with L|L
     ·exact m' v L
     ·rw[List.mem_singleton.mp L];exact mi⟩
    refine⟨_,rfl,_,rfl,sp,_,_,_,rfl,rfl,Ah.of (s _ _ O),BW vs lv,?_⟩;rcases M lv (by simp)with⟨k,rfl⟩|⟨k,rfl,_⟩
    ·exact⟨_,"str","int",rfl,rfl,.int _,_,rfl,Ae ⟨s,t,fD,by omega,m'⟩⟩
    ·exact⟨_,"str","str",rfl,rfl,.str _,_,rfl,Aj ⟨_,rfl,add⟩⟩
   ·exact J _ _ ⟨D,t,rfl,s,fD,by omega,fun v L=>(S.up fun q xs h=>s _ _ h) v (m' v L)⟩
  clear hl lu S;rintro σ' H4 ⟨l,N,rfl,s4,hl,lu,S⟩;refine Co (fun σ' H'=>∃w2,σ'=[some (.int c),some d.val,some (.ref n),some (.ref W),some (.str w2),some (.ref p),some (.ref l),some (.ref q0)]/\AF H4 H'/\w2∈DH/\(w2="put"∨w2="copy"∨w2="lacks"->N≠[])/\(w2="take"∨w2="move"->ps.length≠1)) ?_ ?_;rotate_left
  ·intro J;have h9:("has":Str)∈DH:=by decide
   have has:∀H',AF H4 H'->_:=fun H' s=>J [some (.int c),some d.val,some (.ref n),some (.ref W),some (.str "has"),some (.ref p),some (.ref l),some (.ref q0)] H' ⟨"has",rfl,s,h9,fun h=>absurd h (by decide),fun h=>absurd h (by decide)⟩;have Xo:=s4 _ _ (s3 _ _ hp);refine⟨_,rfl,Nat.zero_le _,fun z hz=>⟨l,z,N,rfl,rfl,Ay.of (AF.new hz _ _ hl),Ay.of AB,_,rfl,?_⟩⟩;have sz:=AF.new (o:=.lst []) hz;generalize upd H4 z (.lst [])=H5 at sz⊢;cases N with
   |cons v r=>
    refine Ae (Ae ?_);have M:=sz;have c2:(w0="put"∨w0="copy"∨w0="lacks")->v::r≠[]:=fun _=>by simp
    have nQ:=M _ _ Xo;refine⟨_,rfl,p,_,rfl,.inl (Ay.of nQ),rfl,_,rfl,?_⟩;refine Bs (fun c1=>?_) (fun c1=>Ae (J _ _ ⟨w0,rfl,M,wd,c2,fun _ z=>c1 (by rw[List.length_map,z];rfl)⟩));refine⟨_,rfl,AR,fun g2 JG=>⟨g2,_,rfl,.inl (Ay.of AB),rfl,rfl,_,rfl,?_⟩⟩;refine Eg (fun b=>has _ (M.trans (AF.new JG))) (fun b=>J _ _ ⟨w0,rfl,M.trans (AF.new JG),wd,c2,fun h=>?_⟩);exact absurd (show Cm (.str w0) [.str "take",.str "move"]=true by rcases h with rfl|rfl<;>decide) (by rw[b];exact Bool.false_ne_true)
   |nil=>
    refine Aj ⟨_,rfl,Cj,fun g hg=>⟨g,_,rfl,.inl (Ay.of AB),rfl,rfl,_,rfl,?_⟩⟩;have M:=sz.trans (AF.new (o:=.lst [.str "put",.str "copy",.str "lacks"]) hg);refine Eg (fun b=>Aj (has _ M)) (fun b=>?_);have c2:(w0="put"∨w0="copy"∨w0="lacks")->([]:List V)≠[]:=fun h=>absurd (show Cm (.str w0) [.str "put",.str "copy",.str "lacks"]=true by rcases h with rfl|rfl|rfl<;>decide) (by rw[b];exact Bool.false_ne_true);have nQ:=M _ _ Xo;refine⟨_,rfl,p,_,rfl,.inl (Ay.of nQ),rfl,_,rfl,?_⟩;refine Bs (fun c1=>?_) (fun c1=>Ae (J _ _ ⟨w0,rfl,M,wd,c2,fun _ z=>c1 (by rw[List.length_map,z];rfl)⟩));refine⟨_,rfl,AR,fun g2 JG=>⟨g2,_,rfl,.inl (Ay.of AB),rfl,rfl,_,rfl,?_⟩⟩;refine Eg (fun b=>has _ (M.trans (AF.new JG))) (fun b=>J _ _ ⟨w0,rfl,M.trans (AF.new JG),wd,c2,fun h=>?_⟩);exact absurd (show Cm (.str w0) [.str "take",.str "move"]=true by rcases h with rfl|rfl<;>decide) (by rw[b];exact Bool.false_ne_true)
  rintro σ' H5 ⟨w2,rfl,s5,tO,cs,ct⟩;have mW:=s5 _ _ (s4 _ _ (s3 _ _ hp));refine Co (fun σ' H'=>∃(q1:Addr)(zs:List V)(e:Dc),σ'=[some (.int c),some d.val,some (.ref n),some (.ref W),some (.str w2),some (.ref p),some (.ref l),some (.ref q1)]/\AF H5 H'/\H' q1=some (.tup zs)/\d.sub zs=some e/\(w2="take"∨w2="move"->zs≠[])/\steps zs/\low zs/\zs.length<=20) ?_ ?_;rotate_left
  ·intro J;refine⟨_,rfl,AR,fun g2 JG=>⟨g2,_,rfl,.inl (Ay.of AB),rfl,rfl,_,rfl,?_⟩⟩;have sg:=AF.new (o:=.lst [.str "take",.str "move"]) JG;generalize upd H5 g2 (.lst [.str "take",.str "move"])=H6 at sg⊢;refine Eg (fun b=>?_) (fun b=>J _ _ ⟨q0,z0,x0,rfl,sg,sg _ _ (s5 _ _ (s4 _ _ jo)),tJ,fun h=>absurd (show Cm (.str w2) [.str "take",.str "move"]=true by rcases h with rfl|rfl<;>decide) (by rw[b];exact Bool.false_ne_true),tK,tM,tN⟩);have uj:=ct (by
    rw[show Cm (.str w2) [.str "take",.str "move"]=decide (w2∈(["take","move"]:List Str))from EU w2 ["take","move"]]at b;have:=of_decide_eq_true b;simpa using this)
   have cut:FQ (ps.map V.ref) (some ((1:Nat):Int)) none=(ps.drop 1).map V.ref:=by rw[Ga,List.map_drop]
   refine⟨_,rfl,_,rfl,p,_,rfl,Ay.of (sg _ _ mW),fun D hD=>?_⟩;have sD:=AF.new (o:=.lst ((ps.drop 1).map V.ref)) hD;refine⟨_,rfl,D,(ps.drop 1).map V.ref,c,1,rfl,Ay.of (by rw[<-cut];exact AB),by rw[List.length_map,List.length_drop];omega,by decide,fun v L=>?_⟩;obtain⟨q1,jr,rfl⟩:=List.mem_map.mp L;obtain⟨j,hj⟩:=List.getElem?_of_mem jr;rw[List.getElem?_drop]at hj;obtain⟨zs,hz,⟨e,he⟩,ne,st,lw,ll⟩:=pW _ q1 hj;exact J _ _ ⟨q1,zs,e,rfl,sg.trans (AF.new hD),(sg.trans (AF.new hD)) _ _ (s5 _ _ (s4 _ _ hz)),he,fun _=>ne (by omega),st,lw,ll⟩
  rintro σ' H6 ⟨q1,z1,e1,rfl,s6,x,ir,pX,B,u,R⟩;have S6:AF H H6:=((S3.trans s4).trans s5).trans s6;have nR:=s6 _ _ (s5 _ _ hl);have nS:DR d ys H6 N:=S.up fun q xs h=>s6 _ _ (s5 _ _ h);have fQ:=S6 _ _ hn;have js:=Dc.Ab S6 QW;have bM:=tO;simp only[DH,List.mem_cons,List.not_mem_nil,or_false]at bM;have n0:steps ([]:List V):=fun z hz=>nomatch hz;have G:low ([]:List V):=fun z hz=>nomatch hz;rcases bM with rfl|rfl|rfl|rfl|rfl|rfl|rfl|rfl|rfl
  ·refine⟨_,rfl,rfl,_,rfl,BL (by decide) ⟨_,rfl,_,rfl,_,rfl,l,N,c,2,rfl,Ay.of nR,List.length_pos_iff.mpr (cs (.inl rfl)),by decide,fun v L=>?_⟩⟩;obtain⟨sp,xs,rfl,O,M,nx,lx,lw,_⟩:=nS v L;refine⟨_,rfl,_,rfl,c,n,ys,rfl,fQ,by omega,l0,ny,fun d2 H7 X iu fR iv iw=>⟨Cj,fun a U=>?_⟩⟩;have I:=AF.new (o:=.tup [.str "put",.ref sp,d2.val]) U;exact q _ _ _ _ _ _ ((S6.trans X).trans I) (RV AB (I _ _ (X _ _ O)) M lx (.of lw) nx (Dc.Ab I iu) fR iv iw) lw G (.no (by decide))
  ·refine⟨_,rfl,rfl,_,rfl,Af (by decide) ⟨_,rfl,rfl,_,rfl,Af (by decide) ⟨_,rfl,rfl,_,rfl,Af (by decide) ⟨_,rfl,rfl,_,rfl,Af (by decide) ⟨_,rfl,rfl,_,rfl,Af (by decide) ⟨_,rfl,rfl,_,rfl,BL (by decide) ⟨_,rfl,_,rfl,AR,fun a U=>?_⟩⟩⟩⟩⟩⟩⟩;have I:=AF.new (o:=.tup [.str "take",.ref q1]) U;exact q _ _ _ _ _ _ (S6.trans I) (Fb AB (I _ _ x) B R (.of u) (by decide) fun _=>pX (.inl rfl)) u G (.no (by decide))
  ·obtain⟨t,lv,ez⟩:∃t lv,z1=t++[lv]:=⟨z1.dropLast,z1.getLast (pX (.inr rfl)),(List.dropLast_concat_getLast _).symm⟩;rw[ez]at ir x B u R;obtain⟨eh,YZ,Zb⟩:=Dc.Kx ir;refine⟨_,rfl,rfl,_,rfl,Af (by decide) ⟨_,rfl,rfl,_,rfl,Af (by decide) ⟨_,rfl,rfl,_,rfl,Af (by decide) ⟨_,rfl,rfl,_,rfl,BL (by decide) ⟨_,rfl,_,rfl,AR,fun a0 nU=>?_⟩⟩⟩⟩⟩;have X:=AF.new (o:=.tup [.str "take",.ref q1]) nU;refine⟨d,a0,q1,t,lv,eh,e1,rfl,Dc.Ab X js,Z,hsz,AB,X _ _ x,B,YZ,Zb,fun d' H8 s8 eF iy pY iz=>?_⟩;have s78:=X.trans s8;refine⟨_,rfl,d',n,ys,rfl,eF,iy,by omega,s78 _ _ fQ,ln,ny,fun l2 ju H9 s9 aN pZ S9 _=>?_⟩;have s79:=s78.trans s9;refine⟨_,rfl,Nat.zero_le _,fun z hz=>⟨l2,z,ju,rfl,rfl,Ay.of (AF.new hz _ _ aN),Ay.of AB,_,rfl,?_⟩⟩;have tz:=AF.new (o:=.lst []) hz;have i_:=s79.trans tz;have jA:=tz _ _ aN;have eI:DR d' ys _ ju:=S9.up fun q xs h=>tz _ _ h;generalize upd H9 z (.lst [])=uk at tz i_ jA eI⊢;cases ju with
   |nil=>
    refine Aj ⟨_,rfl,AR,fun a U=>?_⟩;have I:=AF.new (o:=.tup [.str "has",.ref q1]) U;exact q _ _ _ _ _ _ ((S6.trans i_).trans I) (Fb AB (I _ _ (i_ _ _ x)) B R (.of u) (by decide) fun h=>absurd rfl h) u G (.no (by decide))
   |cons v0 r0=>
    refine Ae ⟨_,rfl,_,rfl,_,rfl,_,rfl,l2,_,c,2,rfl,Ay.of jA,by simp,by decide,fun v L=>⟨Cj,fun a U=>?_⟩⟩;obtain⟨sp,xs,rfl,O,M,nx,lx,lw,e2,mG,_⟩:=eI v L;have I:=AF.new (o:=.tup [.str "move",.ref q1,.ref sp]) U;have wd:=Dc.Fg d QW;have we:=Dc.NT wd YZ;have w1:(d.Cc t (eh.Ck lv)).Wf:=Dc.Su wd YZ (Dc.NS we Zb);have w8:=Dc.Fg d' eF;obtain⟨e3,h3,_⟩:=Dc.Eqv.sub w8 w1 iz.symm mG;refine q _ _ _ _ _ _ ((S6.trans i_).trans I) (Mk AB (I _ _ (i_ _ _ x)) (I _ _ O) (.inr rfl) B R (.of u) (fun _=>by simp) M lx (.of lw) nx) u lw fun _=>⟨⟨t,lv,eh,e1,rfl,YZ,Zb,(eI.open (by simp)).eqv w8 w1 iz.symm⟩,Pp wd Z YZ Zb M nx h3⟩
  ·refine⟨_,rfl,rfl,_,rfl,Af (by decide) ⟨_,rfl,rfl,_,rfl,Af (by decide) ⟨_,rfl,rfl,_,rfl,BL (by decide) ⟨_,rfl,_,rfl,_,rfl,_,rfl,l,N,c,2,rfl,Ay.of nR,List.length_pos_iff.mpr (cs (.inr (.inl rfl))),by decide,fun v L=>⟨Cj,fun a U=>?_⟩⟩⟩⟩⟩;obtain⟨sp,xs,rfl,O,M,nx,lx,lw,_⟩:=nS v L;have I:=AF.new (o:=.tup [.str "copy",.ref q1,.ref sp]) U;exact q _ _ _ _ _ _ (S6.trans I) (Mk AB (I _ _ x) (I _ _ O) (.inl rfl) B R (.of u) (fun h=>absurd h (by decide)) M lx (.of lw) nx) u lw (.no (by decide))
  ·refine⟨_,rfl,rfl,_,rfl,Af (by decide) ⟨_,rfl,rfl,_,rfl,Af (by decide) ⟨_,rfl,rfl,_,rfl,Af (by decide) ⟨_,rfl,rfl,_,rfl,Af (by decide) ⟨_,rfl,rfl,_,rfl,BL (by decide) ⟨_,rfl,_,rfl,_,rfl,_,rfl,c,n,ys,rfl,fQ,by omega,l0,ny,fun d2 H7 X iu fR iv iw=>⟨Cj,fun a U=>?_⟩⟩⟩⟩⟩⟩⟩;have I:=AF.new (o:=.tup [.str "change",.ref q1,d2.val]) U;have a7:=Dc.Ab I iu;exact q _ _ _ _ _ _ ((S6.trans X).trans I) (JW AB (I _ _ (X _ _ x)) B R (.of u) (by decide) (fun h=>absurd h (by decide)) (GQ a7 fR (by omega)) (fun h=>absurd h (by decide)) (Fo.val (.inr rfl) a7 fR iv iw) n0 (by decide) fun h=>absurd h (by decide)) u G (.no (by decide))
  ·refine⟨_,rfl,rfl,_,rfl,Af (by decide) ⟨_,rfl,rfl,_,rfl,Af (by decide) ⟨_,rfl,rfl,_,rfl,Af (by decide) ⟨_,rfl,rfl,_,rfl,Af (by decide) ⟨_,rfl,rfl,_,rfl,Af (by decide) ⟨_,rfl,rfl,_,rfl,Af (by decide) ⟨_,rfl,_,rfl,_,rfl,_,rfl,_,rfl,"ask",q1,c,d,n,z1,e1,ys,rfl,.inl rfl,x,B,js,Z,hsz,ir,fQ,ln,l0,ny,fun a rest H7 X U T7 f7 _=>?_⟩⟩⟩⟩⟩⟩⟩;exact q _ _ _ _ _ _ (S6.trans X) (JW U (X _ _ x) B R (.of u) (by decide) (fun h=>absurd h (by decide)) f7 (fun h=>absurd h (by decide)) T7 n0 (by decide) fun h=>absurd h (by decide)) u G (.no (by decide))
  ·refine⟨_,rfl,rfl,_,rfl,Af (by decide) ⟨_,rfl,rfl,_,rfl,Af (by decide) ⟨_,rfl,rfl,_,rfl,Af (by decide) ⟨_,rfl,rfl,_,rfl,Af (by decide) ⟨_,rfl,rfl,_,rfl,Af (by decide) ⟨_,rfl,rfl,_,rfl,Af (by decide) ⟨_,rfl,_,rfl,_,rfl,_,rfl,_,rfl,"has",q1,c,d,n,z1,e1,ys,rfl,.inr (.inr rfl),x,B,js,Z,hsz,ir,fQ,ln,l0,ny,fun a rest H7 X U T7 f7 r0=>?_⟩⟩⟩⟩⟩⟩⟩;exact q _ _ _ _ _ _ (S6.trans X) (JW U (X _ _ x) B R (.of u) (by decide) (fun h=>absurd h (by decide)) f7 (fun _=>r0 rfl) T7 n0 (by decide) fun h=>absurd h (by decide)) u G (.no (by decide))
  ·refine⟨_,rfl,rfl,_,rfl,Af (by decide) ⟨_,rfl,rfl,_,rfl,BL (by decide) ⟨_,rfl,_,rfl,_,rfl,l,N,c,2,rfl,Ay.of nR,List.length_pos_iff.mpr (cs (.inr (.inr rfl))),by decide,fun v L=>⟨AR,fun a U=>?_⟩⟩⟩⟩;obtain⟨sp,xs,rfl,O,M,nx,lx,lw,_⟩:=nS v L;have I:=AF.new (o:=.tup [.str "lacks",.ref sp]) U;exact q _ _ _ _ _ _ (S6.trans I) (Fb AB (I _ _ O) M lx (.of lw) (by decide) fun _=>nx) lw G (.no (by decide))
  ·refine⟨_,rfl,rfl,_,rfl,Af (by decide) ⟨_,rfl,rfl,_,rfl,Af (by decide) ⟨_,rfl,rfl,_,rfl,Af (by decide) ⟨_,rfl,rfl,_,rfl,Af (by decide) ⟨_,rfl,rfl,_,rfl,Af (by decide) ⟨_,rfl,rfl,_,rfl,Af (by decide) ⟨_,rfl,_,rfl,_,rfl,_,rfl,_,rfl,"is",q1,c,d,n,z1,e1,ys,rfl,.inr (.inl rfl),x,B,js,Z,hsz,ir,fQ,ln,l0,ny,fun a rest H7 X U T7 f7 _=>?_⟩⟩⟩⟩⟩⟩⟩;exact q _ _ _ _ _ _ (S6.trans X) (JW U (X _ _ x) B R (.of u) (by decide) (fun h=>absurd h (by decide)) f7 (fun h=>absurd h (by decide)) T7 n0 (by decide) fun h=>absurd h (by decide)) u G (.no (by decide))
end
end BF
namespace BF
open PySem L2
section
variable{P:Program} {w:World} {K:vA} [A_ K] {mg:Str->Option Value} {base:Heap}
theorem YA:AU ["_law_row_here"] ["_law_row_here"] (AL Xg):={}
theorem aO{f:Addr}{e:FuncData}(F:CL K "_law_gone" "_law_gone" Xg f e)(T:Txt mg):Av P w K mg base CP 1 f e ["_law_row_here"] (Fh [.str "take",.str "change"]):=by
 refine F.oq YA fun i A outer s H m Q E j h=>?_
 ·obtain⟨r,k,n,o,p,rfl,R,q⟩:=h;have nd:=YA.nd;have u:=An j;refine⟨_,(AE (AH (KC (AI (B':Dg _ _ (OU K false)) (Bx K 0) (BB (AA AQ (AO AQ))) rfl) (Bx K 0) BA))),?_⟩;obtain⟨a,rest,rfl,g,l⟩:=R.ex;refine⟨_,rfl,a,_,0,.str k,rfl,rfl,Ah.of g,Ec,AR,fun t c=>⟨t,_,rfl,.inl (Ay.of AB),rfl,rfl,_,rfl,?_⟩⟩;refine Eg (fun h=>?_) (fun h=>?_)
  ·have d:∀b,AF H b->Q (.ref p) b:=fun b s=>by
    have:=q b s;rw[if_pos h]at this;exact this
   exact⟨_,rfl,a,_,1,_,rfl,rfl,Ah.of (AF.new c _ _ g),Cy,d _ (AF.new c)⟩
  ·have d:∀b,AF H b->Q .As b:=fun b s=>by
    have:=q b s;rw[h,if_neg Bool.false_ne_true]at this;exact this
   exact d _ (AF.new c)
end
end BF
namespace BF
open PySem L2
section
variable{P:Program} {w:World} {K:vA} [A_ K] {mg:Str->Option Value} {base:Heap}
theorem Tb:AU ["_law_row_here"] ["_law_row_here"] (AL Rh):={}
theorem YB{f:Addr}{b:FuncData}(F:CL K "_law_moved" "_law_moved" Rh f b)(T:Txt mg):Av P w K mg base CP 1 f b ["_law_row_here"] Ei:=by
 refine F.oq Tb fun d A outer s H j Q E e h=>?_
 ·obtain⟨r,g,k,l,p,rfl,R,q⟩:=h;have nd:=Tb.nd;have m:=An e;refine⟨_,(AE (AH (KC (AI BO (Bx K 0) AQ (AM _)) (Bx K 0) BA))),?_⟩;obtain⟨a,rest,rfl,c,i⟩:=R.ex;refine⟨_,rfl,a,_,0,.str g,rfl,rfl,Ah.of c,Ec,rfl,_,rfl,?_⟩;refine Bs (fun h=>?_) (fun h=>?_)
  ·rw[if_pos h]at q;exact⟨_,rfl,a,_,1,_,rfl,rfl,Ah.of c,Cy,q⟩
  ·rw[if_neg h]at q;exact q
end
end BF
namespace BF
open PySem L2
section
variable{P:Program} {w:World} {K:vA} [A_ K] {mg:Str->Option Value} {base:Heap}
theorem QH:AU ["_law_row_here"] ["_law_row_here"] (AL Nx):={}
theorem VB{f:Addr}{e:FuncData}(F:CL K "_law_reads" "_law_reads" Nx f e)(T:Txt mg):Av P w K mg base CP 1 f e ["_law_row_here"] (Fh [.str "ask",.str "copy"]):=by
 refine F.oq QH fun i A outer s H m Q E j h=>?_
 ·obtain⟨r,k,n,o,p,rfl,R,q⟩:=h;have nd:=QH.nd;have u:=An j;refine⟨_,(AE (AH (KC (AI (B':Dg _ _ (OU K false)) (Bx K 0) (BB (AA AQ (AO AQ))) rfl) (Bx K 0) BA))),?_⟩;obtain⟨a,rest,rfl,g,l⟩:=R.ex;refine⟨_,rfl,a,_,0,.str k,rfl,rfl,Ah.of g,Ec,AR,fun t c=>⟨t,_,rfl,.inl (Ay.of AB),rfl,rfl,_,rfl,?_⟩⟩;refine Eg (fun h=>?_) (fun h=>?_)
  ·have d:∀b,AF H b->Q (.ref p) b:=fun b s=>by
    have:=q b s;rw[if_pos h]at this;exact this
   exact⟨_,rfl,a,_,1,_,rfl,rfl,Ah.of (AF.new c _ _ g),Cy,d _ (AF.new c)⟩
  ·have d:∀b,AF H b->Q .As b:=fun b s=>by
    have:=q b s;rw[h,if_neg Bool.false_ne_true]at this;exact this
   exact d _ (AF.new c)
end
end BF
namespace BF
open PySem L2
section
variable{P:Program} {w:World} {K:vA} [A_ K] {mg:Str->Option Value} {base:Heap}
theorem Tc:AU ["_law_row_here","_law_to","_law_at","_law_place","_law_inside"] ["_law_row_here"] (AL Ri):={}
theorem YC{f:Addr}{fd:FuncData}(F:CL K "_law_comes" "_law_comes" Ri f fd)(T:Txt mg):Av P w K mg base CP 1 f fd ["_law_row_here"] Cs:=by
 refine F.oq Tc fun Ic A outer s H vs Q E hr h=>?_
 ·obtain⟨r,G,N,l,p,rfl,R,q⟩:=h;have nd:=Tc.nd;have hu:=An hr;refine⟨_,(AD (AX (AI BO (Bx K 0) AQ (AM _)) (AE (AH (AW (AA (Ai BH (Bx K 0) Ax (Au (Bw BM AG))) (AO (CN (r:=EF K) By (Bx K 0) (Bw BM AG) (fun _ _=>rfl))))))) AK) (AD (AX (AI BO (Bx K 0) AQ (AM _)) (AE (AH (AW (AA (Ai BH (Bx K 0) Ax (Au (Bw BM AG))) (AO (CN (r:=EF K) By (Bx K 0) (Bw BM AG) (fun _ _=>rfl))))))) AK) (AD (AX (AI KI (Bx K 0) AQ (AM _)) (AE (AH BA)) AK) (AD (Ac 1 nd (Cq HY rfl T.list Dn (AO (Bx K 0)))) (AD (Ac 2 nd (AV KH (DS T.len (Bx K 0)) AG)) (AD (Ac 3 nd (CN (r:=EF K) By (Bx K 0) (pv 2) (fun _ _=>rfl))) (AD (Ac 4 nd (Ci (Be aq (DS T.len (pv 1)) (pv 2) (AM _)) (Ci (Be (Gx (BZ.CJ hr)) (Ai BH (Bx K 0) Ax (Au (pv 2))) (Ai BH (Bx K 0) Ax (Au (pv 2))) (AM _)) (DY (Qa (Aa Ao rfl T.isinstance AS (AA (pv 3) (AO (BG (v:=.ty "str") rfl T.str Hl rfl))))))))) (AD (AX (PW.pt (pw_and (Ag (pv 4)) (pw_and1 (EE (Ag (Aa Ao rfl T.isinstance AS (AA (LI K (pv 1) (pv 2)) (AO (BG (v:=.ty "str") rfl T.str Hl rfl))))))))) (AE (AX (PW.pt (pw_or (AI aq (LI K (pv 1) (pv 2)) (pv 3) (AM _)) (pw_or1 (PW.pt (pw_and (AI BO (LI K (pv 1) (pv 2)) (pv 3) (AM _)) (pw_and1 (AI Gh (AV Bc (pv 2) AG) (DS T.len (pv 1)) (AM _)))))))) (AE (NA (AV Bc (LI K (pv 1) (pv 2)) AG) (VY (pv 1) (pv 2) set_list))) AK)) AK) (AE (AH (AW (AA (Cq Gi rfl T.tuple NL (AO (Ai (r:=cI K) SX (pv 1) Ax (Au (Bw BM AG))))) (AO (LI K (pv 1) (Bw BM AG))))))))))))))),?_⟩;obtain⟨a,rest,rfl,D,iR⟩:=R.ex;have fin:∀(O:Hp),AF H O->∀y U,AF O y->y U=some (.tup (CT G N l).dropLast)->∀t,y t=none->∀m,(CT G N l).getLast?=some m->Cm (.str G) BY=true->Q (.ref t) (upd y t (.tup [.ref U,m])):=fun O I y U B h2 t X m tQ hc=>by
   refine q _ _ ((I.trans B).trans (AF.new X)) ?_;unfold GD;rw[if_pos hc];exact⟨t,U,m,rfl,AB,AF.new X _ _ h2,tQ⟩
  have S:∀ys:List V,ys≠[]->∃d m,ys=d++[m]:=fun ys h=>⟨ys.dropLast,ys.getLast h,(List.dropLast_concat_getLast h).symm⟩;refine⟨_,rfl,a,_,0,.str G,rfl,rfl,Ah.of D,Ec,rfl,_,rfl,?_⟩;refine Bs (fun h=>?_) (fun h1=>?_)
  ·have hw:G="put":=V.str.inj (of_decide_eq_true h);subst hw;have eP:CT "put" N l=N:=rfl;obtain⟨d,m,e⟩:=S N (R.nx (.inl rfl));have Y:CT "put" N l=d++[m]:=eP.trans e;have hp:=R.hp;rw[e]at hp;exact⟨_,rfl,a,_,1,_,rfl,rfl,Ah.of D,Cy,_,rfl,_,rfl,p,_,rfl,hp,fun U y B J=>⟨_,rfl,a,_,1,_,rfl,rfl,Ah.of (B _ _ D),Cy,_,rfl,p,_,_,_,rfl,rfl,Ah.of (B _ _ hp),BW d m,AR,fun t X=>fin _ (AF.refl _) y U B (by rw[BR]at J;rw[Y,List.dropLast_concat];exact J) t X m (by rw[Y];simp) (by decide)⟩⟩
  refine⟨_,rfl,a,_,0,.str G,rfl,rfl,Ah.of D,Ec,rfl,_,rfl,?_⟩;refine Bs (fun h=>?_) (fun h2=>?_)
  ·have hw:G="copy":=V.str.inj (of_decide_eq_true h);subst hw;obtain⟨p2,rfl,C⟩:=iR (.inl rfl);have eP:CT "copy" N l=l:=rfl;obtain⟨d,m,e⟩:=S l (R.nz (.inl rfl));have Y:CT "copy" N l=d++[m]:=eP.trans e;rw[e]at C;exact⟨_,rfl,a,_,2,_,rfl,rfl,Ah.of D,at2,_,rfl,_,rfl,p2,_,rfl,C,fun U y B J=>⟨_,rfl,a,_,2,_,rfl,rfl,Ah.of (B _ _ D),at2,_,rfl,p2,_,_,_,rfl,rfl,Ah.of (B _ _ C),BW d m,AR,fun t X=>fin _ (AF.refl _) y U B (by rw[BR]at J;rw[Y,List.dropLast_concat];exact J) t X m (by rw[Y];simp) (by decide)⟩⟩
  refine⟨_,rfl,a,_,0,.str G,rfl,rfl,Ah.of D,Ec,rfl,_,rfl,?_⟩;refine MS (fun h=>?_) (fun h=>?_)
  ·refine q _ _ (AF.refl _) ?_;unfold GD;have n3:¬G="move":=fun z=>by rw[z]at h;cases h
   rw[if_neg fun z=>by
    rcases oJ z with z|z|z
    ·exact h1 (by rw[z];rfl)
    ·exact h2 (by rw[z];rfl)
    ·exact n3 z]
  have hw:G="move":=by
   cases hd:decide (V.str G=V.str "move")with
   |true=>exact V.str.inj (of_decide_eq_true hd)
   |false=>rw[hd]at h;cases h
  subst hw;obtain⟨p2,rfl,C⟩:=iR (.inr rfl);obtain⟨d,m,rfl⟩:=S N (R.nx (.inr (.inr (.inr rfl))));have hp:=R.hp;have su:steps d:=fun z Z=>R.sx z (List.mem_append_left _ Z);have sl:Dc.Bi m:=R.sx m (by simp);have fz:∀z∈l,CO z=true:=fun z Z=>(R.sz z Z).flat;have fu:∀z∈d,CO z=true:=fun z Z=>(su z Z).flat;have lz:=R.lz;refine⟨_,rfl,a,_,2,_,rfl,rfl,Ah.of D,at2,p2,_,rfl,.inr (Ah.of C),fun L hL=>?_⟩;obtain⟨O,e1⟩:∃O,O=upd H L (.lst l):=⟨_,rfl⟩;have I:AF H O:=by rw[e1];exact AF.new hL
  have pd:O L=some (.lst l):=by rw[e1];exact AB
  rw[<-e1];refine⟨_,rfl,a,_,1,_,rfl,rfl,Ah.of (I _ _ D),Cy,p,_,rfl,.inr (Ah.of (I _ _ hp)),_,_,rfl,rfl,?_⟩;have el:(((d++[m]).length:Nat):Int)-1=(d.length:Int):=by simp
  rw[el];refine⟨_,rfl,a,_,1,_,rfl,rfl,Ah.of (I _ _ D),Cy,_,rfl,p,_,_,m,rfl,rfl,Ah.of (I _ _ hp),BV (by simp),?_⟩;dsimp only[Bm];refine Co (fun M H'=>∃b:Bool,M=[some (.ref a),some (.ref L),some (.int (d.length:Int)),some m,some (.bl b)]/\AF O H'/\b=(decide (d.length<l.length)&&BQ (l.take d.length) d&&MT m)) ?_ ?_;rotate_left
  ·intro n;refine⟨_,rfl,L,_,rfl,.inl (Ay.of pd),_,rfl,_,_,rfl,rfl,_,rfl,?_⟩;refine Bs (fun c1=>?_) (fun c1=>n _ _ ⟨false,rfl,AF.refl _,?_⟩)
   ·have l1:d.length<l.length:=by have:=of_decide_eq_true c1;omega
    refine⟨_,rfl,a,_,2,_,rfl,rfl,Ah.of (I _ _ D),at2,_,rfl,_,rfl,p2,_,rfl,I _ _ C,fun q1 y B jr=>?_⟩;rw[DO]at jr;refine⟨_,rfl,a,_,1,_,rfl,rfl,Ah.of (B _ _ (I _ _ D)),Cy,_,rfl,_,rfl,p,_,rfl,B _ _ (I _ _ hp),fun q2 H3 s3 jv=>?_⟩;rw[DO,List.take_left]at jv;refine⟨q1,q2,_,_,rfl,rfl,Ah.of (s3 _ _ jr),Ah.of jv,fun z Z=>fz z (List.mem_of_mem_take Z),fu,_,rfl,?_⟩;refine MS (fun c2=>?_) (fun c2=>n _ _ ⟨false,rfl,B.trans s3,by rw[c2,Bool.and_false,Bool.false_and]⟩);rcases sl with⟨j,rfl⟩|⟨k,rfl,hk⟩
    ·exact⟨_,rfl,_,"str","int",rfl,rfl,.int _,_,rfl,n _ _ ⟨_,rfl,B.trans s3,by rw[c2,decide_eq_true l1];rfl⟩⟩
    ·exact⟨_,rfl,_,"str","str",rfl,rfl,.str _,_,rfl,n _ _ ⟨_,rfl,B.trans s3,by rw[c2,decide_eq_true l1];rfl⟩⟩
   ·have l1:¬d.length<l.length:=fun z=>c1 (decide_eq_true (by omega));rw[decide_eq_false l1,Bool.false_and,Bool.false_and]
  rintro M y ⟨b,rfl,B,eb⟩;have u:=B _ _ pd;refine Co (fun M H'=>M=[some (.ref a),some (.ref L),some (.int (d.length:Int)),some m,some (.bl b)]/\(∀x o,x≠L->y x=some o->H' x=some o)/\H' L=some (.lst (CD l (d++[m])))) ?_ ?_;rotate_left
  ·intro n;refine⟨_,rfl,_,rfl,?_⟩;have Gf:CD l (d++[m])=l->(KG (fun _ _ _=>True) Lu Lu=KG (fun _ _ _=>True) Lu Lu)/\(∀x o,x≠L->y x=some o->y x=some o)/\y L=some (.lst (CD l (d++[m]))):=fun e=>⟨rfl,fun _ _ _ z=>z,by rw[e];exact u⟩;cases b with
   |false=>exact Ae (Ae (n _ _ ⟨rfl,(Gf (UY sl eb.symm)).2⟩))
   |true=>
    have pe:=eb.symm;simp only[Bool.and_eq_true,decide_eq_true_eq]at pe;obtain⟨⟨l1,b1⟩,pl⟩:=pe;obtain⟨j,rfl⟩:=Sv sl pl;have g:l[d.length]?=some l[d.length]:=ux l1;refine Aj ⟨_,rfl,_,rfl,L,_,_,_,rfl,rfl,Ay.of u,BV g,?_⟩;rcases R.sz _ (List.getElem_mem l1)with⟨i,hi⟩|⟨k,hk,_⟩
    ·rw[hi]at g⊢;have ea:=MX (j:=(j:Int)) g b1;refine⟨_,"str","int",rfl,rfl,.int _,_,rfl,Aj ?_⟩;have asg:((j:Int)<(i:Int)∨((i:Int)=(j:Int)/\d.length+1<l.length))->(∀x o,x≠L->y x=some o->upd y L (.lst (l.set d.length (.int ((i:Int)+1)))) x=some o)/\upd y L (.lst (l.set d.length (.int ((i:Int)+1)))) L=some (.lst (CD l (d++[.int (j:Int)]))):=fun c=>⟨fun x o hx z=>by rw[AN hx];exact z,by rw[AB,ea,if_pos c]⟩;have ix:Qk l.length (d.length:Int)=some d.length:=by unfold Qk;rw[if_pos (by omega),if_pos (by omega),Int.toNat_natCast]
     refine⟨_,rfl,_,rfl,L,_,_,_,rfl,rfl,Ay.of u,BV g,_,rfl,_,_,rfl,rfl,_,rfl,?_⟩;refine Bs (fun c3=>Aj ⟨_,rfl,_,rfl,L,_,_,_,rfl,rfl,Ay.of u,BV g,_,_,rfl,rfl,_,rfl,_,rfl,L,l,_,d.length,rfl,rfl,u,ix,n _ _ ⟨rfl,asg (.inl (of_decide_eq_true c3))⟩⟩) (fun c3=>?_);have n3:¬(j:Int)<(i:Int):=fun z=>c3 (decide_eq_true z);refine⟨_,rfl,_,rfl,L,_,_,_,rfl,rfl,Ay.of u,BV g,_,rfl,rfl,_,rfl,?_⟩;refine Bs (fun c4=>?_) (fun c4=>Ae (n _ _ ⟨rfl,(Gf ?_).2⟩))
     ·have e4:(i:Int)=(j:Int):=V.int.inj (of_decide_eq_true c4);refine⟨_,rfl,_,_,rfl,rfl,_,rfl,L,_,rfl,.inl (Ay.of u),_,_,rfl,rfl,_,rfl,?_⟩;refine Bs (fun c5=>⟨_,rfl,_,rfl,L,_,_,_,rfl,rfl,Ay.of u,BV g,_,_,rfl,rfl,_,rfl,_,rfl,L,l,_,d.length,rfl,rfl,u,ix,n _ _ ⟨rfl,asg (.inr ⟨e4,?_⟩)⟩⟩) (fun c5=>n _ _ ⟨rfl,(Gf ?_).2⟩)
      ·have:=of_decide_eq_true c5;omega
      ·have n5:¬((d.length:Nat):Int)+1<((l.length:Nat):Int):=fun z=>c5 (decide_eq_true z);rw[ea];exact if_neg (by omega)
     ·have n4:¬(i:Int)=(j:Int):=fun z=>c4 (decide_eq_true (congrArg V.int z));rw[ea];exact if_neg (by omega)
    ·rw[hk]at g⊢;refine⟨_,"str","str",rfl,rfl,.str _,_,rfl,Ae (n _ _ ⟨rfl,(Gf ?_).2⟩)⟩;refine HE ?_;have gd:l.getD d.length .As=.str k:=by rw[List.getD_eq_getElem?_getD,g];rfl
     rw[gd];simp[MT]
  rintro M H3 ⟨rfl,k3,nV⟩;have S3:AF H H3:=fun x o e=>k3 x o (Am e hL) ((I.trans B) x o e);obtain⟨ws,wv,e⟩:=S (CD l (d++[m])) (fun z=>R.nz (.inr rfl) (List.eq_nil_of_length_eq_zero (by rw[<-Cd l (d++[m]),z];rfl)));have Y:CT "move" (d++[m]) l=ws++[wv]:=e;rw[e]at nV;refine⟨_,rfl,_,rfl,_,rfl,L,_,rfl,Ay.of nV,fun p4 h4=>?_⟩;rw[BR];have t4:=AF.new (o:=.lst ws) h4;refine⟨p4,_,rfl,.inl ⟨Ay.of AB,fun p5 h5=>?_⟩⟩;have t5:=AF.new (o:=.tup ws) h5;refine⟨_,rfl,_,rfl,L,_,_,_,rfl,rfl,Ay.of (t5 _ _ (t4 _ _ nV)),BW ws wv,AR,fun t X=>?_⟩;exact fin _ ((S3.trans t4).trans t5) _ p5 (AF.refl _) (by rw[Y,List.dropLast_concat];exact AB) t X wv (by rw[Y];simp) (by decide)
end
end BF
namespace BF
open PySem L2
section
variable{P:Program} {w:World} {K:vA} [A_ K] {mg:Str->Option Value} {base:Heap}
theorem QI:AU ["_law_row_here","_law_found_here"] ["_law_row_here"] (AL Ny):={}
theorem VC{f:Addr}{U:FuncData}(F:CL K "_law_needs" "_law_needs" Ny f U)(T:Txt mg)(i:Df P w K mg base "_law_comes" ["_law_row_here"] 1 Cs):Av P w K mg base CP 2 f U ["_law_row_here"] IA:=by
 refine F.oq QI fun Y A outer s H vs Q E X h=>?_
 ·obtain⟨r,b,c,D,p,rfl,R,q⟩:=h;have nd:=QI.nd;have hu:=An X;refine⟨_,(AD (Ac 1 nd (BB CH)) (AD (AX (AI (FR:Dg _ _ (OU K true)) (Bx K 0) (BB (AA AQ (AO AQ))) rfl) (AE (CK (D' PySem.F.plainAttrs_list PySem.F.slot_list_append PySem.F.type_list_append CI (pv 1) (AO (Bx K 0))))) AK) (AD (AX (AI (B':Dg _ _ (OU K false)) (Bx K 0) (BB (AA AQ (AA AQ (AO AQ)))) rfl) (AE (CK (D' PySem.F.plainAttrs_list PySem.F.slot_list_append PySem.F.type_list_append CI (pv 1) (AO (CN (r:=EF K) By (Al i X.mm (AO (pv 0))) AG (fun _ _=>rfl)))))) AK) (AD (AX (AI BO (Bx K 0) AQ (AM _)) (AE (CK (D' PySem.F.plainAttrs_list PySem.F.slot_list_append PySem.F.type_list_append CI (pv 1) (AO (Ai BH (Bx K 0) Ax (Au (Bw BM AG))))))) AK) (AE (AH (pv 1))))))),?_⟩;obtain⟨a,rest,rfl,u,Z⟩:=R.ex;refine⟨Nat.zero_le _,fun l hl=>?_⟩;have j:Nd H (upd H l (.lst [])) l [] []:=⟨AF.new hl,hl,AB,.nil⟩;dsimp only[Bm];refine NP (t:=KG _ _ _) (fun G=>∃n,Nd H G l n (nA b c)) (fun H1 ⟨n,k⟩=>?_) (fun d=>?_);rotate_left
  ·refine⟨_,rfl,a,_,0,.str b,rfl,rfl,Ah.of (j.same _ _ u),Ec,AR,fun g I=>?_⟩;have j:=j.up (AF.new (o:=.lst [.str "put",.str "lacks"]) I);have J:=j.same _ _ u;refine⟨g,_,rfl,.inl (Ay.of AB),rfl,rfl,_,rfl,?_⟩;refine bD (fun h=>?_) (fun h=>d _ ⟨[],by rw[Ip R.wd]at h;unfold nA;rw[h,if_neg Bool.false_ne_true];exact j⟩);rw[Ip R.wd]at h;refine⟨_,rfl,.inl ⟨rfl,_,Ay.of j.hl⟩,_,rfl,a,_,1,_,rfl,rfl,Ah.of J,Cy,l,_,_,rfl,rfl,j.hl,by decide,d _ ⟨[p],?_⟩⟩;unfold nA;rw[h,if_pos rfl];exact j.push (j.same _ _ R.hp)
  refine NP (t:=KG _ _ _) (fun G=>∃n,Nd H G l n (nA b c++nC b c D)) (fun H2 ⟨x,m⟩=>?_) (fun d=>?_);rotate_left
  ·have lA:(nA b c).length<=1:=by unfold nA;split<;>simp
   have lp:=k.tu.length;refine⟨_,rfl,a,_,0,.str b,rfl,rfl,Ah.of (k.same _ _ u),Ec,Cj,fun g I=>?_⟩;have k:=k.up (AF.new (o:=.lst [.str "put",.str "copy",.str "move"]) I);have fO:=k.same _ _ u;refine⟨g,_,rfl,.inl (Ay.of AB),rfl,rfl,_,rfl,?_⟩;refine Eg (fun h=>?_) (fun h=>d _ ⟨n,by unfold nC;rw[if_neg (by rw[show Cm (.str b) BY=false from h];exact Bool.false_ne_true),List.append_nil];exact k⟩);have h:Cm (.str b) BY=true:=h;refine⟨_,rfl,.inl ⟨rfl,_,Ay.of k.hl⟩,_,rfl,_,b,c,D,p,rfl,R.up k.same,fun v H3 L M=>?_⟩;unfold GD at M;rw[if_pos h]at M;obtain⟨t,h3,N,rfl,ht,hh,_⟩:=M;have y:=k.up L;refine⟨t,_,0,_,rfl,rfl,Ah.of ht,Ec,l,_,_,rfl,rfl,y.hl,Aw (by rw[List.length_map];omega),d _ ⟨n++[h3],?_⟩⟩;unfold nC;rw[if_pos h];exact y.push hh
  have B:=m.same _ _ u;have lA:(nA b c++nC b c D).length<=2:=by
   rw[List.length_append];unfold nA nC;split<;>split<;>simp
  have lp:=m.tu.length;refine⟨_,rfl,a,_,0,.str b,rfl,rfl,Ah.of B,Ec,rfl,_,rfl,?_⟩;refine Bs (fun h=>?_) (fun h=>⟨_,rfl,q l x H2 m.same hl m.hl (by rw[<-LB];unfold nB;rw[if_neg (fun z=>h (by rw[z];rfl)),List.append_nil];exact m.tu)⟩);have hw:b="lacks":=V.str.inj (of_decide_eq_true h);obtain⟨O,N,e⟩:∃O N,c=O++[N]:=⟨c.dropLast,c.getLast (R.nx (.inr (.inl hw))),(List.dropLast_concat_getLast _).symm⟩;refine⟨_,rfl,.inl ⟨rfl,_,Ay.of m.hl⟩,_,rfl,a,_,1,_,rfl,rfl,Ah.of B,Cy,_,rfl,_,rfl,p,_,rfl,m.same _ _ R.hp,fun p2 H3 L C=>?_⟩;have y:=m.up L;rw[e,BR]at C;refine⟨l,_,_,rfl,rfl,y.hl,Aw (by rw[List.length_map];omega),_,rfl,?_⟩;have S:=y.push C;refine q l (x++[p2]) _ S.same hl S.hl ?_;rw[<-LB];have eb:nB b c=[O]:=by unfold nB;rw[if_pos hw,e,List.dropLast_concat]
  rw[eb];exact S.tu
end
end BF
namespace BF
open PySem L2
section
variable{P:Program} {w:World} {K:vA} [A_ K] {mg:Str->Option Value} {base:Heap}
theorem Td:AU ["_law_row_here","_law_comes_here"] ["_law_row_here"] (AL Rj):={}
theorem YD{f:Addr}{J:FuncData}(F:CL K "_law_bars" "_law_bars" Rj f J)(T:Txt mg)(b:Df P w K mg base "_law_comes" ["_law_row_here"] 1 Cs):Av P w K mg base CP 2 f J ["_law_row_here"] LC:=by
 refine F.oq Td fun O A outer s H vs Q E L h=>?_
 ·obtain⟨r,c,g,u,p,rfl,R,q⟩:=h;have nd:=Td.nd;have hu:=An L;refine⟨_,(AD (AX (AI BO (Bx K 0) AQ (AM _)) (AE (AH (AW (AA (Ai BH (Bx K 0) Ax (Au (Bw BM AG))) (AO (CN (r:=EF K) By (Bx K 0) (Bw BM AG) (fun _ _=>rfl))))))) AK) (AD (Ac 1 nd (Al b L.mm (AO (pv 0)))) (AD (AX (PW.pt (pw_and (AI CG (pv 1) BA (AM _)) (pw_and1 (Ag (Aa Ao rfl T.isinstance AS (AA (Bx K 1) (AO (BG (v:=.ty "str") rfl T.str Hl rfl)))))))) (AE (AH (pv 1))) AK) (AE (AH BA))))),?_⟩;obtain⟨a,rest,rfl,y,S⟩:=R.ex;refine⟨_,rfl,a,_,0,.str c,rfl,rfl,Ah.of y,Ec,rfl,_,rfl,?_⟩;refine Bs (fun h=>?_) (fun h=>?_)
  ·have hw:c="lacks":=V.str.inj (of_decide_eq_true h);obtain⟨B,d,e⟩:∃B d,g=B++[d]:=⟨g.dropLast,g.getLast (R.nx (.inr (.inl hw))),(List.dropLast_concat_getLast _).symm⟩;have hp:=R.hp;rw[e]at hp;refine⟨_,rfl,a,_,1,_,rfl,rfl,Ah.of y,Cy,_,rfl,_,rfl,p,_,rfl,hp,fun U H2 C j=>?_⟩;rw[BR]at j;refine⟨_,rfl,a,_,1,_,rfl,rfl,Ah.of (C _ _ y),Cy,_,rfl,p,_,_,_,rfl,rfl,Ah.of (C _ _ hp),BW B d,AR,fun t l=>q _ _ (C.trans (AF.new l)) ?_⟩;unfold NW;rw[if_pos hw];exact⟨t,U,d,rfl,AB,by rw[e,List.dropLast_concat];exact AF.new l _ _ j,by rw[e];simp⟩
  have nw:¬c="lacks":=fun z=>h (by rw[z];rfl);refine⟨_,rfl,_,c,g,u,p,rfl,R,fun v M D o=>?_⟩;unfold GD at o;have no:∀(G:Hp),AF H G->¬(Cm (.str c) BY=true/\MT ((CT c g u).getLastD .As)=false)->Q .As G:=fun G sx n=>q _ _ sx (by unfold NW;rw[if_neg nw,if_neg n]);by_cases x:Cm (.str c) BY=true
  ·rw[if_pos x]at o;obtain⟨t,X,d,rfl,l,Y,I⟩:=o;have N:(CT c g u).getLastD .As=d:=by rw[List.getLastD_eq_getLast?,I];rfl
   have Z:Dc.Bi d:=by
    have m:d∈CT c g u:=List.mem_of_getLast? I;unfold CT at m;split at m
    ·exact R.sz _ m
    ·split at m
     ·exact GC R.sz _ m
     ·exact R.sx _ m
   refine⟨_,rfl,rfl,_,rfl,BL rfl ⟨_,rfl,t,_,1,_,rfl,rfl,Ah.of l,Cy,?_⟩⟩;rcases Z with⟨i,rfl⟩|⟨k,rfl,_⟩
   ·exact⟨_,"str","int",rfl,rfl,.int _,_,rfl,Ae (no M D (fun z=>by rw[N]at z;cases z.2))⟩
   ·refine⟨_,"str","str",rfl,rfl,.str _,_,rfl,Aj ⟨_,rfl,q _ _ D ?_⟩⟩;unfold NW;rw[if_neg nw,if_pos ⟨x,by rw[N];rfl⟩];exact⟨t,X,_,rfl,l,Y,I⟩
  ·rw[if_neg x]at o;subst o;exact⟨_,rfl,rfl,_,rfl,Af rfl (Ae (no M D fun z=>x z.1))⟩
end
end BF
namespace BF
open PySem L2
section
variable{P:Program} {w:World} {K:vA} [A_ K] {mg:Str->Option Value} {base:Heap}
theorem Mu:AU ["_law_one","_law_other"] ["_law_one","_law_other"] (AL LO):={}
theorem Rz{f:Addr}{r:FuncData}(F:CL K "_law_begins" "_law_begins" LO f r)(T:Txt mg):Av P w K mg base CP 1 f r ["_law_one","_law_other"] FY:=by
 refine F.oq Mu fun C A outer s H L Q E t h=>?_
 ·obtain⟨u,v,a,b,rfl,i,j,D,G,q⟩:=h;have nd:=Mu.nd;have M:=An t;refine⟨_,(AE (AH (Ci (Be CG (pv 0) BA (AM _)) (Ci (Be CG (pv 1) BA (AM _)) (DY (Be (Gx (BZ.CJ t)) (Ai BH (pv 1) Ax (Au (DS T.len (pv 0)))) (pv 0) (AM _))))))),?_⟩;have x:=AF.refl H;cases a with
  |none=>
   rw[show u=V.As from i];exact⟨_,rfl,rfl,_,rfl,Ae (q _ x)⟩
  |some d=>
   obtain⟨p,rfl,y⟩:=i;cases b with
   |none=>
    rw[show v=V.As from j];exact⟨_,rfl,rfl,_,rfl,Aj ⟨_,rfl,rfl,_,rfl,Ae (q _ x)⟩⟩
   |some g=>
    obtain⟨I,rfl,l⟩:=j;have m:=D d rfl;have n:=G g rfl;refine⟨_,rfl,rfl,_,rfl,Aj ⟨_,rfl,rfl,_,rfl,Aj ?_⟩⟩;refine⟨_,rfl,_,rfl,p,_,rfl,.inr (Ah.of y),_,rfl,I,g,rfl,l,fun J N B k=>?_⟩;rw[DO]at k;have e:BQ (g.take d.length) d=Bd (some d) (some g):=by
     show _=decide (d<+:g);by_cases c:d<+:g
     ·rw[decide_eq_true c,(pre_take m n).mpr c]
     ·rw[decide_eq_false c];exact Bool.eq_false_iff.mpr fun z=>c ((pre_take m n).mp z)
    refine⟨_,rfl,J,p,_,_,rfl,rfl,Ah.of k,Ah.of (B _ _ y),fun z o=>(n z (List.mem_of_mem_take o)).flat,(fun z o=>(m z o).flat),?_⟩;rw[e];exact q _ B
end
end BF
namespace BF
open PySem L2
section
variable{P:Program} {w:World} {K:vA} [A_ K] {mg:Str->Option Value} {base:Heap}
theorem QJ:AU ["_law_path","_law_row_here","_law_comes_here"] ["_law_path","_law_row_here"] (AL Nz):={}
theorem VD{f:Addr}{n:FuncData}(F:CL K "_law_within" "_law_within" Nz f n)(T:Txt mg)(c:Df P w K mg base "_law_comes" ["_law_row_here"] 1 Cs)(b:Df P w K mg base "_law_begins" ["_law_one","_law_other"] 1 FY):Av P w K mg base CP 2 f n ["_law_path","_law_row_here"] LH:=by
 refine F.oq QJ fun x A outer s H I Q E k h=>?_
 ·obtain⟨u,r,a,d,g,i,p,rfl,l,y,R,q⟩:=h;have nd:=QJ.nd;have J:=An k;refine⟨_,(AD (Ac 2 nd (Al c k.mm (AO (pv 1)))) (AE (AH (Ci (Be CG (pv 2) BA (AM _)) (DY (Al b k.mm (AA (pv 0) (AO (Bx K 2))))))))),?_⟩;refine⟨_,rfl,r,d,g,i,p,rfl,R,fun v L m j=>?_⟩;have z:=GK (w:=d) R.sx R.sz;unfold GD at j;have e:CZ d g i=if Cm (.str d) BY=true then some (CT d g i).dropLast else none:=rfl;by_cases o:Cm (.str d) BY=true
  ·rw[if_pos o]at j e;obtain⟨t,B,M,rfl,C,D,N⟩:=j;refine⟨_,rfl,rfl,_,rfl,Aj ⟨_,rfl,_,rfl,t,_,0,_,rfl,rfl,Ah.of C,Ec,_,_,a,CZ d g i,rfl,l.up m,?_,y,z,fun O G=>q _ (m.trans G)⟩⟩;rw[e];exact⟨B,rfl,D⟩
  ·rw[if_neg o]at j e;subst j;refine⟨_,rfl,rfl,_,rfl,Ae ?_⟩;have:Bd a (CZ d g i)=false:=by rw[e];cases a<;>rfl
   rw[<-this];exact q _ m
end
end BF
namespace BF
open PySem L2
section
variable{P:Program} {w:World} {K:vA} [A_ K] {mg:Str->Option Value} {base:Heap}
theorem Mw:AU ["_law_a","_law_b","_law_need","_law_barred"] ["_law_a","_law_b"] (AL LP):={}
theorem R_{f:Addr}{fd:FuncData}(F:CL K "_law_clash_of" "_law_clash_of" LP f fd)(T:Txt mg)(L:Df P w K mg base "_law_gone" ["_law_row_here"] 1 (Fh [.str "take",.str "change"]))(G:Df P w K mg base "_law_moved" ["_law_row_here"] 1 Ei)(u:Df P w K mg base "_law_reads" ["_law_row_here"] 1 (Fh [.str "ask",.str "copy"]))(M:Df P w K mg base "_law_needs" ["_law_row_here"] 2 IA)(C:Df P w K mg base "_law_bars" ["_law_row_here"] 2 LC)(y:Df P w K mg base "_law_begins" ["_law_one","_law_other"] 1 FY)(N:Df P w K mg base "_law_within" ["_law_path","_law_row_here"] 2 LH):Av P w K mg base CP 3 f fd ["_law_a","_law_b"] (DM FZ):=by
 refine F.oq Mw fun Ic A outer s H vs Q E D h=>?_
 ·obtain⟨r,d,xs,B,p,O,j,b,k,p2,rfl,R,R2,q⟩:=h;have nd:=Mw.nd;have hu:=An D;refine⟨_,(AD (VS (DB (Al M D.mm (AO (pv 1)))) (EZ 2 nd) (AD (AX (Ag (Al y D.mm (AA (Al L D.mm (AO (pv 0))) (AO (pv 2))))) (AE (AH Cz)) AK) (AD (Ac 3 nd (Al C D.mm (AO (pv 0)))) (AE (AX (PW.pt (pw_and (AI CG (pv 3) BA (AM _)) (pw_and1 (Ag (Al y D.mm (AA (AV Bf (Bx K 3) (AW (AO (Bx K 3)))) (AO (pv 2)))))))) (AE (AH Cz)) AK))))) (AD (AX (PW.pt (pw_or (Ag (Al y D.mm (AA (Al u D.mm (AO (pv 0))) (AO (Al L D.mm (AO (pv 1))))))) (pw_or1 (PW.pt (pw_and (AI CG (Al u D.mm (AO (pv 0))) BA (AM _)) (pw_and1 (Ag (Al N D.mm (AA (Al u D.mm (AO (pv 0))) (AO (pv 1))))))))))) (AE (AH Cz)) AK) (AD (AX (PW.pt (pw_and (Ag (Al y D.mm (AA (Al u D.mm (AO (pv 0))) (AO (Al G D.mm (AO (pv 1))))))) (pw_and1 (AI (Ky (BZ.CJ D)) (Al u D.mm (AO (pv 0))) (Al G D.mm (AO (pv 1))) (AM _))))) (AE (AH Cz)) AK) (AE (AH (Ci (Be CG (Al C D.mm (AO (pv 0))) BA (AM _)) (Ci (Be (XQ (BZ.units D):Dg _ _ dX) (Al C D.mm (AO (pv 0))) (Al C D.mm (AO (pv 1))) (AM _)) (DY (Be KI (Bx K 0) AQ (AM _)))))))))),?_⟩;refine⟨_,rfl,O,j,b,k,p2,rfl,R2,fun l ps H1 s1 nl hl tu=>?_⟩;have lp:=tu.length;have f:∀n:List V,(Bd (Bq d xs) (some n)||Bd (Cu d xs B) (some n))=(fun n=>Bd (Bq d xs) (some n)||Bd (Cu d xs B) (some n)) n:=fun _=>rfl;have hit:∀n∈BU j b k,(Bd (Bq d xs) (some n)||Bd (Cu d xs B) (some n))=true->∀m,AF H m->Q (.bl true) m:=fun n hn c m s=>by
   have:=q m s;unfold FZ at this;rw[List.any_eq_true.mpr ⟨n,hn,c⟩]at this;exact this
  refine⟨l,rfl,⟨_,Ay.of hl⟩,D_ (xs:=ps.map V.ref) (fun i σ Hi=>∃o2 o3:Option V,σ=[some r,some O,o2,o3]/\AF H1 Hi/\((BU j b k).take i).any (fun n=>Bd (Bq d xs) (some n)||Bd (Cu d xs B) (some n))=false)
   ⟨none,none,rfl,AF.refl _,rfl⟩ (fun i σ Hi _ ⟨_,_,_,si,_⟩=>Ay.of (si _ _ hl)) ?_ ?_⟩
  ·rintro i x σ Hi hx ⟨o2,o3,rfl,si,fi⟩;rw[List.getElem?_map]at hx;obtain⟨pj,tR,rfl⟩:=Option.map_eq_some_iff.mp hx;obtain⟨qj,ph,jv⟩:=tu.get tR;have mj:=u_ ph;have sj:=GF R2.sx R2.sz qj mj;have pw:=s1.trans si;refine⟨_,rfl,r,d,xs,B,p,rfl,R.up pw,fun H2 s2=>?_⟩;have s12:=pw.trans s2;have a1:=Iw (w:=d) (ws:=[.str "take",.str "change"]) (s12 _ _ R.hp);have eG:(if Cm (.str d) [.str "take",.str "change"]=true then some xs else none)=Bq d xs:=rfl;rw[eG]at a1;have p_:=s2 _ _ (si _ _ jv);refine⟨_,rfl,_,_,Bq d xs,some qj,rfl,a1,⟨pj,rfl,p_⟩,Ek R.sx,fun I e=>by cases e;exact sj,fun H3 s3=>⟨_,rfl,?_⟩⟩;have s13:=s12.trans s3;cases c1:Bd (Bq d xs) (some qj)with
   |true=>exact Aj (hit qj mj (by rw[c1];rfl) _ s13)
   |false=>
   refine Ae ⟨_,rfl,r,d,xs,B,p,rfl,R.up s13,fun v H4 Y br=>?_⟩;have s14:=s13.trans Y;have b1:=GL br;have done:Bd (Cu d xs B) (some qj)=false->∀m,AF H1 m->_:=fun c2 m s=>show∃o2 o3:Option V,[some r,some O,some (V.ref pj),some v]=[some r,some O,o2,o3]/\AF H1 m/\((BU j b k).take (i+1)).any (fun n=>Bd (Bq d xs) (some n)||Bd (Cu d xs B) (some n))=false from⟨_,_,rfl,s,by rw[List.take_add_one,ph,List.any_append,fi];simp[c1,c2]⟩;obtain⟨ob,Z⟩:∃ob,Cu d xs B=ob:=⟨_,rfl⟩;cases ob with
   |none=>
    rw[Z]at b1;rw[show v=V.As from b1]at done⊢;exact⟨_,rfl,rfl,_,rfl,Ae (Ae (done (by rw[Z];rfl) _ ((si.trans s2).trans (s3.trans Y))))⟩
   |some I=>
    have ly:=Pn Z R.lx R.lz;have sy:=Dv R.sx R.sz I Z;rw[Z]at b1;obtain⟨t,h3,lv,rfl,ht,hh,hg⟩:=b1;have tS:=EY hg;refine⟨_,rfl,rfl,_,rfl,Aj ?_⟩;refine⟨_,rfl,t,_,0,_,rfl,rfl,Ah.of ht,Ec,_,rfl,t,_,1,_,rfl,rfl,Ah.of ht,Cy,BI,fun g X_=>?_⟩;have sg:=AF.new (o:=.tup [lv]) X_;refine⟨h3,g,_,_,rfl,rfl,sg _ _ hh,AB,Ap (by simp;omega),fun g2 H5 s5 JG=>?_⟩;rw[<-tS]at JG;have s45:=sg.trans s5;refine⟨_,rfl,_,_,some I,some qj,rfl,⟨g2,rfl,JG⟩,⟨pj,rfl,(s3.trans (Y.trans s45)) _ _ p_⟩,(fun us e=>by cases e;exact sy),fun I e=>by cases e;exact sj,fun H6 s6=>⟨_,rfl,?_⟩⟩;have s16:=s14.trans (s45.trans s6);cases c2:Bd (some I) (some qj)with
    |true=>exact Aj (hit qj mj (by rw[Z,c2,Bool.or_true]) _ s16)
    |false=>exact Ae (done (by rw[Z];exact c2) _ (((si.trans s2).trans (s3.trans Y)).trans (s45.trans s6)))
  rintro σ Hi ⟨o2,o3,rfl,si,fi⟩;rw[List.length_map,lp,List.take_length]at fi;have q:∀m,AF H m->Q (.bl (Du d xs B j b k||Br d xs B j b k)) m:=fun m s=>by
   have:=q m s;unfold FZ at this;rw[fi]at this;exact this
  clear hit f;have S:=s1.trans si;have aR:∀m,AF H m->DX m (if Cm (.str d) [.str "ask",.str "copy"]=true then .ref p else .As) (Az d xs):=fun m s=>Iw (s _ _ R.hp);have aG:∀m,AF H m->DX m (if Cm (.str j) [.str "take",.str "change"]=true then .ref p2 else .As) (Bq j b):=fun m s=>Iw (s _ _ R2.hp);have aM:∀m,AF H m->DX m (if decide (V.str j=.str "move")=true then .ref p2 else .As) (Aq j b):=fun m s=>EX (s _ _ R2.hp);have sR:=IG (w:=d) R.sx;have sM:=Ce (w:=j) R2.sx;have eS:Du d xs B j b k=(Bd (Az d xs) (Bq j b)||Bd (Az d xs) (CZ j b k)||(Bd (Az d xs) (Aq j b)&& !decide (Az d xs=Aq j b))):=rfl;have fin:Bd (Az d xs) (Bq j b)=false->Bd (Az d xs) (CZ j b k)=false->(Bd (Az d xs) (Aq j b)&& !decide (Az d xs=Aq j b))=false->∀m,AF H m->Q (.bl (Br d xs B j b k)) m:=fun c1 c2 c3 m s=>by
   have:=q m s;rw[eS,c1,c2,c3]at this;exact this
  have hit:(Bd (Az d xs) (Bq j b)||Bd (Az d xs) (CZ j b k)||(Bd (Az d xs) (Aq j b)&& !decide (Az d xs=Aq j b)))=true->∀m,AF H m->Q (.bl true) m:=fun c m s=>by
   have:=q m s;rw[eS,c]at this;exact this
  dsimp only;refine Co (fun U m=>U=[some r,some O,o2,o3]/\AF H m/\Bd (Az d xs) (Bq j b)=false/\Bd (Az d xs) (CZ j b k)=false) ?_ ?_;rotate_left
  ·intro X;refine⟨_,rfl,r,d,xs,B,p,rfl,R.up S,fun H2 s2=>⟨_,rfl,O,j,b,k,p2,rfl,(R2.up S).up s2,fun H3 s3=>?_⟩⟩;have S3:=S.trans (s2.trans s3);refine⟨_,_,Az d xs,Bq j b,rfl,aR _ S3,aG _ S3,sR,Ek R2.sx,fun H4 Y=>⟨_,rfl,?_⟩⟩;have J:=S3.trans Y;cases c1:Bd (Az d xs) (Bq j b)with
   |true=>exact Aj (Aj (hit (by rw[c1];rfl) _ J))
   |false=>
   refine Ae ⟨_,rfl,r,d,xs,B,p,rfl,R.up J,fun H5 s5=>⟨rfl,_,rfl,?_⟩⟩;have S5:=J.trans s5;obtain⟨oR,eR⟩:∃oR,Az d xs=oR:=⟨_,rfl⟩;have a5:=aR _ S5;cases oR with
   |none=>
    rw[eR]at a5;have ev:=show(if Cm (.str d) [.str "ask",.str "copy"]=true then V.ref p else V.As)=.As from a5;rw[ev];exact Ae (Ae (X _ _ ⟨rfl,S5,c1,by rw[eR];rfl⟩))
   |some I=>
    rw[eR]at a5;obtain⟨p5,ev,h5⟩:=a5;rw[ev];refine Aj ⟨_,rfl,r,d,xs,B,p,rfl,R.up S5,fun H6 s6=>?_⟩;have S6:=S5.trans s6;refine⟨_,rfl,_,O,Az d xs,j,b,k,p2,rfl,aR _ S6,sR,R2.up S6,fun H7 s7=>⟨_,rfl,?_⟩⟩;cases c2:Bd (Az d xs) (CZ j b k)with
    |true=>exact Aj (hit (by rw[c1,c2];rfl) _ (S6.trans s7))
    |false=>exact Ae (X _ _ ⟨rfl,S6.trans s7,c1,c2⟩)
  rintro U H2 ⟨rfl,S2,c1,c2⟩;refine Co (fun U m=>U=[some r,some O,o2,o3]/\AF H m/\(Bd (Az d xs) (Aq j b)&& !decide (Az d xs=Aq j b))=false) ?_ ?_;rotate_left
  ·intro X;refine⟨_,rfl,r,d,xs,B,p,rfl,R.up S2,fun H3 s3=>⟨_,rfl,O,j,b,k,p2,rfl,(R2.up S2).up s3,?_⟩⟩;have S3:=S2.trans s3;refine⟨_,_,Az d xs,Aq j b,rfl,aR _ S3,aM _ S3,sR,sM,fun H4 Y=>⟨_,rfl,?_⟩⟩;have J:=S3.trans Y;cases c3:Bd (Az d xs) (Aq j b)with
   |false=>exact Ae (Ae (X _ _ ⟨rfl,J,by rw[c3];rfl⟩))
   |true=>
    refine Aj ⟨_,rfl,r,d,xs,B,p,rfl,R.up J,fun H5 s5=>⟨_,rfl,O,j,b,k,p2,rfl,(R2.up J).up s5,?_⟩⟩;have S5:=J.trans s5;have a5:=aR _ S5;have m5:=aM _ S5;obtain⟨oR,eR⟩:∃oR,Az d xs=oR:=⟨_,rfl⟩;obtain⟨oM,eM⟩:∃oM,Aq j b=oM:=⟨_,rfl⟩;rw[eR,eM]at c3;cases oR with
    |none=>cases c3
    |some I=>
    cases oM with
    |none=>cases c3
    |some us=>
     rw[eR]at a5;rw[eM]at m5;obtain⟨p5,e5,h5⟩:=a5;obtain⟨p6,e6,h6⟩:=m5;have sy:=sR I eR;have su:=sM us eM;have ee:BQ I us=decide ((some I:Option (List V))=some us):=by
      by_cases c:I=us
      ·rw[decide_eq_true (by rw[c]),(Bk sy su).mpr c]
      ·rw[decide_eq_false (by simpa using c)];exact Bool.eq_false_iff.mpr fun z=>c ((Bk sy su).mp z)
     rw[e5,e6];refine⟨p5,p6,I,us,rfl,rfl,Ah.of h5,Ah.of h6,(fun z hz=>(sy z hz).flat),(fun z hz=>(su z hz).flat),_,rfl,?_⟩;rw[ee];cases c4:decide ((some I:Option (List V))=some us)with
     |true=>exact Ae (X _ _ ⟨rfl,S5,by rw[eR,eM,c4,Bool.not_true,Bool.and_false]⟩)
     |false=>exact Aj (hit (by rw[eR,eM,c3,c4];simp) _ S5)
  rintro U H3 ⟨rfl,S3,c3⟩;have q:=fin c1 c2 c3;clear fin hit;have eB:Br d xs B j b k=(!decide (d="lacks")&&(Cu d xs B).isSome&&decide (Cu d xs B=Cu j b k)):=rfl;rw[eB]at q;refine⟨_,rfl,r,d,xs,B,p,rfl,R.up S3,fun v H4 Y br=>⟨rfl,_,rfl,?_⟩⟩;have J:=S3.trans Y;have b1:=GL br;have nb:(!decide (v=V.As))=(Cu d xs B).isSome:=by
   cases Z:Cu d xs B with
   |none=>rw[Z]at b1;rw[show v=V.As from b1];rfl
   |some I=>rw[Z]at b1;obtain⟨t,h3,lv,rfl,_⟩:=b1;rfl
  rw[nb];cases c1:(Cu d xs B).isSome with
  |false=>
   have:=q H4 J;rw[c1,Bool.and_false,Bool.false_and]at this;exact Ae this
  |true=>
   rw[c1,Bool.and_true]at q;refine Aj ⟨_,rfl,r,d,xs,B,p,rfl,R.up J,fun v1 H5 s5 tT=>⟨_,rfl,O,j,b,k,p2,rfl,(R2.up J).up s5,fun v2 H6 s6 tU=>?_⟩⟩;have S6:=J.trans (s5.trans s6);refine⟨_,_,(GL tT).up s6,GL tU,Dv R.sx R.sz,Dv R2.sx R2.sz,_,rfl,?_⟩;have q6:=q _ S6;cases c5:decide (Cu d xs B=Cu j b k)with
   |false=>rw[c5,Bool.and_false]at q6;exact Ae q6
   |true=>
    rw[c5,Bool.and_true]at q6;obtain⟨a,rest,er,ha,_⟩:=R.ex;refine Aj ⟨_,rfl,a,_,0,.str d,er,rfl,Ah.of (S6 _ _ ha),Ec,rfl,?_⟩;have ed:decide (V.str d=V.str "lacks")=decide (d="lacks"):=by
     by_cases c:d="lacks"
     ·rw[decide_eq_true c,decide_eq_true (by rw[c])]
     ·rw[decide_eq_false c,decide_eq_false (by simpa using c)]
    rw[ed];exact q6
end
end BF
namespace BF
open PySem L2
section
variable{P:Program} {w:World} {K:vA} [A_ K] {mg:Str->Option Value} {base:Heap}
theorem LU:AU ["_law_a","_law_b"] ["_law_a","_law_b"] (AL JD):={}
theorem QK{f:Addr}{fd:FuncData}(F:CL K "_law_clashes" "_law_clashes" JD f fd)(T:Txt mg)(b:Df P w K mg base "_law_moved" ["_law_row_here"] 1 Ei)(l:Df P w K mg base "_law_within" ["_law_path","_law_row_here"] 2 LH)(j:Df P w K mg base "_law_clash_of" ["_law_a","_law_b"] 3 (DM FZ)):Av P w K mg base CP 4 f fd ["_law_a","_law_b"] (DM CV):=by
 refine F.oq LU fun Ic A outer s H vs Q E t h=>?_
 ·obtain⟨r,g,k,o,p,B,i,a,d,v,rfl,R,R2,q⟩:=h;have nd:=LU.nd;have hu:=An t;refine⟨_,(AD (AX (PW.pt (pw_or (Ag (Al j t.mm (AA (pv 0) (AO (pv 1))))) (pw_or1 (Ag (Al j t.mm (AA (pv 1) (AO (pv 0)))))))) (AE (AH Cz)) AK) (AD (AX (PW.pt (pw_or (AI Fq (Al b t.mm (AO (pv 0))) BA (AM _)) (pw_or1 (AI Fq (Al b t.mm (AO (pv 1))) BA (AM _))))) (AE (AH Cz)) AK) (AD (AX (AI (Gx (BZ.CJ t)) (Al b t.mm (AO (pv 0))) (Al b t.mm (AO (pv 1))) (AM _)) (AE (AH Cz)) AK) (AE (AH (Ci (Al l t.mm (AA (Al b t.mm (AO (pv 0))) (AO (pv 1)))) (DY (Al l t.mm (AA (Al b t.mm (AO (pv 1))) (AO (pv 0))))))))))),?_⟩;have q0:=q;rw[Us]at q;have aA:∀m,AF H m->DX m (if decide (V.str g=.str "move")=true then .ref p else .As) (Aq g k):=fun m s=>EX (s _ _ R.hp);have aB:∀m,AF H m->DX m (if decide (V.str i=.str "move")=true then .ref v else .As) (Aq i a):=fun m s=>EX (s _ _ R2.hp);have sA:=Ce (w:=g) R.sx;have sB:=Ce (w:=i) R2.sx;dsimp only;refine Co (fun C m=>C=[some r,some B]/\AF H m/\∀m,AF H m->Q (.bl (Nk g k o i a d)) m) ?_ ?_;rotate_left
  ·intro L;refine⟨_,rfl,_,rfl,r,g,k,o,p,B,i,a,d,v,rfl,R,R2,fun H1 D=>⟨_,rfl,?_⟩⟩;cases c1:FZ g k o i a d with
   |true=>
    have:=q H1 D;rw[c1]at this;exact Aj (Aj this)
   |false=>
   refine Ae ⟨_,rfl,_,rfl,B,i,a,d,v,r,g,k,o,p,rfl,R2.up D,R.up D,fun H2 s2=>⟨_,rfl,?_⟩⟩;have n:=D.trans s2;cases c2:FZ i a d g k o with
   |true=>
    have:=q H2 n;rw[c1,c2]at this;exact Aj this
   |false=>
    rw[c1,c2]at q;exact Ae (L _ _ ⟨rfl,n,q⟩)
  rintro C H2 ⟨rfl,n,q⟩;have eM:Nk g k o i a d=(((Aq g k).isSome&&decide (Aq g k=Aq i a))||(Bd (Aq g k) (CZ i a d)&&Bd (Aq i a) (CZ g k o))):=rfl;rw[eM]at q;obtain⟨M,N⟩:∃M,Aq g k=M:=⟨_,rfl⟩;obtain⟨O,S⟩:∃O,Aq i a=O:=⟨_,rfl⟩;rw[N,S]at q;have a2:=aA _ n;rw[N]at a2;refine⟨_,rfl,r,g,k,o,p,rfl,R.up n,rfl,_,rfl,?_⟩;cases M with
  |none=>
   rw[show(if decide (V.str g=.str "move")=true then V.ref p else .As)=.As from a2];refine Aj (Aj ?_);have:=q _ n;have U:Bd none (CZ i a d)=false:=rfl;rw[U]at this;exact this
  |some u=>
  obtain⟨p5,X,h5⟩:=a2;rw[X];have Y:=aB _ n;rw[S]at Y;refine Ae ⟨_,rfl,B,i,a,d,v,rfl,R2.up n,rfl,_,rfl,?_⟩;cases O with
  |none=>
   rw[show(if decide (V.str i=.str "move")=true then V.ref v else .As)=.As from Y];refine Aj ?_;have:=q _ n;have U:Bd none (CZ g k o)=false:=rfl;rw[U,Bool.and_false]at this;exact this
  |some x=>
  obtain⟨p6,Z,h6⟩:=Y;rw[Z];refine Ae ⟨_,rfl,r,g,k,o,p,rfl,R.up n,_,rfl,B,i,a,d,v,rfl,R2.up n,?_⟩;rw[X,Z];have G:=sA u N;have I:=sB x S;have ee:BQ u x=decide ((some u:Option (List V))=some x):=by
   by_cases c:u=x
   ·rw[decide_eq_true (by rw[c]),(Bk G I).mpr c]
   ·rw[decide_eq_false (by simpa using c)];exact Bool.eq_false_iff.mpr fun z=>c ((Bk G I).mp z)
  refine⟨p5,p6,u,x,rfl,rfl,Ah.of h5,Ah.of h6,(fun z hz=>(G z hz).flat),(fun z hz=>(I z hz).flat),_,rfl,?_⟩;rw[ee];cases c4:decide ((some u:Option (List V))=some x)with
  |true=>
   have:=q _ n;rw[c4]at this;exact Aj this
  |false=>
  rw[c4]at q;refine Ae ⟨_,rfl,r,g,k,o,p,rfl,R.up n,?_⟩;rw[X];have q:∀m,AF H m->Q (.bl (Bd (some u) (CZ i a d)&&Bd (some x) (CZ g k o))) m:=q;refine⟨_,rfl,_,B,some u,i,a,d,v,rfl,⟨p5,rfl,h5⟩,(fun y e=>by cases e;exact G),R2.up n,fun H3 s3=>⟨_,rfl,?_⟩⟩;have J:=n.trans s3;cases c5:Bd (some u) (CZ i a d)with
  |false=>
   have:=q _ J;rw[c5]at this;exact Ae this
  |true=>
  rw[c5]at q;refine Aj ⟨_,rfl,B,i,a,d,v,rfl,R2.up J,?_⟩;rw[Z];exact⟨_,rfl,_,r,some x,g,k,o,p,rfl,⟨p6,rfl,s3 _ _ h6⟩,(fun y e=>by cases e;exact I),R.up J,fun H4 s4=>q _ (J.trans s4)⟩
end
end BF
namespace BF
open PySem L2
section
variable{P:Program} {w:World} {K:vA} [A_ K] {mg:Str->Option Value} {base:Heap}
theorem YE:AU ["_law_cell_here","_law_one","_law_doc_here","_law_names_here","_law_holder","_law_some","_law_path","_law_slots_here"] ["_law_cell_here","_law_one","_law_doc_here","_law_names_here"] (AL Xh):={}
theorem aP{f:Addr}{fd:FuncData}(F:CL K "_law_into" "_law_into" Xh f fd)(T:Txt mg)(QG:Df P w K mg base "_law_done" ["_law_doc_here","_law_row_here"] 18 Jz)(JH:Df P w K mg base "_law_slots" ["_law_doc_here","_law_names_here"] 19 GP)(l:Df P w K mg base "_law_picked" ["_law_some","_law_cell_here","_law_k"] 2 (GG K))(aQ:Df P w K mg base "_law_row" ["_law_cell_here","_law_doc_here","_law_names_here"] 20 JA)(G:Df P w K mg base "_law_comes" ["_law_row_here"] 1 Cs):Av P w K mg base CP 21 f fd ["_law_cell_here","_law_one","_law_doc_here","_law_names_here"] (JB iE):=by
 refine F.oq YE fun Ic A outer s H vs Q E I h=>?_
 ·obtain⟨c,r,d,n,ys,w0,xs,zs,p,rfl,hg,R,jB,bT,mv,QW,Bb,hsz,hn,ln,ny,q⟩:=h;have nd:=YE.nd;have hu:=An I;refine⟨_,(AD (IX (i:=4) nd rfl (Or.inr rfl) (CN (r:=EF K) By (Al G I.mm (AO (pv 1))) AG (fun _ _=>rfl))) (AD (FU (i:=5) (fv:=["_law_holder","_law_one"]) (fs:=[4,1]) rfl (.of (by rfl)) nd rfl (Or.inl rfl) (DZ rfl T.range (AO (Aa (FT:CW _ _ (DN K)) rfl T.len PySem.boot_len (AO (pv 4))))) (fun C s0 H0 fp=>Hb (AI (Ky (BZ.CJ I):Dg _ _ (PV K)) (Ai BH (Bx K 2) Ax (Au (AV Bc (pv 0) AG))) (Ai BH (pv 1) Ax (Au (AV Bc (pv 0) AG))) (AM _))) (fun C s0 H0 fp=>(Ai BH (pv 1) Ax (Au (AV Bc (pv 0) AG))))) (AD (AX (AI (Kh (BZ.CJ I)) (pv 5) (BB CH) (AM _)) (AE (AH (Al aQ I.mm (AA (pv 0) (AA (pv 2) (AO (pv 3))))))) AK) (AD (IX (i:=6) nd rfl (Or.inr rfl) (Al l I.mm (AA (pv 5) (AA (pv 0) (AO AG))))) (AD (Ac 7 nd (Al JH I.mm (AA (Al QG I.mm (AA (pv 2) (AO (AW (AA AQ (AO (pv 6))))))) (AO (pv 3))))) (AD (FU (i:=7) (fv:=["_law_one","_law_path"]) (fs:=[1,6]) rfl (.of (by rfl)) nd rfl (Or.inl rfl) (DB (pv 7)) (fun C s0 H0 fp=>Hb (AI (Gx (BZ.CJ I):Dg _ _ (O' K)) (Ai BH (CN (r:=EF K) By (Al G I.mm (AO (AW (AA AQ (AA (pv 2) (AO (pv 0))))))) AG (fun _ _=>rfl)) Ax (Au (Aa (FT:CW _ _ (DN K)) rfl T.len PySem.boot_len (AO (Bx K 1))))) (Bx K 1) (AM _))) (fun C s0 H0 fp=>(pv 0))) (AD (AX (AI (Kh (BZ.CJ I)) (pv 7) (BB CH) (AM _)) (AE (AH (Al aQ I.mm (AA (pv 0) (AA (pv 2) (AO (pv 3))))))) AK) (AE (AH (AW (AA AQ (AA (pv 6) (AO (Al l I.mm (AA (pv 7) (AA (pv 0) (AO AG))))))))))))))))),?_⟩;have hw:w0="move":=hg;subst hw;have N:=R.rx.rw;obtain⟨⟨uo,lo,eo,xo,jw,jx,nW,jC⟩,eh,O⟩:=mv rfl;obtain⟨a,rest,rfl,ha,_,_⟩:=R.ho;have hp:=N.hp;have sx:=N.sx;have st:=CU (w:="move") N.sx N.sz;have S:∀H',AF H H'->JA [.int c,d.val,.ref n] H' Q E0:=fun H' s=>⟨c,d,n,ys,rfl,Dc.Ab s QW,Bb,hsz,s _ _ hn,by omega,by omega,ny,fun r' w' jy jz p' H2 s2 R' _ _ _=>q _ _ _ _ _ _ (s.trans s2) R'⟩;refine⟨_,rfl,_,"move",xs,zs,p,rfl,N,fun v H1 s1 cm=>?_⟩;have cm:EH H1 v (CT "move" xs zs):=by
   unfold GD at cm;rw[if_pos (by decide)]at cm;exact cm
  obtain⟨t,h3,lv,rfl,ht,hh,qA⟩:=cm;have nX:steps (CT "move" xs zs).dropLast:=fun z j=>st z (List.dropLast_subset _ j);have tV:=(Dc.Fz Bb O).2.1;have qB:=Dc.NX O (by omega);generalize(CT "move" xs zs).dropLast=u at hh O nX tV qB;refine⟨t,_,0,_,rfl,rfl,Ah.of ht,Ec,?_⟩;dsimp only[Bm];have fO:=s1 _ _ ha;have TU:=s1 _ _ hp;refine⟨_,rfl,h3,_,rfl,.inr (Ah.of hh),_,rfl,by omega,by omega,?_⟩;have en:((u.length:Int)).toNat=u.length:=Int.toNat_natCast _;rw[en];refine Ju u.length (fun i=>.int (0+(i:Int))) (fun D i k=>AF H1 k/\∃ps:List Addr,k D=some (.lst (ps.map V.ref))/\ps.length<=i/\∀q∈ps,∃m,m<u.length/\k q=some (.tup (u.take (m+1)))) (fun D hD=>⟨AF.new hD,[],AB,Nat.le_refl _,fun z j=>nomatch j⟩) (fun D i H3 hi _=>hi) (fun D i H3 v H' hi _ y=>⟨y.2,y.1⟩) (fun D H3 _=>Nat.le_refl _) (fun D i k hD hi ⟨sj,ps,J,tW,U⟩=>?_) (fun D k hD ⟨sj,ps,J,tW,U⟩=>?_)
  ·have ei:(0+(i:Int))+1=((i+1:Nat):Int):=by omega
   refine⟨_,rfl,a,_,1,_,rfl,rfl,Ah.of (sj _ _ fO),Cy,_,rfl,_,_,rfl,rfl,_,rfl,p,xs,rfl,sj _ _ TU,fun g1 H2 s2 B=>?_⟩;rw[ei,DO]at B;have j_:=s2 _ _ (sj _ _ hh);refine⟨_,rfl,_,rfl,_,_,rfl,rfl,_,rfl,h3,u,rfl,j_,fun g2 H3 s3 JG=>?_⟩;rw[ei,DO]at JG;have s23:=s2.trans s3;refine⟨g1,g2,_,_,rfl,rfl,Ah.of (s3 _ _ B),Ah.of JG,(fun z j=>(sx z (List.mem_of_mem_take j)).flat),(fun z j=>(nX z (List.mem_of_mem_take j)).flat),_,rfl,?_⟩;refine MS (fun _=>?_) (fun _=>⟨sj.trans s23,ps,s23 _ _ J,by omega,fun q hq=>?_⟩)
   ·refine⟨_,rfl,_,rfl,_,_,rfl,rfl,_,rfl,h3,u,rfl,s3 _ _ j_,fun g3 H4 s4 L=>?_⟩;rw[ei,DO]at L;have X:=s23.trans s4;have nD:∀{z:Addr}{b:List V},H4 z=some (.tup b)->z≠D:=fun h=>Es h (X _ _ J) (by intro z;cases z);refine⟨_,X _ _ J,Aw (by simp;omega),(sj.trans X).put hD,ps++[g3],by rw[AB,List.map_append];rfl,by simp;omega,fun z j=>?_⟩;rcases List.mem_append.mp j with j|j
    ·obtain⟨m,f1,f2⟩:=U z j;exact⟨m,f1,by rw[AN (nD (X _ _ f2))];exact X _ _ f2⟩
    ·rw[List.mem_singleton.mp j];exact⟨i,hi,by rw[AN (nD L)];exact L⟩
   ·obtain⟨m,f1,f2⟩:=U q hq;exact⟨m,f1,s23 _ _ f2⟩
  have Sj:=s1.trans sj;dsimp only;refine⟨_,rfl,Nat.zero_le _,fun z j=>⟨D,z,_,rfl,rfl,Ay.of (AF.new j _ _ J),Ay.of AB,_,rfl,?_⟩⟩;have tz:=AF.new (o:=.lst []) j;have Y:=tz _ _ J;have jD:∀q∈ps,∃m,m<u.length/\upd k z (.lst []) q=some (.tup (u.take (m+1))):=fun q hq=>by
   obtain⟨m,f1,f2⟩:=U q hq;exact⟨m,f1,tz _ _ f2⟩
  have S2:=Sj.trans tz;generalize upd k z (.lst [])=H2 at Y jD S2⊢;clear U J tz;cases ps with
  |nil=>exact Aj ⟨_,rfl,_,rfl,_,rfl,S _ S2⟩
  |cons p0 pr=>
  refine Ae ⟨_,rfl,_,rfl,D,_,c,1,rfl,Ay.of Y,by simp,by decide,fun v hv=>?_⟩;obtain⟨g,B,rfl⟩:=List.mem_map.mp hv;obtain⟨m,hm,hg⟩:=jD g B;have tX:u.take (m+1)++u.drop (m+1)=u:=List.take_append_drop _ _;rw[<-tX]at O;obtain⟨x1,qC⟩:=Dc.TJ O;have Z:steps (u.take (m+1)):=fun z j=>nX z (List.mem_of_mem_take j);have nY:low (u.take (m+1)):=fun z j=>qB z (List.mem_of_mem_take j);have kA:u.take (m+1)≠[]:=by
   intro z;rcases List.take_eq_nil_iff.mp z with z|z
   ·cases z
   ·rw[z]at hm;exact absurd hm (Nat.not_lt_zero _)
  have nZ:(u.take (m+1)).length<=20:=by rw[List.length_take];omega
  generalize u.take (m+1)=pt at hg qC Z nY kA nZ;obtain⟨b,ng,ez⟩:∃b ng,pt=b++[ng]:=⟨pt.dropLast,pt.getLast kA,(List.dropLast_concat_getLast _).symm⟩;have qF:=qC;rw[ez]at qF;obtain⟨e2,YZ,Zb⟩:=Dc.Kx qF;dsimp only[Bm];refine⟨_,rfl,_,rfl,AR,fun a0 nU=>?_⟩;have s7:=AF.new (o:=.tup [.str "take",.ref g]) nU;refine⟨d,a0,g,b,ng,e2,x1,rfl,Dc.Ab (S2.trans s7) QW,Bb,hsz,AB,by rw[<-ez];exact s7 _ _ hg,by rw[<-ez];exact Z,YZ,Zb,fun d' H8 s8 eF iy pY iz=>?_⟩;have s78:=s7.trans s8;refine⟨_,rfl,d',n,ys,rfl,eF,iy,by omega,s78 _ _ (S2 _ _ hn),by omega,ny,fun l2 M H9 s9 aN pZ S9 _=>?_⟩;have s79:=s78.trans s9;have T9:=S2.trans s79;have qG:=s79 _ _ hg;refine⟨_,rfl,l2,rfl,⟨_,Ay.of aN⟩,Ju M.length (fun i=>M.getD i .As) (fun D i k=>AF H9 k/\∃b:List V,k D=some (.lst b)/\b.length<=i/\∀v∈b,v∈M) (fun D hD=>⟨AF.new hD,[],AB,Nat.le_refl _,fun z j=>nomatch j⟩) (fun D i k hi ⟨s,_⟩=>⟨_,_,Ay.of (s _ _ aN),ux hi⟩) (fun D i k v H' hi ⟨s,_⟩ y=>?_) (fun D k ⟨s,_⟩=>⟨_,Ay.of (s _ _ aN),Nat.le_refl _⟩) (fun D i k hD hi ⟨s,b,J,nP,m'⟩=>?_) (fun D k hD ⟨s,b,J,nP,m'⟩=>?_)⟩
  ·obtain⟨e,y⟩:=y;refine⟨?_,e⟩;rw[List.getD_eq_getElem?_getD,y _ (Ay.of (s _ _ aN))];rfl
  ·have gi:M[i]?=some (M.getD i .As):=by rw[List.getD_eq_getElem?_getD,ux hi];rfl
   have mi:=u_ gi;obtain⟨sp,kB,ex,eJ,Zy,jE,Yb,eK,_⟩:=S9 _ mi;rw[ex]at mi⊢;have eI:=T9.trans s;refine⟨_,rfl,_,rfl,Cj,fun a1 h1=>?_⟩;have t1:=AF.new (o:=.tup [.str "move",.ref g,.ref sp]) h1;have Rm:=(Mk (AB (H:=k) (a:=a1) (o:=.tup [.str "move",.ref g,.ref sp])) (t1 _ _ (s _ _ qG)) (t1 _ _ (s _ _ eJ)) (.inr rfl) Z nZ (.of nY) (fun _=>kA) Zy Yb (.of eK) jE).rx.rw;refine⟨_,"move",pt,kB,g,rfl,Rm,fun v2 gY s11 jF=>?_⟩;have jF:EH gY v2 (CT "move" pt kB):=by
    unfold GD at jF;rw[if_pos (by decide)]at jF;exact jF
   obtain⟨t2,h4,mS,rfl,du,j_,_⟩:=jF;have x:=eI.trans (t1.trans s11);have tY:=CU (w:="move") Z Zy;refine⟨t2,_,0,_,rfl,rfl,Ah.of du,Ec,_,rfl,a,_,1,_,rfl,rfl,Ah.of (x _ _ ha),Cy,p,_,rfl,.inr (Ah.of (x _ _ hp)),_,rfl,h4,_,rfl,j_,fun g1 nh s12 B=>?_⟩;rw[DO]at B;have kD:=(t1.trans s11).trans s12;refine⟨_,rfl,a,_,1,_,rfl,rfl,Ah.of ((x.trans s12) _ _ ha),Cy,g1,p,_,_,rfl,rfl,Ah.of B,Ah.of ((x.trans s12) _ _ hp),(fun z j=>(tY z (List.dropLast_subset _ (List.mem_of_mem_take j))).flat),(fun z j=>(sx z j).flat),_,rfl,?_⟩;refine MS (fun _=>⟨_,rfl,b,kD _ _ J,Aw (by omega),(s.trans kD).put hD,b++[.ref sp],AB,by simp;omega,fun v hv=>?_⟩) (fun _=>⟨s.trans kD,b,kD _ _ J,by omega,m'⟩);rcases List.mem_append.mp hv with hv|hv
   ·exact m' v hv
   ·rw[List.mem_singleton.mp hv];exact mi
  have eI:=T9.trans s;refine⟨_,rfl,Nat.zero_le _,fun z j=>⟨D,z,_,rfl,rfl,Ay.of (AF.new j _ _ J),Ay.of AB,_,rfl,?_⟩⟩;have tz:=AF.new (o:=.lst []) j;have Y:=tz _ _ J;have L:=tz _ _ (s _ _ qG);have qH:DR d' ys (upd k z (.lst [])) M:=S9.up fun q xs h=>tz _ _ (s _ _ h);have x:=eI.trans tz;generalize upd k z (.lst [])=nh at Y L qH x⊢;cases b with
  |nil=>exact Aj ⟨_,rfl,_,rfl,_,rfl,S _ x⟩
  |cons v0 vr=>
  refine Ae ⟨_,rfl,_,rfl,_,rfl,D,_,c,2,rfl,Ay.of Y,by simp,by decide,fun v hv=>⟨Cj,fun a1 h1=>?_⟩⟩;obtain⟨sp,kB,rfl,eJ,Zy,jE,Yb,eK,_⟩:=qH v (m' v hv);have sa:=AF.new (o:=.tup [.str "move",.ref g,.ref sp]) h1;exact q _ _ _ _ _ _ (x.trans sa) (Mk AB (sa _ _ L) (sa _ _ eJ) (.inr rfl) Z nZ (.of nY) (fun _=>kA) Zy Yb (.of eK) jE)
end
end BF
namespace BF
open PySem L2
section
variable{P:Program} {w:World} {K:vA} [A_ K] {mg:Str->Option Value} {base:Heap}
theorem Mx:AU ["_law_cell_here","_law_one","_law_doc_here","_law_names_here","_law_path","_law_part_here","_law_slots_here"] ["_law_cell_here","_law_one","_law_doc_here","_law_names_here"] (AL LQ):={}
theorem SA{f:Addr}{fd:FuncData}(F:CL K "_law_reading" "_law_reading" LQ f fd)(T:Txt mg)(u:Df P w K mg base "_law_mix" ["_law_cell_here","_law_k"] 1 F_)(i:Df P w K mg base "_law_found" ["_law_doc_here","_law_path"] 1 GI)(j:Df P w K mg base "_law_slots" ["_law_doc_here","_law_names_here"] 19 GP)(g:Df P w K mg base "_law_picked" ["_law_some","_law_cell_here","_law_k"] 2 (GG K)):Av P w K mg base CP 20 f fd ["_law_cell_here","_law_one","_law_doc_here","_law_names_here"] (JB Zv):=by
 refine F.oq Mx fun Ic A outer s H Z Q E B h=>?_
 ·obtain⟨c,r,d,n,ys,w0,x,zs,p,rfl,hg,R,jB,bT,mv,C,J,hsz,hn,ln,ny,q⟩:=h;have nd:=Mx.nd;have hu:=An B;refine⟨_,(AD (Ac 4 nd (Ai BH (Bx K 1) Ax (Au (AV BD (Al u B.mm (AA (pv 0) (AO AG))) (AV Bc (DS T.len (Bx K 1)) AG))))) (AD (Ac 5 nd (Al i B.mm (AA (pv 2) (AO (pv 4))))) (AD (Ac 6 nd (Al j B.mm (AA (pv 2) (AO (pv 3))))) (AD (AX (PW.pt (pw_or (AI Fq (pv 5) BA (AM _)) (pw_or1 (AI (Kh (BZ.CJ B)) (pv 6) (BB CH) (AM _))))) (AE (AH (AW (AA AQ (AO (pv 4)))))) AK) (AD (AX (AI BO (AV BD (Al u B.mm (AA (pv 0) (AO AG))) AG) AG (AM _)) (AE (AH (AW (AA AQ (AA (pv 4) (AO (pv 5))))))) AK) (AE (AH (AW (AA AQ (AA (pv 4) (AO (Al g B.mm (AA (pv 6) (AA (pv 0) (AO AG))))))))))))))),?_⟩;have L:=R.rx.rw;obtain⟨a,rest,rfl,ha,_,_⟩:=R.ho;have hp:=L.hp;have sx:=L.sx;refine⟨_,rfl,a,_,1,_,rfl,rfl,Ah.of ha,Cy,_,rfl,c,1,rfl,by decide,fun r0 h0 _=>?_⟩;refine⟨_,rfl,a,_,1,_,rfl,rfl,Ah.of ha,Cy,p,_,rfl,.inr (Ah.of hp),_,_,rfl,rfl,_,_,rfl,rfl,(by show(0:Int)<_;omega),_,rfl,p,x,rfl,hp,fun U H1 V b=>?_⟩;have er:r0 % ((x.length:Int)+1)=((r0 % ((x.length:Int)+1)).toNat:Int):=(Int.toNat_of_nonneg (Int.emod_nonneg _ (by omega))).symm;rw[er,DO]at b;generalize(r0 % ((x.length:Int)+1)).toNat=m at b;have M:steps (x.take m):=fun z I=>sx z (List.mem_of_mem_take I);have lo:low (x.take m):=fun z I=>jB z (List.mem_of_mem_take I);have X:(x.take m).length<=20:=by rw[List.length_take];have:=R.lx;omega
  generalize x.take m=us at b M lo X;refine⟨_,rfl,_,rfl,d,U,us,rfl,Dc.Ab V C,b,M,?_⟩;refine⟨_,rfl,_,rfl,d,n,ys,rfl,Dc.Ab V C,J,hsz,V _ _ hn,by omega,ny,fun l Z H2 s2 hl lv S2 _=>?_⟩;have k:=V.trans s2;have N:∀Y,AF H2 Y->∀t,Y t=some (.tup [.str "has",.ref U])->Q (.ref t) Y:=fun Y s t h=>q _ _ _ _ _ _ (k.trans s) (Fb h ((s2.trans s) _ _ b) M X (.of lo) (by decide) fun z=>absurd rfl z);dsimp only[Bm];refine⟨_,rfl,rfl,_,rfl,?_⟩;cases es:d.sub us with
  |none=>exact Aj (Aj ⟨_,rfl,AR,fun t D=>N _ (AF.new D) t AB⟩)
  |some e=>
  have P:=Dc.CB.sub es;have O:=P.at_ (Dc.Ab k C);have vn:decide (RF (some e)=.As)=false:=Dc.ZX O;refine Af vn ⟨_,rfl,Nat.zero_le _,fun z I=>⟨l,z,Z,rfl,rfl,Ay.of (AF.new I _ _ hl),Ay.of AB,_,rfl,?_⟩⟩;have y:=AF.new (o:=.lst []) I;generalize upd H2 z (.lst [])=H3 at y⊢;cases Z with
  |nil=>exact Aj ⟨_,rfl,AR,fun t D=>N _ (y.trans (AF.new D)) t AB⟩
  |cons v0 vr=>
  refine Ae ⟨_,rfl,c,4,rfl,by decide,fun r1 _ _=>⟨_,_,rfl,rfl,(by show(0:Int)<_;decide),rfl,_,rfl,?_⟩⟩;have S:=y _ _ (s2 _ _ b);refine Bs (fun _=>?_) (fun _=>?_)
  ·refine⟨_,rfl,_,rfl,Cj,fun t D=>?_⟩;have G:=AF.new (o:=.tup [.str "ask",.ref U,e.val]) D;exact q _ _ _ _ _ _ ((k.trans y).trans G) (dY AB (G _ _ S) M X (.of lo) (Dc.Ab (y.trans G) O) (P.ok J) (by have:=P.size;omega))
  ·refine⟨_,rfl,_,rfl,_,rfl,l,_,c,2,rfl,Ay.of (y _ _ hl),by simp,by decide,fun v hv=>⟨Cj,fun t D=>?_⟩⟩;obtain⟨sp,um,rfl,eJ,tZ,m_,oX,eK,_⟩:=S2 v hv;have G:=AF.new (o:=.tup [.str "copy",.ref U,.ref sp]) D;exact q _ _ _ _ _ _ ((k.trans y).trans G) (Mk AB (G _ _ S) (G _ _ (y _ _ eJ)) (.inl rfl) M X (.of lo) (fun h=>absurd h (by decide)) tZ oX (.of eK) m_)
end
end BF
namespace BF
open PySem L2
section
variable{P:Program} {w:World} {K:vA} [A_ K] {mg:Str->Option Value} {base:Heap}
theorem QL:AU ["_law_cell_here","_law_one","_law_names_here","_law_comes_here","_law_path","_law_holder","_law_name","_law_step","_law_some"] ["_law_cell_here","_law_one","_law_names_here"] (AL N_):={}
theorem VE{f:Addr}{fd:FuncData}(F:CL K "_law_unlike" "_law_unlike" N_ f fd)(T:Txt mg)(j:Df P w K mg base "_law_mix" ["_law_cell_here","_law_k"] 1 F_)(SD:Df P w K mg base "_law_comes" ["_law_row_here"] 1 Cs):Av P w K mg base CP 3 f fd ["_law_cell_here","_law_one","_law_names_here"] Pu:=by
 refine F.oq QL fun Ic A outer s H b Q E hr h=>?_
 ·obtain⟨c,r,n,ys,w0,xs,zs,p,rfl,R,jB,bT,hn,ln,ny,q⟩:=h;have nd:=QL.nd;have hu:=An hr;refine⟨_,(AD (Ac 3 nd (Al SD hr.mm (AO (pv 1)))) (AD (Ac 4 nd (Bx K 1)) (AD (AX (AI CG (pv 3) BA (AM _)) (AE (Ac 4 nd (AV Bf (Bx K 3) (AW (AO (Bx K 3)))))) AK) (AD (AX (AI (Gx (BZ.CJ hr)) (pv 4) (AW CH) (AM _)) (AE (AH (AW (AA AQ (AO (AW (AO (AV BD (Al j hr.mm (AA (pv 0) (AO AG))) AG)))))))) AK) (AD (Ac 5 nd (Ai BH (pv 4) Ax (Au (Bw BM AG)))) (AD (Ac 6 nd (LI K (pv 2) (AV BD (Al j hr.mm (AA (pv 0) (AO AG))) AG))) (AD (AX (Ag (Aa Ao rfl T.isinstance AS (AA (CN (r:=EF K) By (pv 4) (Bw BM AG) (fun _ _=>rfl)) (AO (BG (v:=.ty "str") rfl T.str Hl rfl))))) (AD (Ac 7 nd (AV BD (Al j hr.mm (AA (pv 0) (AO AG))) AG)) (AE (AH (LI K (BB (AA (AW (AA AQ (AA (AV Bf (pv 5) (AW (AO (pv 7)))) (AO AG)))) (AA (AW (AA AQ (AO (AV Bf (pv 5) (AW (AO (pv 7))))))) (AO (AW (AA AQ (AO (AV Bf (pv 5) (AW (AO AG)))))))))) (AV BD (Al j hr.mm (AA (pv 0) (AO AG))) AG))))) AK) (AD (Ac 8 nd (BB (AA (AW (AA AQ (AA (AV Bf (pv 5) (AW (AO (pv 6)))) (AO AG)))) (AA (AW (AA AQ (AO (AV Bf (pv 5) (AW (AO (pv 6))))))) (AO (AW (AA AQ (AO (AV Bf (pv 5) (AW (AO (pv 6)))))))))))) (AE (AH (LI K (AV Vq (pv 8) (BB (AO (AW (AA AQ (AO (AV Bf (pv 5) (AW (AO (pv 6)))))))))) (AV BD (Al j hr.mm (AA (pv 0) (AO AG))) AG)))))))))))),?_⟩;have I:=R.rx.rw;obtain⟨a,rest,rfl,ha,_,_⟩:=R.ho;have hp:=I.hp;refine⟨_,rfl,_,w0,xs,zs,p,rfl,I,fun v H1 s1 cm=>?_⟩;dsimp only[Bm];refine⟨_,rfl,a,_,1,_,rfl,rfl,Ah.of (s1 _ _ ha),Cy,?_⟩;dsimp only;refine Co (fun σ' m=>∃(pp:Addr)(J:List V),σ'=[some (.int c),some (.ref a),some (.ref n),some v,some (.ref pp),none,none,none,none]/\AF H m/\m pp=some (.tup J)/\steps J/\J.length<=20/\Gg J) ?_ ?_;rotate_left
  ·intro G;refine⟨_,rfl,rfl,_,rfl,?_⟩;unfold GD at cm;by_cases hc:Cm (.str w0) BY=true
   ·rw[if_pos hc]at cm;obtain⟨t,h3,J,l,rfl,ht,hh,eu⟩:=cm.split;have su:=CU (w:=w0) I.sx I.sz;have lu:=XY (w:=w0) R.lx R.lz;have wu:=Pw (w:=w0) jB bT;rw[eu]at su lu wu;refine Aj ⟨_,rfl,t,_,0,_,rfl,rfl,Ah.of ht,Ec,_,rfl,t,_,1,_,rfl,rfl,Ah.of ht,Cy,BI,fun g X_=>?_⟩;have sg:=AF.new (o:=.tup [l]) X_;refine⟨h3,g,_,_,rfl,rfl,sg _ _ hh,AB,Ap (by simp at lu⊢;omega),fun g2 H2 s2 JG=>?_⟩;exact G _ _ ⟨g2,_,rfl,s1.trans (sg.trans s2),JG,su,lu,wu⟩
   ·rw[if_neg hc]at cm;subst cm;exact Ae (G _ _ ⟨p,xs,rfl,s1,s1 _ _ hp,I.sx,R.lx,.of jB⟩)
  rintro σ' H2 ⟨pp,J,rfl,S2,jn,su,lu,wu⟩;refine⟨_,rfl,Nat.zero_le _,fun z d=>?_⟩;have tz:=AF.new (o:=.tup []) d;refine⟨pp,z,J,[],rfl,rfl,Ah.of (tz _ _ jn),Ah.of AB,(fun z d=>(su z d).flat),(fun z d=>nomatch d),_,rfl,?_⟩;have S3:=S2.trans tz;have Ru:=tz _ _ jn;generalize upd H2 z (.tup [])=H3 at S3 Ru⊢;have ni:∀i:Int,0<=i->Dc.Bi (.int i):=fun i h=>.inl ⟨i.toNat,by rw[Int.toNat_of_nonneg h]⟩;by_cases c0:J=[]
  ·subst c0;refine Aj ⟨_,rfl,c,5,rfl,by decide,fun r0 h0 _=>⟨_,_,rfl,rfl,(by show(0:Int)<_;decide),BI,fun M h1=>⟨AR,fun a1 h2=>?_⟩⟩⟩;have t1:=AF.new (o:=.tup [.int (r0 % 2)]) h1;have t2:=AF.new (o:=.tup [.str "has",.ref M]) h2;have r2:0<=r0 % 2/\r0 % 2<2:=by omega
   exact q _ _ _ _ _ _ (S3.trans (t1.trans t2)) (Fb AB (t2 _ _ AB) (fun z d=>by rw[List.mem_singleton.mp d];exact ni _ r2.1) (by simp) (fun z d i e=>by rw[List.mem_singleton.mp d]at e;cases e;omega) (by decide) fun z=>absurd rfl z)
  refine Af (Bool.eq_false_iff.mpr fun z=>c0 ((Bk (ys:=[]) su (fun z d=>nomatch d)).mp z)) ?_;obtain⟨b,lv,rfl⟩:∃b lv,J=b++[lv]:=⟨J.dropLast,J.getLast c0,(List.dropLast_concat_getLast c0).symm⟩;refine⟨_,rfl,_,rfl,_,rfl,pp,_,rfl,Ru,fun D H4 s4 u=>?_⟩;rw[BR]at u;have S4:=S3.trans s4;have Xo:=s4 _ _ Ru;dsimp only[Bm];have sv:steps b:=fun z d=>su z (List.mem_append_left _ d);have wv:Gg b:=fun z d=>wu z (List.mem_append_left _ d);have uq:b.length+1<=20:=by simpa using lu
  refine⟨_,rfl,_,rfl,c,5,rfl,by decide,fun r0 h0 _=>⟨_,_,rfl,rfl,(by show(0:Int)<_;decide),?_⟩⟩;obtain⟨k6,e6,l6⟩:∃k6:Nat,r0 % 6=(k6:Int)/\k6<6:=⟨(r0 % 6).toNat,by omega,by omega⟩;obtain⟨N,qI⟩:∃N,ys[k6]?=some N:=⟨_,ux (by omega)⟩;rw[e6];have ti:=ny N (u_ qI);refine⟨n,_,_,.str N,rfl,rfl,Ay.of (S4 _ _ hn),BV (by rw[List.getElem?_map,qI];rfl),?_⟩;dsimp only[Bm];have qJ:∀z:V,Dc.Bi z->steps (b++[z]):=fun z d y O=>by
   rcases List.mem_append.mp O with O|O
   ·exact sv y O
   ·rw[List.mem_singleton.mp O];exact d
  have qK:∀z:V,(b++[z]).length<=20:=fun z=>by simp;omega
  have jG:∀z:V,(∀i:Int,z=.int i->i.natAbs<2000)->Gg (b++[z]):=fun z d y O=>by
   rcases List.mem_append.mp O with O|O
   ·exact wv y O
   ·rw[List.mem_singleton.mp O];exact d
  have qL:∀z:V,b++[z]≠[]:=fun z=>by simp
  have put:∀(z:V)(t g:Addr)(m:Hp),AF H m->m t=some (.tup [.str "put",.ref g,.int 7])->m g=some (.tup (b++[z]))->Dc.Bi z->(∀i:Int,z=.int i->i.natAbs<2000)->Q (.ref t) m:=fun z t g m s h1 h2 h3 h4=>q _ _ _ _ _ _ s (RV (v:=.leaf (.int 7)) h1 h2 (qJ z h3) (qK z) (jG z h4) (qL z) (XZ (H:=m)).1 (XZ (H:=m)).2.1 (by decide) (XZ (H:=m)).2.2);have two:∀(w:Str)(z:V)(t g:Addr)(m:Hp),AF H m->w∈(["take","has","lacks"]:List Str)->m t=some (.tup [.str w,.ref g])->m g=some (.tup (b++[z]))->Dc.Bi z->(∀i:Int,z=.int i->i.natAbs<2000)->Q (.ref t) m:=fun w z t g m s hw h1 h2 h3 h4=>q _ _ _ _ _ _ s (Fb h1 h2 (qJ z h3) (qK z) (jG z h4) hw fun _=>qL z);refine⟨_,rfl,_,rfl,pp,_,_,_,rfl,rfl,Ah.of Xo,BW b lv,?_⟩;rcases su lv (by simp)with⟨k,rfl⟩|⟨k,rfl,_⟩
  ·refine⟨_,"str","int",rfl,rfl,.int _,_,rfl,Ae ?_⟩;have g0:Dc.Bi (.str N):=.inr ⟨N,rfl,ti⟩;have g1:∀i:Int,V.str N=.int i->i.natAbs<2000:=fun i e=>nomatch e;have X1:=AF.refl H4;refine⟨_,rfl,_,rfl,BI,fun u1 n1=>?_⟩;have t1:=AF.new (o:=.tup [.str N]) n1;refine⟨D,u1,b,_,rfl,rfl,t1 _ _ (X1 _ _ u),AB,Ap (by simp;omega),fun M G1 s1 S=>⟨Cj,fun x m1=>?_⟩⟩;have w1:=AF.new (o:=.tup [.str "put",.ref M,.int 7]) m1;have U:upd G1 x (.tup [.str "put",.ref M,.int 7]) x=some (.tup [.str "put",.ref M,.int 7]):=AB;have X:=w1 _ _ S;have X2:=X1.trans ((t1.trans s1).trans w1);have Y1:=(t1.trans s1).trans w1;generalize upd G1 x (.tup [.str "put",.ref M,.int 7])=gY at w1 U X X2 Y1⊢;refine⟨_,rfl,_,rfl,BI,fun u2 n2=>?_⟩;have t2:=AF.new (o:=.tup [.str N]) n2;refine⟨D,u2,b,_,rfl,rfl,t2 _ _ (X2 _ _ u),AB,Ap (by simp;omega),fun p2 G2 s2 Y=>⟨AR,fun B m2=>?_⟩⟩;have w2:=AF.new (o:=.tup [.str "has",.ref p2]) m2;have Z:upd G2 B (.tup [.str "has",.ref p2]) B=some (.tup [.str "has",.ref p2]):=AB;have jH:=w2 _ _ Y;have X3:=X2.trans ((t2.trans s2).trans w2);have Y2:=(t2.trans s2).trans w2;generalize upd G2 B (.tup [.str "has",.ref p2])=nh at w2 Z jH X3 Y2⊢;refine⟨_,rfl,_,rfl,BI,fun u3 n3=>?_⟩;have t3:=AF.new (o:=.tup [.str N]) n3;refine⟨D,u3,b,_,rfl,rfl,t3 _ _ (X3 _ _ u),AB,Ap (by simp;omega),fun p3 G3 s3 eN=>⟨AR,fun C m3=>?_⟩⟩;have w3:=AF.new (o:=.tup [.str "lacks",.ref p3]) m3;have jI:upd G3 C (.tup [.str "lacks",.ref p3]) C=some (.tup [.str "lacks",.ref p3]):=AB;have jJ:=w3 _ _ eN;have X4:=X3.trans ((t3.trans s3).trans w3);have Y3:=(t3.trans s3).trans w3;generalize upd G3 C (.tup [.str "lacks",.ref p3])=kE at w3 jI jJ X4 Y3⊢;refine⟨Cj,fun L nL=>?_⟩;have tL:=AF.new (o:=.lst [.ref x,.ref B,.ref C]) nL;have fL:upd kE L (.lst [.ref x,.ref B,.ref C]) L=some (.lst [.ref x,.ref B,.ref C]):=AB;have X4:=X4.trans tL;generalize upd kE L (.lst [.ref x,.ref B,.ref C])=qM at tL fL X4⊢;dsimp only[Bm];refine⟨_,rfl,_,rfl,_,rfl,BI,fun u4 n4=>?_⟩;have t4:=AF.new (o:=.tup [.str N]) n4;refine⟨D,u4,b,_,rfl,rfl,t4 _ _ (X4 _ _ u),AB,Ap (by simp;omega),fun p4 G4 s4 nj=>⟨AR,fun b4 m4=>?_⟩⟩;have w4:=AF.new (o:=.tup [.str "take",.ref p4]) m4;have qN:upd G4 b4 (.tup [.str "take",.ref p4]) b4=some (.tup [.str "take",.ref p4]):=AB;have qO:=w4 _ _ nj;have X5:=X4.trans ((t4.trans s4).trans w4);have Y4:=(t4.trans s4).trans w4;generalize upd G4 b4 (.tup [.str "take",.ref p4])=qM at w4 qN qO X5 Y4⊢;refine⟨BI,fun L2 tj=>?_⟩;have qP:=AF.new (o:=.lst [.ref b4]) tj;refine⟨L,L2,_,_,rfl,rfl,(Y4.trans qP) _ _ fL,AB,Ap (show 3+1<=1000 by decide),fun L3 tm=>?_⟩;have tq:=AF.new (o:=.lst ([.ref x,.ref B,.ref C]++[.ref b4])) tm;refine⟨_,rfl,c,6,rfl,by decide,fun r3 h3 _=>⟨_,_,rfl,rfl,(by show(0:Int)<_;decide),?_⟩⟩;obtain⟨k4,e4,l4⟩:∃k4:Nat,r3 % 4=(k4:Int)/\k4<4:=⟨(r3 % 4).toNat,by omega,by omega⟩;rw[e4];have Z4:=qP.trans tq;have Z3:=(tL.trans Y4).trans Z4;have Z2:=Y3.trans Z3;have Z1:=Y2.trans Z2;have ZH:=S4.trans (X5.trans Z4);have G:∃v,([.ref x,.ref B,.ref C]++[.ref b4]:List V)[k4]?=some v/\Q v (upd (upd qM L2 (.lst [.ref b4])) L3 (.lst ([.ref x,.ref B,.ref C]++[.ref b4]))):=by
    rcases k4 with _|_|_|_|k4
    ·exact⟨_,rfl,put _ _ _ _ ZH (Z1 _ _ U) (Z1 _ _ X) g0 g1⟩
    ·exact⟨_,rfl,two _ _ _ _ _ ZH (by decide) (Z2 _ _ Z) (Z2 _ _ jH) g0 g1⟩
    ·exact⟨_,rfl,two _ _ _ _ _ ZH (by decide) (Z3 _ _ jI) (Z3 _ _ jJ) g0 g1⟩
    ·exact⟨_,rfl,two _ _ _ _ _ ZH (by decide) (Z4 _ _ qN) (Z4 _ _ qO) g0 g1⟩
    ·omega
   obtain⟨v9,nq,nr⟩:=G;exact⟨L3,_,_,v9,rfl,rfl,Ay.of AB,BV nq,nr⟩
  ·refine⟨_,"str","str",rfl,rfl,.str _,_,rfl,Aj ?_⟩;refine⟨_,rfl,c,5,rfl,by decide,fun r1 _ _=>⟨_,_,rfl,rfl,(by show(0:Int)<_;decide),?_⟩⟩;have r2:0<=r1 % 2/\r1 % 2<2:=by omega
   have g0:=ni _ r2.1;have g1:∀i:Int,V.int (r1 % 2)=.int i->i.natAbs<2000:=fun i e=>by cases e;omega
   dsimp only[Bm];have X1:=AF.refl H4;refine⟨_,rfl,_,rfl,BI,fun u1 n1=>?_⟩;have t1:=AF.new (o:=.tup [.int (r1 % 2)]) n1;refine⟨D,u1,b,_,rfl,rfl,t1 _ _ (X1 _ _ u),AB,Ap (by simp;omega),fun M G1 s1 S=>⟨Cj,fun x m1=>?_⟩⟩;have w1:=AF.new (o:=.tup [.str "put",.ref M,.int 7]) m1;have U:upd G1 x (.tup [.str "put",.ref M,.int 7]) x=some (.tup [.str "put",.ref M,.int 7]):=AB;have X:=w1 _ _ S;have X2:=X1.trans ((t1.trans s1).trans w1);have Y1:=(t1.trans s1).trans w1;generalize upd G1 x (.tup [.str "put",.ref M,.int 7])=gY at w1 U X X2 Y1⊢;refine⟨_,rfl,_,rfl,BI,fun u2 n2=>?_⟩;have t2:=AF.new (o:=.tup [.int (r1 % 2)]) n2;refine⟨D,u2,b,_,rfl,rfl,t2 _ _ (X2 _ _ u),AB,Ap (by simp;omega),fun p2 G2 s2 Y=>⟨AR,fun B m2=>?_⟩⟩;have w2:=AF.new (o:=.tup [.str "has",.ref p2]) m2;have Z:upd G2 B (.tup [.str "has",.ref p2]) B=some (.tup [.str "has",.ref p2]):=AB;have jH:=w2 _ _ Y;have X3:=X2.trans ((t2.trans s2).trans w2);have Y2:=(t2.trans s2).trans w2;generalize upd G2 B (.tup [.str "has",.ref p2])=nh at w2 Z jH X3 Y2⊢;refine⟨_,rfl,BI,fun u3 n3=>?_⟩;have t3:=AF.new (o:=.tup [.int 0]) n3;refine⟨D,u3,b,_,rfl,rfl,t3 _ _ (X3 _ _ u),AB,Ap (by simp;omega),fun p3 G3 s3 eN=>⟨AR,fun C m3=>?_⟩⟩;have w3:=AF.new (o:=.tup [.str "take",.ref p3]) m3;have jI:upd G3 C (.tup [.str "take",.ref p3]) C=some (.tup [.str "take",.ref p3]):=AB;have jJ:=w3 _ _ eN;have X4:=X3.trans ((t3.trans s3).trans w3);have Y3:=(t3.trans s3).trans w3;generalize upd G3 C (.tup [.str "take",.ref p3])=kE at w3 jI jJ X4 Y3⊢;refine⟨Cj,fun L nL=>?_⟩;have tL:=AF.new (o:=.lst [.ref x,.ref B,.ref C]) nL;refine⟨_,rfl,c,6,rfl,by decide,fun r3 h3 _=>⟨_,_,rfl,rfl,(by show(0:Int)<_;decide),?_⟩⟩;obtain⟨k4,e4,l4⟩:∃k4:Nat,r3 % 3=(k4:Int)/\k4<3:=⟨(r3 % 3).toNat,by omega,by omega⟩;rw[e4];have Z2:=Y3.trans tL;have Z1:=Y2.trans Z2;have ZH:=S4.trans (X4.trans tL);have G:∃v,([.ref x,.ref B,.ref C]:List V)[k4]?=some v/\Q v (upd kE L (.lst [.ref x,.ref B,.ref C])):=by
    rcases k4 with _|_|_|k4
    ·exact⟨_,rfl,put _ _ _ _ ZH (Z1 _ _ U) (Z1 _ _ X) g0 g1⟩
    ·exact⟨_,rfl,two _ _ _ _ _ ZH (by decide) (Z2 _ _ Z) (Z2 _ _ jH) g0 g1⟩
    ·exact⟨_,rfl,two _ _ _ _ _ ZH (by decide) (tL _ _ jI) (tL _ _ jJ) (ni 0 (by decide)) (fun i e=>by cases e;decide)⟩
    ·omega
   obtain⟨v9,nq,nr⟩:=G;exact⟨L,_,_,v9,rfl,rfl,Ay.of AB,BV nq,nr⟩
end
end BF
namespace BF
open PySem L2
section
variable{P:Program} {w:World} {K:vA} [A_ K] {mg:Str->Option Value} {base:Heap}
theorem QM:AU ["_law_cell_here","_law_one","_law_doc_here","_law_names_here","_law_way","_law_comes_here","_law_slots_here"] ["_law_cell_here","_law_one","_law_doc_here","_law_names_here"] (AL OA):={}
theorem VF{f:Addr}{fd:FuncData}(F:CL K "_law_beside" "_law_beside" OA f fd)(T:Txt mg)(S:Df P w K mg base "_law_mix" ["_law_cell_here","_law_k"] 1 F_)(QG:Df P w K mg base "_law_done" ["_law_doc_here","_law_row_here"] 18 Jz)(JH:Df P w K mg base "_law_slots" ["_law_doc_here","_law_names_here"] 19 GP)(OK:Df P w K mg base "_law_value" ["_law_cell_here","_law_names_here"] 3 IE)(U:Df P w K mg base "_law_picked" ["_law_some","_law_cell_here","_law_k"] 2 (GG K))(aQ:Df P w K mg base "_law_row" ["_law_cell_here","_law_doc_here","_law_names_here"] 20 JA)(SD:Df P w K mg base "_law_comes" ["_law_row_here"] 1 Cs)(jK:Df P w K mg base "_law_into" ["_law_cell_here","_law_one","_law_doc_here","_law_names_here"] 21 (JB iE))(D:Df P w K mg base "_law_reading" ["_law_cell_here","_law_one","_law_doc_here","_law_names_here"] 20 (JB Zv))(X:Df P w K mg base "_law_unlike" ["_law_cell_here","_law_one","_law_names_here"] 3 Pu):Av P w K mg base CP 22 f fd ["_law_cell_here","_law_one","_law_doc_here","_law_names_here"] (JB Zv):=by
 refine F.oq QM fun Ic A outer s H vs Q E y h=>?_
 ·obtain⟨c,r,d,n,ys,M,B,zs,p,rfl,hg,R,j,bT,mv,Y,Bb,hsz,hn,ln,ny,q⟩:=h;have nd:=QM.nd;have hu:=An y;refine⟨_,(AD (Ac 4 nd (AV BD (Al S y.mm (AA (pv 0) (AO AG))) AG)) (AD (Ac 5 nd (Al SD y.mm (AO (pv 1)))) (AD (AX (PW.pt (pw_and (AI BO (pv 4) AG (AM _)) (pw_and1 (AI CG (pv 5) BA (AM _))))) (AE (AH (AW (AA AQ (AA (AV Bf (Bx K 5) (AW (AO (Bx K 5)))) (AO (Al OK y.mm (AA (pv 0) (AO (pv 3)))))))))) AK) (AD (AX (PW.pt (pw_and (AI BO (pv 4) AG (AM _)) (pw_and1 (AI (Ky (BZ.CJ y)) (Bx K 1) (AW CH) (AM _))))) (AE (AH (AW (AA AQ (AO (Ai BH (Bx K 1) Ax (Au (AV Bc AG (AV BD (Al S y.mm (AA (pv 0) (AO AG))) (DS T.len (Bx K 1))))))))))) AK) (AD (AX (AI BO (pv 4) AG (AM _)) (AE (AH (AW (AA AQ (AO (Bx K 1)))))) AK) (AD (AX (PW.pt (pw_and (AI BO (pv 4) AG (AM _)) (pw_and1 (AI BO (Bx K 1) AQ (AM _))))) (AD (Ac 6 nd (Al JH y.mm (AA (Al QG y.mm (AA (pv 2) (AO (AW (AA AQ (AO (Bx K 1))))))) (AO (pv 3))))) (AE (AH (AW (AA AQ (AA (Bx K 1) (AO (Al U y.mm (AA (pv 6) (AA (pv 0) (AO AG))))))))))) AK) (AD (AX (PW.pt (pw_and (AI (B':Dg _ _ (OU K false)) (pv 4) (BB (AA AG (AO AG))) rfl) (pw_and1 (AI BO (Bx K 1) AQ (AM _))))) (AE (AH (Al jK y.mm (AA (pv 0) (AA (pv 1) (AA (pv 2) (AO (pv 3)))))))) AK) (AD (AX (AI BO (pv 4) AG (AM _)) (AE (AH (Al D y.mm (AA (pv 0) (AA (pv 1) (AA (pv 2) (AO (pv 3)))))))) AK) (AD (AX (AI BO (pv 4) AG (AM _)) (AE (AH (Al X y.mm (AA (pv 0) (AA (pv 1) (AO (pv 3))))))) AK) (AD (AX (PW.pt (pw_and (AI BO (pv 4) AG (AM _)) (pw_and (AI CG (pv 5) BA (AM _)) (pw_and1 (Ag (Aa Ao rfl T.isinstance AS (AA (Bx K 5) (AO (BG (v:=.ty "str") rfl T.str Hl rfl))))))))) (AE (AH (AW (AA (LI K (BB (AA AQ (AA AQ (AO AQ)))) (AV BD (Al S y.mm (AA (pv 0) (AO AG))) AG)) (AO (AV Bf (Bx K 5) (AW (AO (Bx K 5))))))))) AK) (AE (AH (Al aQ y.mm (AA (pv 0) (AA (pv 2) (AO (pv 3))))))))))))))))),?_⟩;have Z:=R.rx.rw;obtain⟨a,rest,rfl,ha,_,_⟩:=R.ho;have hp:=Z.hp;have sx:=Z.sx;refine⟨_,rfl,c,3,rfl,by decide,fun r0 h0 _=>⟨_,_,rfl,rfl,(by show(0:Int)<_;decide),?_⟩⟩;generalize r0 % 12=way;dsimp only[Bm];refine⟨_,rfl,_,M,B,zs,p,rfl,Z,fun v H1 G cm=>?_⟩;have su:=CU (w:=M) Z.sx Z.sz;have lu:=XY (w:=M) R.lx R.lz;have wu:=Pw (w:=M) j bT;have cm:v=.As∨∃(t h:Addr)(us:List V)(l:V),v=.ref t/\H1 t=some (.tup [.ref h,l])/\H1 h=some (.tup us)/\steps (us++[l])/\(us++[l]).length<=20/\Gg (us++[l]):=by
   unfold GD at cm;by_cases hc:Cm (.str M) BY=true
   ·rw[if_pos hc]at cm;obtain⟨t,h3,us,l,rfl,ht,hh,eu⟩:=cm.split;rw[eu]at su lu wu;exact .inr ⟨t,h3,us,l,rfl,ht,hh,su,lu,wu⟩
   ·rw[if_neg hc]at cm;exact .inl cm
  clear su lu wu;have I:=G _ _ ha;have TU:=G _ _ hp;have nu:=Dc.Ab G Y;have qQ:=G _ _ hn;dsimp only;refine Co (fun b C=>b=[some (.int c),some (.ref a),some d.val,some (.ref n),some (.int way),some v,none]/\AF H1 C) ?_ ?_;rotate_left
  ·intro e;refine⟨_,rfl,rfl,_,rfl,?_⟩;refine Bs (fun _=>⟨_,rfl,rfl,_,rfl,?_⟩) (fun _=>Ae (e _ _ ⟨rfl,AF.refl _⟩));rcases cm with rfl|⟨t,h3,us,l,rfl,ht,hh,su,lu,wu⟩
   ·exact Ae (e _ _ ⟨rfl,AF.refl _⟩)
   ·refine Aj ⟨_,rfl,t,_,0,_,rfl,rfl,Ah.of ht,Ec,_,rfl,t,_,1,_,rfl,rfl,Ah.of ht,Cy,BI,fun g X_=>?_⟩;have sg:=AF.new (o:=.tup [l]) X_;refine⟨h3,g,_,_,rfl,rfl,sg _ _ hh,AB,Ap (by simp at lu⊢;omega),fun g2 H2 s2 JG=>?_⟩;have s12:=G.trans (sg.trans s2);refine⟨_,rfl,_,rfl,c,n,ys,rfl,s12 _ _ hn,by omega,by omega,ny,fun d2 H7 s7 iu fR iv iw=>⟨Cj,fun a1 I=>?_⟩⟩;have i:=AF.new (o:=.tup [.str "put",.ref g2,d2.val]) I;exact q _ _ _ _ _ _ ((s12.trans s7).trans i) (RV AB (i _ _ (s7 _ _ JG)) su lu wu (by simp) (Dc.Ab i iu) fR iv iw)
  rintro b H2 ⟨rfl,s2⟩;refine Co (fun b C=>b=[some (.int c),some (.ref a),some d.val,some (.ref n),some (.int way),some v,none]/\AF H1 C) ?_ ?_;rotate_left
  ·intro e;refine⟨_,rfl,rfl,_,rfl,?_⟩;refine Bs (fun _=>?_) (fun _=>Ae (e _ _ ⟨rfl,s2⟩));refine⟨_,rfl,a,_,1,_,rfl,rfl,Ah.of (s2 _ _ I),Cy,Nat.zero_le _,fun z hz=>?_⟩;have tz:=AF.new (o:=.tup []) hz;have u:=s2.trans tz;refine⟨p,z,B,[],rfl,rfl,Ah.of (u _ _ TU),Ah.of AB,(fun z hz=>(sx z hz).flat),(fun z hz=>nomatch hz),_,rfl,?_⟩;generalize upd H2 z (.tup [])=H3 at u⊢;by_cases c0:B=[]
   ·subst c0;exact Ae (e _ _ ⟨rfl,u⟩)
   have lp:0<B.length:=List.length_pos_iff.mpr c0;refine BL (by rw[Bool.eq_false_iff.mpr fun z=>c0 ((Bk (ys:=[]) sx (fun z hz=>nomatch hz)).mp z)];rfl) ?_;have J:=u _ _ I;have Ru:=u _ _ TU;refine⟨_,rfl,a,_,1,_,rfl,rfl,Ah.of J,Cy,_,rfl,c,1,rfl,by decide,fun r1 h1 _=>?_⟩;refine⟨_,rfl,a,_,1,_,rfl,rfl,Ah.of J,Cy,p,_,rfl,.inr (Ah.of Ru),_,_,rfl,rfl,(by show(0:Int)<_;omega),_,_,rfl,rfl,_,rfl,p,B,rfl,Ru,fun p1 H4 s4 Xo=>⟨AR,fun a1 n1=>?_⟩⟩;have er:1+r1 % (B.length:Int)=(((r1 % (B.length:Int)).toNat+1:Nat):Int):=by
    have:=Int.emod_nonneg r1 (show(B.length:Int)≠0 by omega);omega
   rw[er,DO]at Xo;generalize(r1 % (B.length:Int)).toNat+1=m at Xo er;have nm:B.take m≠[]:=by
    intro z;rcases List.take_eq_nil_iff.mp z with z|z
    ·have:=Int.emod_nonneg r1 (show(B.length:Int)≠0 by omega);omega
    ·exact c0 z
   have i:=AF.new (o:=.tup [.str "take",.ref p1]) n1;exact q _ _ _ _ _ _ ((G.trans u).trans (s4.trans i)) (Fb AB (i _ _ Xo) (fun z hz=>sx z (List.mem_of_mem_take hz)) (by rw[List.length_take];have:=R.lx;omega) (.of fun z hz=>j z (List.mem_of_mem_take hz)) (by decide) fun _=>nm)
  rintro b H3 ⟨rfl,u⟩;have J:=u _ _ I;have Ru:=u _ _ TU;refine⟨_,rfl,rfl,_,rfl,Bs (fun _=>?_) (fun _=>?_)⟩
  ·refine⟨_,rfl,a,_,1,_,rfl,rfl,Ah.of J,Cy,AR,fun a1 n1=>?_⟩;have i:=AF.new (o:=.tup [.str "has",.ref p]) n1;exact q _ _ _ _ _ _ ((G.trans u).trans i) (Fb AB (i _ _ Ru) sx R.lx (.of j) (by decide) fun z=>absurd rfl z)
  dsimp only[Lu];refine Co (fun b C=>b=[some (.int c),some (.ref a),some d.val,some (.ref n),some (.int way),some v,none]/\AF H1 C) ?_ ?_;rotate_left
  ·intro e;refine⟨_,rfl,rfl,_,rfl,?_⟩;refine Bs (fun _=>?_) (fun _=>Ae (e _ _ ⟨rfl,u⟩));refine⟨_,rfl,a,_,0,.str M,rfl,rfl,Ah.of J,Ec,rfl,_,rfl,?_⟩;refine Bs (fun hw=>?_) (fun _=>e _ _ ⟨rfl,u⟩);have hw:M="move":=V.str.inj (of_decide_eq_true hw);subst hw;obtain⟨⟨uo,lo,eo,xo,jw,jx,nW,jC⟩,eh,ur⟩:=mv rfl;refine⟨_,rfl,_,rfl,a,_,1,_,rfl,rfl,Ah.of J,Cy,AR,fun a0 n0=>?_⟩;have s7:=AF.new (o:=.tup [.str "take",.ref p]) n0;refine⟨d,a0,p,uo,lo,eo,xo,rfl,Dc.Ab ((G.trans u).trans s7) Y,Bb,hsz,AB,by rw[<-jw];exact s7 _ _ Ru,by rw[<-jw];exact sx,jx,nW,fun d' H8 s8 eF iy pY iz=>?_⟩;have s78:=s7.trans s8;refine⟨_,rfl,d',n,ys,rfl,eF,iy,by omega,s78 _ _ (u _ _ qQ),by omega,ny,fun l2 ju H9 s9 aN pZ S9 tw=>?_⟩;have s79:=s78.trans s9;have T9:=(G.trans u).trans s79;have wd:=Dc.Fg d Y;have w1:(d.Cc uo (eo.Ck lo)).Wf:=Dc.Su wd jx (Dc.NS (Dc.NT wd jx) nW);have nn:=tw (jC.eqv w1 (Dc.Fg d' eF) iz);refine⟨_,rfl,a,_,1,_,rfl,rfl,Ah.of (T9 _ _ ha),Cy,_,rfl,_,rfl,l2,_,c,2,rfl,Ay.of aN,List.length_pos_iff.mpr nn,by decide,fun v hv=>⟨Cj,fun a1 h1=>?_⟩⟩;obtain⟨sp,kB,rfl,eJ,Zy,jE,Yb,eK,_⟩:=S9 v hv;have i:=AF.new (o:=.tup [.str "move",.ref p,.ref sp]) h1;exact q _ _ _ _ _ _ (T9.trans i) (Mk AB (i _ _ (T9 _ _ hp)) (i _ _ eJ) (.inr rfl) sx R.lx (.of j) (fun _=>by rw[jw];simp) Zy Yb (.of eK) jE)
  rintro b H4 ⟨rfl,s4⟩;refine Co (fun b C=>b=[some (.int c),some (.ref a),some d.val,some (.ref n),some (.int way),some v,none]/\AF H1 C) ?_ ?_;rotate_left
  ·intro e;refine⟨_,rfl,AR,fun g hg=>⟨g,_,rfl,.inl (Ay.of AB),rfl,rfl,_,rfl,?_⟩⟩;have sg:=AF.new (o:=.lst [.int 4,.int 5]) hg;have N:=s4.trans sg;generalize upd H4 g (.lst [.int 4,.int 5])=H5 at N⊢;refine Eg (fun _=>?_) (fun _=>Ae (e _ _ ⟨rfl,N⟩));refine⟨_,rfl,a,_,0,.str M,rfl,rfl,Ah.of (N _ _ I),Ec,rfl,_,rfl,?_⟩;refine Bs (fun hw=>?_) (fun _=>e _ _ ⟨rfl,N⟩);have hw:M="move":=V.str.inj (of_decide_eq_true hw);have O:=G.trans N;exact⟨_,rfl,_,rfl,_,rfl,_,rfl,c,_,d,n,ys,M,B,zs,p,rfl,hw,R.up O,j,bT,mv,Dc.Ab O Y,Bb,hsz,O _ _ hn,ln,ny,fun r' w' jy jz p' C s' R'=>q _ _ _ _ _ _ (O.trans s') R'⟩
  rintro b H5 ⟨rfl,N⟩;have O:=G.trans N;refine⟨_,rfl,rfl,_,rfl,Bs (fun _=>?_) (fun _=>?_)⟩
  ·exact⟨_,rfl,_,rfl,_,rfl,_,rfl,c,_,d,n,ys,M,B,zs,p,rfl,trivial,R.up O,j,bT,mv,Dc.Ab O Y,Bb,hsz,O _ _ hn,ln,ny,fun r' w' jy jz p' C s' R'=>q _ _ _ _ _ _ (O.trans s') R'⟩
  refine⟨_,rfl,rfl,_,rfl,Bs (fun _=>?_) (fun _=>?_)⟩
  ·exact⟨_,rfl,_,rfl,_,rfl,c,_,n,ys,M,B,zs,p,rfl,R.up O,j,bT,O _ _ hn,ln,ny,fun r' w' jy jz p' C s' R'=>q _ _ _ _ _ _ (O.trans s') R'⟩
  have x:∀C,AF H1 C->JA [.int c,d.val,.ref n] C Q E0:=fun C s=>⟨c,d,n,ys,rfl,Dc.Ab s nu,Bb,hsz,s _ _ qQ,by omega,by omega,ny,fun r' w' jy jz p' H2 s2 R' _ _ _=>q _ _ _ _ _ _ ((G.trans s).trans s2) R'⟩;refine⟨_,rfl,rfl,_,rfl,Bs (fun _=>⟨_,rfl,rfl,_,rfl,?_⟩) (fun _=>Ae ⟨_,rfl,_,rfl,_,rfl,x _ N⟩)⟩;rcases cm with rfl|⟨t,h3,us,l,rfl,ht,hh,su,lu,wu⟩
  ·exact Ae (Ae ⟨_,rfl,_,rfl,_,rfl,x _ N⟩)
  refine Aj ⟨_,rfl,t,_,1,_,rfl,rfl,Ah.of (N _ _ ht),Cy,?_⟩;rcases su l (by simp)with⟨k,rfl⟩|⟨k,rfl,_⟩
  ·exact⟨_,"str","int",rfl,rfl,.int _,_,rfl,Ae ⟨_,rfl,_,rfl,_,rfl,x _ N⟩⟩
  refine⟨_,"str","str",rfl,rfl,.str _,_,rfl,Aj ?_⟩;refine⟨Cj,fun L nL=>?_⟩;have tL:=AF.new (o:=.lst [.str "lacks",.str "has",.str "take"]) nL;have fL:upd H5 L (.lst [.str "lacks",.str "has",.str "take"]) L=some (.lst [.str "lacks",.str "has",.str "take"]):=AB;have s6:=N.trans tL;generalize upd H5 L (.lst [.str "lacks",.str "has",.str "take"])=H6 at fL s6⊢;refine⟨_,rfl,c,1,rfl,by decide,fun r3 h30 _=>⟨_,_,rfl,rfl,(by show(0:Int)<_;decide),?_⟩⟩;obtain⟨k4,e4,l4⟩:∃k4:Nat,r3 % 3=(k4:Int)/\k4<3:=⟨(r3 % 3).toNat,by omega,by omega⟩;rw[e4];obtain⟨w9,bM,t_⟩:∃w9:Str,([.str "lacks",.str "has",.str "take"]:List V)[k4]?=some (.str w9)/\w9∈(["take","has","lacks"]:List Str):=by
   rcases k4 with _|_|_|k4
   ·exact⟨_,rfl,by decide⟩
   ·exact⟨_,rfl,by decide⟩
   ·exact⟨_,rfl,by decide⟩
   ·omega
  refine⟨L,_,_,_,rfl,rfl,Ay.of fL,BV bM,?_⟩;refine⟨_,rfl,t,_,0,_,rfl,rfl,Ah.of (s6 _ _ ht),Ec,_,rfl,t,_,1,_,rfl,rfl,Ah.of (s6 _ _ ht),Cy,BI,fun g X_=>?_⟩;have sg:=AF.new (o:=.tup [.str k]) X_;refine⟨h3,g,_,_,rfl,rfl,sg _ _ (s6 _ _ hh),AB,Ap (by simp at lu⊢;omega),fun g2 H7 s7 JG=>⟨AR,fun a1 n1=>?_⟩⟩;have i:=AF.new (o:=.tup [.str w9,.ref g2]) n1;exact q _ _ _ _ _ _ ((G.trans s6).trans ((sg.trans s7).trans i)) (Fb AB (i _ _ JG) su lu wu t_ fun _=>by simp)
end
end BF
namespace BF
open PySem L2
section
variable{P:Program} {w:World} {K:vA} [A_ K] {mg:Str->Option Value} {base:Heap}
theorem YF:AU ["_law_script","_law_at","_law_doc_here","_law_names_here","_law_one"] ["_law_script","_law_at","_law_doc_here","_law_names_here"] (AL Xi):={}
theorem aS{f:Addr}{v:FuncData}(F:CL K "_law_pair" "_law_pair" Xi f v)(T:Txt mg)(b:Df P w K mg base "_law_cell" ["_law_script","_law_k"] 1 (NO K))(e:Df P w K mg base "_law_row" ["_law_cell_here","_law_doc_here","_law_names_here"] 20 JA)(c:Df P w K mg base "_law_beside" ["_law_cell_here","_law_one","_law_doc_here","_law_names_here"] 22 (JB Zv)):Av P w K mg base CP 23 f v ["_law_script","_law_at","_law_doc_here","_law_names_here"] (XX K):=by
 refine F.oq YF fun G A outer s H vs Q E g h=>?_
 ·obtain⟨a,x,k,d,n,y,rfl,z,i,j,l,B,I,C,q⟩:=h;have nd:=YF.nd;have hu:=An g;refine⟨_,(AD (Ac 4 nd (Al e g.mm (AA (Al b g.mm (AA (pv 0) (AO (pv 1)))) (AA (pv 2) (AO (pv 3)))))) (AE (AH (AW (AA (pv 4) (AO (Al c g.mm (AA (Al b g.mm (AA (pv 0) (AO (AV Bc (pv 1) AG)))) (AA (pv 4) (AA (pv 2) (AO (pv 3)))))))))))),?_⟩;refine⟨_,rfl,_,rfl,a,x,k,rfl,z,fun J _=>?_⟩;refine⟨_,rfl,_,rfl,J,d,n,y,rfl,i,j,l,B,by omega,by omega,C,fun r L M N p H1 m R O lz S=>?_⟩;dsimp only[Bm];refine⟨_,rfl,_,rfl,_,rfl,_,_,rfl,rfl,a,x,k+1,(by show[V.ref a,V.int ((k:Int)+1)]=_;simp),m.seq z,fun c1 _=>?_⟩;refine⟨_,rfl,_,rfl,_,rfl,c1,r,d,n,y,L,M,N,p,rfl,trivial,R,O,lz,S,Dc.Ab m i,j,l,m _ _ B,I,C,fun U w' X Y p' H2 D Z=>⟨AR,fun t nt=>?_⟩⟩;have u:=AF.new (o:=.tup [r,U]) nt;exact q _ _ _ _ _ _ _ _ _ _ _ _ ((m.trans D).trans u) AB ((R.up D).up u) (Z.up u)
end
end BF
namespace BF
open PySem L2
section
variable{P:Program} {w:World} {K:vA} [A_ K] {mg:Str->Option Value} {base:Heap}
theorem My:AU ["_law_one","_law_other","_law_first","e","_law_some"] ["_law_one","_law_other","_law_first"] (AL II):={}
theorem SE{c:Nat->Addr}{cB fC:Addr}{f:Addr}{fd:FuncData}(F:CL K "_law_refused" "_law_refused" II f fd)(T:Txt mg)(m:iA P w K mg base "over" ["one","other","first"] 10 (Nn c))(N:Nm mg c cB)(g:Kc K c cB fC):Av P w K mg base CP 11 f fd ["_law_one","_law_other","_law_first"] Mn:=by
 obtain⟨L,M,n,t,u,x⟩:=m.ex;refine F.oq My fun O A outer s H vs Q E S h=>?_
 ·obtain⟨r,w0,xs,zs,p,r2,w2,U,V,p2,fi,rfl,R,R2,cl,q⟩:=h;have nd:=My.nd;have hu:=An S;have k:BZ 10 _:=S.mm;have a:=g.rY;refine⟨_,(AD (Zo rfl rfl rfl x k rfl u n t (AA (pv 0) (AA (pv 1) (AO (pv 2)))) (Zn rfl N.RQ (g.Ie) nd (i:=3) rfl rfl (fun e=>(AD (Ac 4 nd (BB (AA (Aa (Ds a:CW _ _ (Pm K (c 6))) rfl T.isinstance AS (AA (pv 3) (AO (Dx (v:=.ref (c 2)) rfl N.iB rfl)))) (AA (Aa (Ds a:CW _ _ (Pm K (c 6))) rfl T.isinstance AS (AA (pv 3) (AO (Dx (v:=.ref (c 3)) rfl N.iC rfl)))) (AA (Aa (Ds a:CW _ _ (Pm K (c 6))) rfl T.isinstance AS (AA (pv 3) (AO (Dx (v:=.ref (c 4)) rfl N.Zp rfl)))) (AO (Aa (Ds a:CW _ _ (Pm K (c 6))) rfl T.isinstance AS (AA (pv 3) (AO (Dx (v:=.ref (c 0)) rfl N.dS rfl)))))))))) (AD (Ac 4 nd (AV Vq (pv 4) (BB (AA (Aa (Ds a:CW _ _ (Pm K (c 6))) rfl T.isinstance AS (AA (pv 3) (AO (Dx (v:=.ref (c 5)) rfl N.dV rfl)))) (AO (Aa (Ds a:CW _ _ (Pm K (c 6))) rfl T.isinstance AS (AA (pv 3) (AO (Dx (v:=.ref (c 1)) rfl N.dU rfl))))))))) (AE (AH (Ci (Aa (Ds a:CW _ _ (Pm K (c 6))) rfl T.isinstance AS (AA (pv 3) (AO (Dx (v:=.ref (c 6)) rfl N.bJ rfl)))) (Ci (Be (FR:Dg _ _ (OU K true)) Cz (pv 4) rfl) (DY (Be (cu (show(A.deeper (PyProof.Rows.envOfC "_law_refused" (AL II) s.heap.objs.size f O)).units<cLine from BZ.CJ S):Dg _ _ (gx K false)) (BB (AA (show PE _ _ (XO K _ _)from S' (pv 3) (by rfl)) (AO (show PE _ _ (XO K _ _)from S' (pv 3) (by rfl))))) (BB (AA AG (AO AG))) (AM _))))))))))
   dR))
   (AE (AH Cz))),?_⟩
  refine⟨_,rfl,_,rfl,_,rfl,r,w0,xs,zs,p,r2,w2,U,V,p2,fi,rfl,R,R2,cl,fun b H1 s1 X=>⟨c 6,rfl,g.ex,.hit g.sub fun d he=>?_⟩⟩;have t1:=AF.new (o:=Pl d (c 6) (some b)) he;have l:upd H1 d (Pl d (c 6) (some b)) d=some (Pl d (c 6) (some b)):=AB;have Y:=t1 _ _ X;have S2:=s1.trans t1;generalize upd H1 d (Pl d (c 6) (some b))=Z at l Y S2⊢;have y:∀H',AF Z H'->(some b=none∨∃B fs,some b=some B/\H' B=some (RM B fs)):=fun H' s=>.inr ⟨b,_,rfl,s _ _ Y⟩;have J:=AF.refl Z;refine⟨_,rfl,d,some b,_,_,_,rfl,l,y _ J,fun _ z=>z,g.one 2 (by decide),_,rfl,d,some b,_,_,_,rfl,l,y _ J,fun _ z=>z,g.one 3 (by decide),_,rfl,d,some b,_,_,_,rfl,l,y _ J,fun _ z=>z,g.one 4 (by decide),_,rfl,d,some b,_,_,_,rfl,l,y _ J,fun _ z=>z,g.one 0 (by decide),Ap (show 4<=1000 by decide),fun l1 h1=>?_⟩;have G:=AF.new (o:=.lst [.bl (2==6),.bl (3==6),.bl (4==6),.bl (0==6)]) h1;dsimp only[Bm];refine⟨_,rfl,_,rfl,d,some b,_,_,_,rfl,G _ _ l,y _ G,fun _ z=>z,g.one 5 (by decide),_,rfl,d,some b,_,_,_,rfl,G _ _ l,y _ G,fun _ z=>z,g.one 1 (by decide),AR,fun l2 h2=>?_⟩;have t3:=AF.new (o:=.lst [.bl (5==6),.bl (1==6)]) h2;refine⟨l1,l2,_,_,rfl,rfl,t3 _ _ AB,AB,Ap (show 4+2<=1000 by decide),fun l3 h3=>?_⟩;have t4:=AF.new (o:=.lst ([.bl (2==6),.bl (3==6),.bl (4==6),.bl (0==6)]++[.bl (5==6),.bl (1==6)])) h3;have j:=(G.trans t3).trans t4;refine⟨_,rfl,d,some b,_,_,_,rfl,j _ _ l,y _ j,fun _ z=>z,g.one 6 (by decide),_,rfl,BL rfl ⟨_,rfl,l3,_,rfl,.inl (Ay.of AB),rfl,rfl,?_⟩⟩;have S5:=S2.trans j;have C:=j _ _ l;have D:=j _ _ Y;generalize upd (upd (upd Z l1 (.lst [.bl (2==6),.bl (3==6),.bl (4==6),.bl (0==6)])) l2 (.lst [.bl (5==6),.bl (1==6)])) l3 (.lst ([.bl (2==6),.bl (3==6),.bl (4==6),.bl (0==6)]++[.bl (5==6),.bl (1==6)]))=H5 at S5 C D⊢;refine⟨_,rfl,BL (by decide) ?_⟩;refine⟨_,rfl,d,c 6,b,_,0,rfl,C,D,rfl,g.gk,_,rfl,d,c 6,b,_,0,rfl,C,D,rfl,g.rg,AR,fun l4 n4=>?_⟩;have t5:=AF.new (o:=.lst [.int 0,.int 0]) n4;refine⟨AR,fun l5 n5=>?_⟩;have t6:=AF.new (o:=.lst [.int 0,.int 0]) n5;refine⟨l4,l5,_,_,rfl,rfl,Ay.of (t6 _ _ AB),Ay.of AB,?_,?_,?_⟩
  ·intro z I;simp only[List.mem_cons,List.not_mem_nil,or_false,or_self]at I;rw[I];rfl
  ·intro z I;simp only[List.mem_cons,List.not_mem_nil,or_false,or_self]at I;rw[I];rfl
  exact q _ (S5.trans (t5.trans t6))
end
end BF
namespace BF
open PySem L2
section
variable{P:Program} {w:World} {K:vA} [A_ K] {mg:Str->Option Value} {base:Heap}
theorem Te:AU ["_law_one","_law_other","_law_due","_law_a","_law_b","_law_told","_law_first","_law_row_here"] ["_law_one","_law_other"] (AL Rl):={}
theorem YG{f:Addr}{fd:FuncData}(F:CL K "_law_right" "_law_right" Rl f fd)(T:Txt mg)(e:Df P w K mg base "clashes" ["one","other"] 8 (DM CV))(C:Df P w K mg base "over" ["one","other","first"] 9 XT)(c:Df P w K mg base "_law_clashes" ["_law_a","_law_b"] 4 (DM CV))(g:Df P w K mg base "_law_refused" ["_law_one","_law_other","_law_first"] 11 Mn):Av P w K mg base CP 12 f fd ["_law_one","_law_other"] Mm:=by
 refine F.oq Te fun Ic A outer s H vs Q E O h=>?_
 ·obtain⟨r,w0,xs,zs,p,b,w2,m,n,p2,rfl,R,R2,q⟩:=h;have nd:=Te.nd;have hu:=An O;refine⟨_,(AD (Ac 2 nd (Al c O.mm (AA (pv 0) (AO (pv 1))))) (AD (VS (DB (BB (AA (AW (AA (pv 0) (AO (pv 1)))) (AA (AW (AA (pv 1) (AO (pv 0)))) (AO (AW (AA (pv 0) (AO (pv 1))))))))) (M' rfl (Dz (EZ 3 nd) (Dz (EZ 4 nd) Jn))) (AD (Ac 5 nd (Al e O.mm (AA (pv 3) (AO (pv 4))))) (AD (AX (PW.pt (pw_or (EE (Ag (Aa Ao rfl T.isinstance AS (AA (pv 5) (AO (BG (v:=.ty "bool") rfl T.bool cb rfl)))))) (pw_or1 (AI KI (pv 5) (pv 2) (AM _))))) (AE (AH Cz)) AK) (AE (VS (DB (BB (AA Cz (AO Cz)))) (EZ 6 nd) (AD (AX (PW.pt (pw_and (Ag (pv 2)) (pw_and1 (EE (Ag (Al g O.mm (AA (pv 3) (AA (pv 4) (AO (pv 6)))))))))) (AE (AH Cz)) AK) (AE (AX (EE (Ag (pv 2))) (AD (Ac 7 nd (Al C O.mm (AA (pv 3) (AA (pv 4) (AO (pv 6)))))) (AE (AX (PW.pt (pw_or (EE (Ag (Aa Ao rfl T.isinstance AS (AA (pv 7) (AO (BG (v:=.ty "tuple") rfl T.tuple NL rfl)))))) (pw_or (AI KI (DS T.len (pv 7)) (DS T.len (pv 3)) (AM _)) (pw_or1 (AI KI (Bx K 7) (Bx K 3) (AM _)))))) (AE (AH Cz)) AK))) AK)))))))) (AE (AH Cz)))),?_⟩;have Rr:=R.rx.rw;have uA:=R2.rx.rw;refine⟨_,rfl,_,rfl,r,w0,xs,zs,p,b,w2,m,n,p2,rfl,Rr,uA,fun S s1=>?_⟩;generalize ec:CV w0 xs zs w2 m n=d;have D1:mF H d r b:=⟨w0,xs,zs,p,w2,m,n,p2,R,R2,ec⟩;have D2:mF H d b r:=⟨w2,m,n,p2,w0,xs,zs,p,R2,R,by rw[RW];exact ec⟩;dsimp only[Bm];refine⟨_,rfl,_,rfl,AR,fun k n1=>⟨_,rfl,_,rfl,AR,fun l n2=>⟨_,rfl,_,rfl,AR,fun y n3=>⟨Cj,fun L nL=>?_⟩⟩⟩⟩;have e1:=AF.new (o:=.tup [r,b]) n1;have e2:=AF.new (o:=.tup [b,r]) n2;have e3:=AF.new (o:=.tup [r,b]) n3;have e4:=AF.new (o:=.lst [.ref k,.ref l,.ref y]) nL;have S4:=s1.trans (((e1.trans e2).trans e3).trans e4);have fL:upd (upd (upd (upd S k (.tup [r,b])) l (.tup [b,r])) y (.tup [r,b])) L (.lst [.ref k,.ref l,.ref y]) L=some (.lst [.ref k,.ref l,.ref y]):=AB;have f3:=e4 _ _ (AB (H:=upd (upd S k (.tup [r,b])) l (.tup [b,r])) (a:=y) (o:=.tup [r,b]));have f2:=(e3.trans e4) _ _ (AB (H:=upd S k (.tup [r,b])) (a:=l) (o:=.tup [b,r]));have f1:=((e2.trans e3).trans e4) _ _ (AB (H:=S) (a:=k) (o:=.tup [r,b]));generalize upd (upd (upd (upd S k (.tup [r,b])) l (.tup [b,r])) y (.tup [r,b])) L (.lst [.ref k,.ref l,.ref y])=H2 at S4 fL f1 f2 f3⊢;have all:∀(i:Nat) x,([.ref k,.ref l,.ref y]:List V)[i]?=some x->∃t u v,x=.ref t/\H2 t=some (.tup [u,v])/\mF H d u v:=fun i x h=>by
   rcases i with _|_|_|i
   ·cases h;exact⟨_,_,_,rfl,f1,D1⟩
   ·cases h;exact⟨_,_,_,rfl,f2,D2⟩
   ·cases h;exact⟨_,_,_,rfl,f3,D1⟩
   ·cases h
  refine⟨L,rfl,⟨_,Ay.of fL⟩,D_ (xs:=[.ref k,.ref l,.ref y]) (fun i z Hi=>∃o3 o4 o5 D G:Option V,z=[some r,some b,some (.bl d),o3,o4,o5,D,G]/\AF H2 Hi)
   ⟨_,_,_,_,_,rfl,AF.refl _⟩ (fun i z Hi _ ⟨_,_,_,_,_,_,I⟩=>Ay.of (I _ _ fL)) ?_ ?_⟩
  ·rintro i x z Hi U ⟨o3,o4,o5,D,G,rfl,I⟩;obtain⟨t,u,v,rfl,ht,DU⟩:=all i x U;have Si:=S4.trans I;refine⟨t,_,rfl,Ah.of (I _ _ ht),rfl,_,_,rfl,_,_,rfl,rfl,?_⟩;obtain⟨wa,xa,za,pa,wb,xb,zb,pb,X,RB,B⟩:=DU;have uB:=X.up Si;have uC:=RB.up Si;refine⟨_,rfl,_,rfl,u,wa,xa,za,pa,v,wb,xb,zb,pb,rfl,uB.rx.rw,uC.rx.rw,fun H3 s3=>?_⟩;rw[B];dsimp only[Bm];refine⟨_,rfl,_,"bool","bool",rfl,rfl,.bl _,_,rfl,Ae ⟨_,rfl,_,rfl,rfl,_,rfl,Af (by simp) ?_⟩⟩;refine⟨AR,fun L5 n5=>?_⟩;have e5:=AF.new (o:=.lst [.bl true,.bl false]) n5;have f5:upd H3 L5 (.lst [.bl true,.bl false]) L5=some (.lst [.bl true,.bl false]):=AB;have s5:=I.trans (s3.trans e5);generalize upd H3 L5 (.lst [.bl true,.bl false])=H5 at s5 f5⊢;refine⟨L5,rfl,⟨_,Ay.of f5⟩,D_ (xs:=[.bl true,.bl false]) (fun j z Hj=>∃D G:Option V,z=[some r,some b,some (.bl d),some u,some v,some (.bl d),D,G]/\AF H5 Hj)
    ⟨_,_,rfl,AF.refl _⟩ (fun j z Hj _ ⟨_,_,_,J⟩=>Ay.of (J _ _ f5)) ?_ ?_⟩
   ·rintro j x z Hj U ⟨D,G,rfl,J⟩;obtain⟨fi,rfl⟩:∃fi:Bool,x=.bl fi:=by
     rcases j with _|_|j
     ·cases U;exact⟨_,rfl⟩
     ·cases U;exact⟨_,rfl⟩
     ·cases U
    have Sj:=(S4.trans s5).trans J;have M:=X.up Sj;have Y:=RB.up Sj;cases d with
    |true=>
     refine⟨_,rfl,_,rfl,Aj ⟨_,rfl,_,rfl,_,rfl,u,wa,xa,za,pa,v,wb,xb,zb,pb,fi,rfl,M.rx.rw,Y.rx.rw,B,fun H6 s6=>⟨_,rfl,Ae ?_⟩⟩⟩;exact⟨_,rfl,_,rfl,Ae ⟨_,_,rfl,J.trans s6⟩⟩
    |false=>
     refine⟨_,rfl,_,rfl,Ae (Ae ⟨_,rfl,_,rfl,Aj ?_⟩)⟩;obtain⟨us,ws,ov⟩:=Uv (fi:=fi) X.rx.rw.wd B;refine⟨_,rfl,_,rfl,_,rfl,u,wa,xa,za,pa,v,wb,xb,zb,pb,fi,us,ws,rfl,M.rx,Y.rx.rw,Nat.le_trans X.lx (by decide),Nat.le_trans X.lz (by decide),Nat.le_trans RB.lx (by decide),Nat.le_trans RB.lz (by decide),(fun h=>by
      obtain⟨a0,N,e0,h0,_,r0⟩:=M.ho;rw[r0 h]at h0;exact⟨a0,e0,h0⟩),B,ov,fun a0 a N rest uu H6 s6 eu h0 RX h6 ll _=>?_⟩
     subst eu;have Z:=s6 _ _ h0;refine⟨_,rfl,_,"tuple","tuple",rfl,rfl,.tup h6,_,rfl,Ae ?_⟩;refine⟨_,rfl,a,_,rfl,.inr (Ah.of h6),_,rfl,a0,_,rfl,.inr (Ah.of Z),rfl,_,rfl,Af (by simp[ll]) ?_⟩;exact⟨_,rfl,a,_,0,_,rfl,rfl,Ah.of h6,Ec,_,rfl,a0,_,0,_,rfl,rfl,Ah.of Z,Ec,rfl,_,rfl,Af (by simp) ⟨_,_,rfl,J.trans s6⟩⟩
   rintro z Hj ⟨D,G,rfl,J⟩;exact⟨_,_,_,_,_,rfl,s5.trans J⟩
  rintro z Hi ⟨o3,o4,o5,D,G,rfl,I⟩;exact q _ (S4.trans I)
end
end BF
namespace BF
open PySem L2
section
variable{P:Program} {w:World} {K:vA} [A_ K] {mg:Str->Option Value} {base:Heap}
theorem bU:AU ["_law_script","_law_names_here","_law_doc_here","_law_k","_law_one","_law_other","_law_kept"] ["_law_script"] (AL OB):={}
theorem eO{f:Addr}{Y:FuncData}(F:CL K "law" "law" OB f Y)(T:Txt mg)(b:Df P w K mg base "_law_cell" ["_law_script","_law_k"] 1 (NO K))(e:Df P w K mg base "_law_names" ["_law_one","_law_two"] 2 So)(x:Df P w K mg base "_law_doc" ["_law_script","_law_start","_law_many","_law_names_here"] 4 (Wk K))(u:Df P w K mg base "_law_pair" ["_law_script","_law_at","_law_doc_here","_law_names_here"] 23 (XX K))(g:Df P w K mg base "_law_right" ["_law_one","_law_other"] 12 Mm)(c:mg "repr"=none)(l:∃o,K.lookup sysModules=some o):Av P w K mg base CP 24 f Y ["_law_script"] (PJ K):=by
 refine F.oq bU fun Ic A outer s H vs Q E k h=>?_
 ·obtain⟨a,v,rfl,y,hlen,q⟩:=h;have nd:=bU.nd;have hu:=An k;refine⟨_,(AD (Ac 1 nd (Al e k.mm (AA (Al b k.mm (AA (pv 0) (AO AG))) (AO (Al b k.mm (AA (pv 0) (AO AG))))))) (AD (Ac 2 nd (Al x k.mm (AA (pv 0) (AA AG (AA AG (AO (pv 1))))))) (AD (VS (DZ rfl T.range (AO (Aa (Ts rfl) rfl T.max gh (AA AG (AO (AV GY (Aa (Tt rfl) rfl T.min gj (AA AG (AO (AV KH (DS T.len (pv 0)) AG)))) AG)))))) (EZ 3 nd) (AD (NA (Al u k.mm (AA (pv 0) (AA (AV Bc AG (AV Fp AG (pv 3))) (AA (pv 2) (AO (pv 1)))))) (M' rfl (Dz (EZ 4 nd) (Dz (EZ 5 nd) Jn)))) (AD (Ac 6 nd (Aa (MR k l) rfl c Wj (AO (AW (AA (pv 4) (AO (pv 5))))))) (AE (AX (PW.pt (pw_or (EE (Ag (Al g k.mm (AA (pv 4) (AO (pv 5)))))) (pw_or1 (AI KI (Aa (MR k l) rfl c Wj (AO (AW (AA (pv 4) (AO (pv 5)))))) (pv 6) (AM _))))) (AE (AH Cz)) AK))))) (AE (AH Cz))))),?_⟩;refine⟨_,rfl,a,v,0,rfl,y,fun c0 _=>⟨_,rfl,a,v,1,rfl,y,fun c1 _=>⟨c0,c1,rfl,fun n Z H1 s1 nn hn l6 uv ny=>?_⟩⟩⟩;refine⟨_,rfl,_,rfl,a,n,v,2,14,Z,rfl,s1.seq y,hlen,by decide,by decide,by decide,hn,by omega,by omega,ny,fun d H2 made uw nm=>?_⟩;have S2:AF H H2:=s1.trans made.same;have I:=made.same _ _ hn;dsimp only[Bm];refine⟨_,rfl,a,_,rfl,.inl (S2.seq y),_,_,rfl,rfl,_,_,rfl,_,_,rfl,rfl,⟨by decide,by decide⟩,_,_,rfl,_,rfl,?_⟩;generalize hj:(if((v.map V.int).length:Int)-16<20 then((v.map V.int).length:Int)-16 else 20)=j;have ji:j<=20:=by rw[<-hj];split<;>omega
  obtain⟨m,hm,lm⟩:∃m:Nat,(if j/2>2 then j/2 else 2)=(m:Int)/\m<=20:=⟨_,(Int.toNat_of_nonneg (by split<;>omega)).symm,by split<;>omega⟩;rw[hm];refine⟨by omega,by omega,Ew (lo:=0) (n:=m) (fun i J G=>∃L M N O:Option V,J=[some (.ref a),some (.ref n),some d.val,L,M,N,O]/\AF H2 G) ⟨_,_,_,_,rfl,AF.refl _⟩ ?_ ?_⟩
  ·rintro i J G hi ⟨L,M,N,O,rfl,z⟩;dsimp only[Bm];refine⟨_,rfl,_,rfl,_,_,rfl,rfl,.inl ⟨by decide,by decide⟩,_,_,rfl,rfl,_,rfl,_,rfl,a,v,16+2*i,d,n,Z,(by show[V.ref a,V.int (16+2*(0+(i:Int))),d.val,V.ref n]=_;simp),(S2.trans z).seq y,Dc.Ab z made.at_,made.ok,by omega,z _ _ I,l6,ny,fun t r w0 xs zs p S w2 U X p2 H3 s3 ht R R2=>?_⟩;refine⟨t,_,rfl,Ah.of ht,rfl,_,_,rfl,_,_,rfl,rfl,?_⟩;obtain⟨D,sh,lz,dp,B⟩:=Uw R.fin R2.fin;dsimp only[Bm];refine⟨_,rfl,_,rfl,AR,fun t2 n2=>?_⟩;have C:=AF.new (o:=.tup [r,S]) n2;refine⟨t2,D,rfl,B _ _ C AB,sh,lz,by omega,?_⟩;refine⟨_,rfl,_,rfl,r,w0,xs,zs,p,S,w2,U,X,p2,rfl,R.up C,R2.up C,fun H4 s4=>⟨_,rfl,Ae ?_⟩⟩;refine⟨_,rfl,_,rfl,AR,fun t3 n3=>?_⟩;have e3:=AF.new (o:=.tup [r,S]) n3;exact⟨t3,D,rfl,B _ _ ((C.trans s4).trans e3) AB,sh,lz,by omega,_,rfl,rfl,_,rfl,Af (by simp) ⟨_,_,_,_,rfl,z.trans (s3.trans ((C.trans s4).trans e3))⟩⟩
  ·rintro J G ⟨L,M,N,O,rfl,z⟩;exact q G
end
end BF
namespace BF
open PySem L2
abbrev NZ(K:vA)(x:Str):Prop:=PySem.W.nsIn K mainGlobals x=some none
theorem nz{K:vA}{x:Str}(h:PySem.W.nsIn K mainGlobals x=some none):NZ K x:=h
variable{P:List Value->Prop}
theorem ls{n:Nat}(h:∀a r,r.length=n->P (a::r)):∀b,b.length=n+1->P b:=fun b e=>by
 cases b with
 |nil=>cases e
 |cons a r=>exact h a r (Nat.succ.inj e)
theorem lz(h:P []):∀b,b.length=0->P b:=fun b e=>by
 cases b with
 |nil=>exact h
 |cons a r=>cases e
variable{mg:Str->Option Value}
theorem gn{K:vA}{h:Heap}{x:Str}{st:Stmt}(X:K.In h)(G:h.Ns mainGlobals mg)(A:FA K x st)(ps:List Str)(b:∀(kV doc g:Value) (i:Option Addr) (d ct:Value) (e:List Value),e.length=ps.length->bindArgs (PySem.W.fnOf x x (EK st) (DC st) (AL st) .none kV doc g i d ct) ⟨e,[]⟩=pure (ps.zip e):=by intro _ _ _ _ _ _;(repeat refine ls fun _=>?_);exact lz rfl):∃f c,CL K x x st f c/\Binds K c ps []/\mg x=some (.ref f):=by
 obtain⟨f,c,F,a⟩:=A;exact⟨f,c,F,F.binds b,PySem.W.mg_of X G a⟩
theorem dk{P:Program}{w:World}{K:vA}{mg:Str->Option Value}{base:Heap}{x:Str}{st:Stmt}{n:Nat}{sp:Sp}{ps:List Str}(g:∃f a,CL K x x st f a/\Binds K a ps []/\mg x=some (.ref f))(ok:∀f a,CL K x x st f a->Binds K a ps []->mg x=some (.ref f)->Av P w K mg base CP n f a ps sp):Df P w K mg base x ps n sp:=by
 obtain⟨f,a,F,b,m⟩:=g;exact .mk' F b m (ok f a F b m)
variable{l:PySem.W.OpenLaw}
theorem all_mk{w:World}{K:vA}{h:Heap}{fa f64:Addr}(X:K.In h)(G:h.Ns mainGlobals mg)(uD:mg "law"=some (.ref fa)){nv jL:Option Addr}{n_:Array (Option Value)}{n' jM jN jO eQ jP:Value}{p u y M O n z D:Addr}{A:Addr}{YH YI:Option Addr}{YJ:Array (Option Value)}{YK YL YM QN YN:Value}(h1:FA K "steps_of" LJ)(h2:FA K "outer_copy" HK)(h3:FA K "copy_of" Np)(h4:FA K "begins" Nq)(h5:FA K "gone_by" Nr)(h6:FA K "moved_by" LK)(h7:FA K "reads" RY)(h8:FA K "is_place" LL)(h9:FA K "place_into" HL)(h10:FA K "with_place" HM)(h11:FA K "ahead_of_taking" Ea)(h12:FA K "comes_to" LM)(h13:FA K "needs" RZ)(h14:FA K "bars" Xb)(h15:FA K "leaves" Nt)(h16:FA K "place_behind" Fc)(h17:FA K "step_behind" GR)(h18:FA K "after" Ra)(h19:FA K "does_begin" HN)(h20:FA K "begins_some" GS)(h21:FA K "holder_of_coming" EI)(h22:FA K "spoils_read" GU)(h23:FA K "bars_same" JC)(h24:FA K "bars_needed" GV)(h25:FA K "moves_same" HP)(h26:FA K "moves_into" HQ)(h27:FA K "clashes_one_way" Eb)(h28:FA K "clashes" LN)(h29:FA K "coming_over" GW)(h30:FA K "behind_taking" Er)(h31:FA K "over" TL)(h32:FA K "_law_cell" Xc)(h33:FA K "_law_mix" Zw)(h34:FA K "_law_names" Rb)(h35:FA K "_law_leaf" Xd)(h36:FA K "_law_part" Xe)(h37:FA K "_law_doc" dZ)(h38:FA K "_law_copy" TM)(h39:FA K "_law_found" Rc)(h40:FA K "_law_done" Xf)(h41:FA K "_law_paths" Nu)(h42:FA K "_law_slots" Rf)(h43:FA K "_law_value" Rg)(h44:FA K "_law_picked" Nv)(h45:FA K "_law_asking" Nw)(h46:FA K "_law_row" da)(h47:FA K "_law_gone" Xg)(h48:FA K "_law_moved" Rh)(h49:FA K "_law_reads" Nx)(h50:FA K "_law_comes" Ri)(h51:FA K "_law_needs" Ny)(h52:FA K "_law_bars" Rj)(h53:FA K "_law_begins" LO)(h54:FA K "_law_within" Nz)(h55:FA K "_law_clash_of" LP)(h56:FA K "_law_clashes" JD)(h57:FA K "_law_into" Xh)(h58:FA K "_law_reading" LQ)(h59:FA K "_law_unlike" N_)(h60:FA K "_law_beside" OA)(h61:FA K "_law_pair" Xi)(h62:FA K "_law_refused" II)(h63:FA K "_law_right" Rl)(a64:PySem.W.nsIn K mainGlobals "law"=some (some (.ref f64)))(l64:K.lookup f64=some ⟨n',nv,.func (PySem.W.fnOf "law" "law" (EK OB) (DC OB) (AL OB) .none jM jN jO jL eQ jP),n_⟩)(c64:PySem.W.codeIn K eQ "law"=true)(k64:PySem.W.keepIn K (.ref f64)=true)(z1:NZ K "isinstance")(z2:NZ K "int")(z3:NZ K "bool")(z4:NZ K "str")(z5:NZ K "list")(z6:NZ K "dict")(z7:NZ K "tuple")(z8:NZ K "len")(z9:NZ K "range")(z10:NZ K "max")(z11:NZ K "min")(z12:NZ K "sorted")(z13:NZ K "all")(z14:NZ K "any")(z15:NZ K "reversed")(z16:NZ K "ValueError")(z17:NZ K "sum")(Fd:PySem.W.nsIn K mainGlobals "BoughError"=some (some (.ref p)))(LV:PySem.W.nsIn K mainGlobals "NoPart"=some (some (.ref u)))(LW:PySem.W.nsIn K mainGlobals "NoDeed"=some (some (.ref y)))(OL:PySem.W.nsIn K mainGlobals "NoRow"=some (some (.ref M)))(OM:PySem.W.nsIn K mainGlobals "NoFit"=some (some (.ref O)))(JI:PySem.W.nsIn K mainGlobals "NoPatch"=some (some (.ref n)))(LX:PySem.W.nsIn K mainGlobals "NoText"=some (some (.ref z)))(ON:PySem.W.nsIn K mainGlobals "Clash"=some (some (.ref D)))(Tf:PySem.W.findIn K (.ref D) "__init__"=some (some (.ref A)))(J_:K.lookup A=some ⟨.type "function",YH,.func (PySem.W.fnOf "__init__" "Clash.__init__" (EK Dw) (DC Dw) (AL Dw) .none YK YL YM YI QN YN),YJ⟩)(OO:PySem.W.codeIn K QN "Clash.__init__"=true)(OP:PySem.W.keepIn K (.ref A)=true)(kk:mE K (fun i=>[u,y,M,O,n,z,D].getD i 0) p A=true){tC tP:Addr}{oS:Obj}(eC:PySem.W.nsIn K mainGlobals "WORDS_OF_COMING"=some (some (.ref tC)))(hC:RD K tC H_=true)(YO:NZ K "enumerate")(eP:PySem.W.nsIn K mainGlobals "WORDS_OF_PARTS"=some (some (.ref tP)))(hP:RD K tP NU=true)(zR:NZ K "repr")(zS:K.lookup sysModules=some oS)
  :∃fd:FuncData,(∀(s:Shared)(v:Value),BindsTo s fd ⟨[v],[]⟩ [("_law_script",v)])/\∀base:Heap,K.In base->base.Ns mainGlobals mg->Av l.prog w K mg base CP 24 fa fd ["_law_script"] (PJ K):=by
 haveI:A_ K:=⟨trivial⟩;have e:=uD.symm.trans (PySem.W.mg_of X G a64);cases e;have gm:=fun{x:Str}{v:Value}(a:PySem.W.nsIn K mainGlobals x=some (some v))=>PySem.W.mg_of X G a;have T:Txt mg:=by constructor<;>(apply PySem.W.mg_none_of X G;assumption)
 obtain⟨f31,d31,kF,b31,m31⟩:=gn X G h31 ["one","other","first"];have g33:=gn X G h33 ["_law_cell_here","_law_k"];have uE:=Qp (st:=OB) l64 c64 k64;have mC:=PySem.W.mg_of X G eC;have jQ:=PySem.W.mg_none_of X G YO;have mP:=PySem.W.mg_of X G eP;have jR:=PySem.W.mg_none_of X G zR;have oA:∃o,K.lookup sysModules=some o:=⟨_,zS⟩;have OQ:=PySem.W.mg_of X G Fd;have YQ:=PySem.W.mg_of X G LV;have YR:=PySem.W.mg_of X G LW;have aT:=PySem.W.mg_of X G OL;have aU:=PySem.W.mg_of X G OM;have VG:=PySem.W.mg_of X G JI;have YS:=PySem.W.mg_of X G LX;have aV:=PySem.W.mg_of X G ON;have Tg:=Qp (st:=Dw) J_ OO OP;have aW:=Tg.binds (ps:=["self","at","other"]) fun _ _ _ _ _ _=>by(repeat refine ls fun _=>?_);exact lz rfl
 have kn:=Kc.of kk;have N:=(⟨YQ,YR,aT,aU,VG,YS,aV,OQ⟩:Nm mg (fun i=>[u,y,M,O,n,z,D].getD i 0) p);refine⟨PySem.W.fnOf "law" "law" (EK OB) (DC OB) (AL OB) .none jM jN jO jL eQ jP,fun s v=>.of_eq rfl,fun base _ _=>?_⟩;have kk:=@Df.mk' l.prog w K mg base;have dk:=@dk l.prog w K mg base;have I6:oN l.prog w K mg base A ["self","at","other"] (Jx ((fun i=>[u,y,M,O,n,z,D].getD i 0) 6)):=⟨_,OC Tg kn.sk kn.rZ,aW,⟨_,J_,rfl⟩⟩;have SF:=dk (gn X G h32 ["_law_script","_law_k"]) fun _ _ F b m=>Z' F T;have jS:=dk g33 fun _ _ F b m=>Xr F T;have aX:=dk (gn X G h34 ["_law_one","_law_two"]) fun _ _ F b m=>Xs F T jS;have q:=dk g33 fun _ _ F b m=>aC F T;have YT:=dk (gn X G h35 ["_law_cell_here"]) fun _ _ F b m=>aD F T q;have eT:=dk (gn X G h36 ["_law_cell_here","_law_deep"]) fun _ _ F b m=>aE F T q YT;have jT:=dk (gn X G h37 ["_law_script","_law_start","_law_many","_law_names_here"]) fun _ _ F b m=>dy F T SF q eT;have eU:=dk (gn X G h38 ["_law_doc_here"]) fun _ _ F b m=>QD F T b m 17;have P:=dk (gn X G h39 ["_law_doc_here","_law_path"]) fun _ _ F b m=>Xw F T;have SG:=dk (gn X G h40 ["_law_doc_here","_law_row_here"]) fun _ _ F b m=>aJ F T eU P;have QO:=dk (gn X G h41 ["_law_doc_here","_law_ahead"]) fun _ _ F b m=>Mt F T b m 17;have E:=dk (gn X G h42 ["_law_doc_here","_law_names_here"]) fun _ _ F b m=>Xz F T P QO;have S:=dk (gn X G h43 ["_law_cell_here","_law_names_here"]) fun _ _ F b m=>X' F T q YT;have r:=dk (gn X G h44 ["_law_some","_law_cell_here","_law_k"]) fun _ _ F b m=>U' F T q;have VH:=dk (gn X G h45 ["_law_word","_law_path","_law_cell_here","_law_doc_here","_law_names_here"]) fun _ _ F b m=>VA F T q P S;have YU:=dk (gn X G h46 ["_law_cell_here","_law_doc_here","_law_names_here"]) fun _ _ F b m=>eE F T SG QO E S r VH;have f:=dk (gn X G h50 ["_law_row_here"]) fun _ _ F b m=>YC F T;have aY:=dk (gn X G h57 ["_law_cell_here","_law_one","_law_doc_here","_law_names_here"]) fun _ _ F b m=>aP F T SG E r YU f;have SH:=dk (gn X G h58 ["_law_cell_here","_law_one","_law_doc_here","_law_names_here"]) fun _ _ F b m=>SA F T q P E r;have VI:=dk (gn X G h59 ["_law_cell_here","_law_one","_law_names_here"]) fun _ _ F b m=>VE F T q f;have VJ:=dk (gn X G h60 ["_law_cell_here","_law_one","_law_doc_here","_law_names_here"]) fun _ _ F b m=>VF F T q SG E S r YU f aY SH VI;have eV:=dk (gn X G h61 ["_law_script","_law_at","_law_doc_here","_law_names_here"]) fun _ _ F b m=>aS F T SF YU VJ;have J:=dk (gn X G h5 ["row"]) fun _ _ F b m=>Uz F T;have c:=dk (gn X G h8 ["step"]) fun _ _ F b m=>Rp F T;have L:=dk (gn X G h4 ["one","other"]) fun _ _ F b m=>Uy F T;have H:=dk (gn X G h9 ["path","holder"]) fun _ _ F b m=>OE F T L c;have I:=dk (gn X G h10 ["path","holder","place"]) fun _ _ F b m=>OF F T;have Q:=dk (gn X G h11 ["to","path"]) fun _ _ F b m=>JE F T c H I;have d:=dk (gn X G h12 ["row"]) fun _ _ F b m=>Rq F T Q mC hC;have QP:=dk (gn X G h13 ["row"]) fun _ _ F b m=>Xl F T d mC hC mP hP;have k:=dk (gn X G h19 ["one","other"]) fun _ _ F b m=>OG F T L;have B:=dk (gn X G h20 ["path","others"]) fun _ _ F b m=>Lk F T k;have j:=dk (gn X G h6 ["row"]) fun _ _ F b m=>Ro F T;have YV:=dk (gn X G h7 ["row"]) fun _ _ F b m=>Xk F T;have g:=dk (gn X G h21 ["row"]) fun _ _ F b m=>IM F T d;have Y:=dk (gn X G h22 ["one","other"]) fun _ _ F b m=>Ll F T J j YV k g;have Th:=dk (gn X G h14 ["row"]) fun _ _ F b m=>Zz F T c d;have QQ:=dk (gn X G h23 ["one","other"]) fun _ _ F b m=>QC F T Th;have Z:=dk (gn X G h24 ["one","other"]) fun _ _ F b m=>Lm F T QP Th B;have OR:=dk (gn X G h25 ["one","other"]) fun _ _ F b m=>OH F T j;have OS:=dk (gn X G h26 ["one","other"]) fun _ _ F b m=>OI F T j k g;have R:=dk (gn X G h27 ["one","other"]) fun _ _ F b m=>JF F T J QP B Y QQ Z OR OS;have C:=dk (gn X G h28 ["one","other"]) fun _ _ F b m=>Rt F T R;have SI:=dk (gn X G h1 ["doc"]) fun _ _ F b m=>Rn F T;have OT:=dk (gn X G h2 ["doc"]) fun _ _ F b m=>OD F T;have VL:=dk (gn X G h3 ["doc"]) fun _ _ F b m=>Ux F T SI OT;have VM:=dk (gn X G h15 ["row"]) fun _ _ F b m=>U_ F T;have t:=dk (gn X G h16 ["holder","place","row","ahead"]) fun _ _ F b m=>LR F T c d VM;have Lo:=dk (gn X G h17 ["holder","step","row"]) fun _ _ F b m=>Lj F T c t;have QR:=dk (gn X G h18 ["path","row"]) fun _ _ F b m=>Xn F T L J j Lo jQ;have Lp:=dk (gn X G h29 ["one","other","first"]) fun _ _ F b m=>Ln F T c d t QR;have U:=dk (gn X G h30 ["to","path"]) fun _ _ F b m=>Jm F T c H I;have aZ:=kk kF b31 m31 (Z_ kF T VL QR C Lp U);have QS:=dk (gn X G h48 ["_law_row_here"]) fun _ _ F b m=>YB F T;have V:=dk (gn X G h53 ["_law_one","_law_other"]) fun _ _ F b m=>Rz F T;have Mz:=dk (gn X G h54 ["_law_path","_law_row_here"]) fun _ _ F b m=>VD F T f V;have aa:=dk (gn X G h47 ["_law_row_here"]) fun _ _ F b m=>aO F T;have VN:=dk (gn X G h49 ["_law_row_here"]) fun _ _ F b m=>VB F T;have VO:=dk (gn X G h51 ["_law_row_here"]) fun _ _ F b m=>VC F T f;have YW:=dk (gn X G h52 ["_law_row_here"]) fun _ _ F b m=>YD F T f;have SJ:=dk (gn X G h55 ["_law_a","_law_b"]) fun _ _ F b m=>R_ F T aa QS VN VO YW V Mz;have QT:=dk (gn X G h56 ["_law_a","_law_b"]) fun _ _ F b m=>QK F T QS Mz SJ;have ae:iA l.prog w K mg base "over" ["one","other","first"] 10 (Nn (fun i=>[u,y,M,O,n,z,D].getD i 0)):=iA.mk' kF b31 m31 (Xp kF T C N kn I6);have SK:=dk (gn X G h62 ["_law_one","_law_other","_law_first"]) fun _ _ F b m=>SE F T ae N kn;have YX:=dk (gn X G h63 ["_law_one","_law_other"]) fun _ _ F b m=>YG F T C aZ QT SK;exact eO uE T SF aX jT eV YX jR oA
variable{loose:List Str}{K:Params->vA}{q:Program}{d:DefRec}
theorem walk{e:(Str->Option Value)->Heap->Prop}{YP:World->Heap->Prop}(g:l.most=some 63)(b:d.params.defaults=[])(i:∀(w:World) (h:Heap),YP w h->(K w.params).In h)(F:∀(w:World) (mg:Str->Option Value) (fa:Addr) (h:Heap),(K w.params).In h->h.Ns mainGlobals mg->mg d.name=some (.ref fa)->
   ∃c:FuncData,(∀(s:Shared) (u:Value),BindsTo s c ⟨[u],[]⟩ [("_law_script",u)])/\∀base:Heap,(K w.params).In base->base.Ns mainGlobals mg->Av l.prog w (K w.params) mg base CP 24 fa c ["_law_script"] (PJ (K w.params))):
  PySem.W.WalkO q loose e YP l.row.toRowW d [] (fun f j=>PySem.call f j):=
 L2.Y_ (n:=63) (k:=24) (x:="_law_script") (CX:=fun _=>CP) (sp:=fun w=>PJ (K w.params)) g (by decide) b ⟨rfl,by decide,by decide,rfl⟩ i F (fun _ _ a m o _ p=>⟨a,m,rfl,p,o,fun _=>rfl⟩) fun _ _ _ _ _ z=>z
theorem walkZ{m:(Str->Option Value)->Heap->Prop}{j:List Addr}{n t:Nat}(e:∀P:Params,j=List.map (fun x=>x.fst) (K P))(p:l.most=some 63)(g:d.params.defaults=[])(F:∀(w:World) (mg:Str->Option Value) (fa:Addr) (h:Heap),(K w.params).In h->h.Ns mainGlobals mg->mg d.name=some (.ref fa)->
   ∃k:FuncData,(∀(s:Shared) (u:Value),BindsTo s k ⟨[u],[]⟩ [("_law_script",u)])/\∀base:Heap,(K w.params).In base->base.Ns mainGlobals mg->Av l.prog w (K w.params) mg base CP 24 fa k ["_law_script"] (PJ (K w.params))):
  PySem.W.WalkX q loose m (PySem.W.X.obsZ j) (PySem.W.X.valZ K n t) l.row.toRowW d [] (fun f r=>PySem.call f r):=
 fun w b c mg v G y a o A B doc C kV D E H I J M args vals i L N O Q R S=>
  walk (YP:=fun w h=>(K w.params).In h) p g (fun _ _ z=>z) F w b c mg v G ((show(K w.params).In b.heap from(PySem.W.X.z_facts e y).2.1).keeps L.keeps) a o A B doc C kV D E H I J M args vals i N O Q R S
end BF
def PySem.W.Fast.tw5343184340157498991:=0
def PySem.W.Fast.tw219006775318731811:=0
def PySem.W.Fast.tw17717014054292577654:=0
def PySem.W.Fast.tw8621259055577928582:=0
def PySem.W.Fast.tw10222600783980126382:=0
def PySem.W.Fast.tw6677350729726958407:=0
def PySem.W.Fast.tw1530304364360319179:=0
def PySem.W.Fast.tw15221134747588866136:=0
def PySem.W.Fast.tw16512685199102852912:=0
def PySem.W.Fast.tw4698733426768953349:=0
def PySem.W.Fast.tw17789078505680328680:=0
def PySem.W.Fast.tw1412888643454750440:=0
def PySem.W.Fast.tw5918418090303620111:=0
def PySem.W.Fast.tw11657676427536863565:=0
def PySem.W.Fast.tw12927728198443311278:=0
def PySem.W.Fast.tw4746324934320903183:=0
def PySem.W.Fast.tw8268026958769063506:=0
def PySem.W.Fast.tw11019113648367973619:=0
def PySem.W.Fast.tw13332287142389310783:=0
def PySem.W.Fast.tw597324757268067545:=0
def PySem.W.Fast.tw2069100028757345618:=0
def PySem.W.Fast.tw10476467052027280112:=0
def PySem.W.Fast.tw10105180483504285287:=0
def PySem.W.Fast.tw10061833743374849738:=0
def PySem.W.Fast.tw13087939030211242993:=0
def PySem.W.Fast.tw3202502102963683122:=0
def PySem.W.Fast.tw15113282461231623479:=0
def PySem.W.Fast.tw5944121138225811398:=0
def PySem.W.Fast.tw6689397997295515513:=0
def PySem.W.Fast.tw16528337594154775224:=0
def PySem.W.Fast.tw1863390486292101852:=0
def PySem.W.Fast.tw2554845137525472908:=0
def PySem.W.Fast.tw17298950832492131750:=0
def PySem.W.Fast.tw4993546139747397879:=0
def PySem.W.Fast.tw7049015096969267296:=0
def PySem.W.Fast.tw8815514488260557148:=0
def PySem.W.Fast.tw2110741170770235632:=0
def PySem.W.Fast.tw12970562957579076977:=0
def PySem.W.Fast.tw10727375918229127775:=0
def PySem.W.Fast.tw8298899561396890508:=0
def PySem.W.Fast.tw2164353034614543532:=0
def PySem.W.Fast.tw5896309808092460173:=0
def PySem.W.Fast.tw6146316513928006770:=0
def PySem.W.Fast.tw1002253359427385126:=0
def PySem.W.Fast.tw2304200211329326579:=0
def PySem.W.Fast.tw17707649176117129766:=0
def PySem.W.Fast.tw2605086569264310447:=0
def PySem.W.Fast.tw12927202818052946166:=0
def PySem.W.Fast.tw14065497205857778115:=0
def PySem.W.Fast.tw6461827964685782888:=0
def PySem.W.Fast.tw6361561776521987700:=0
def PySem.W.Fast.tw9259534012650192126:=0
def PySem.W.Fast.tw12081717518817673790:=0
def PySem.W.Fast.tw11479631982134957994:=0
def PySem.W.Fast.tw18150584821003533973:=0
def PySem.W.Fast.tw14570545010700561770:=0
def PySem.W.Fast.tw4136540319427710312:=0
def PySem.W.Fast.tw13450109858465221005:=0
def PySem.W.Fast.tw11886817033638797009:=0
def PySem.W.Fast.tw2352609234667533907:=0
def PySem.W.Fast.tw17190738753014783569:=0
def PySem.W.Fast.tw14632601741585808274:=0
def PySem.W.Fast.tw15786524677203681947:=0
def PySem.W.Fast.tw1213446828345480016:=0
def PySem.W.Fast.tw3823254367341729969:=0
def PySem.W.Fast.tw13991675726569788681:=0
def PySem.W.Fast.tw938993949652197673:=0
def PySem.W.Fast.tw4894383302084840056:=0
def PySem.W.Fast.tw6519695872301293761:=0
def PySem.W.Fast.tw14596326490154135169:=0
def PySem.W.Fast.tw2067153654122673828:=0
def PySem.W.Fast.tw3130483722092430319:=0
def PySem.W.Fast.tw10292037573513825020:=0
def PySem.W.Fast.tw13532867489856677680:=0
def PySem.W.Fast.tw7401400767212356027:=0
def PySem.W.Fast.tw10771626588393159905:=0
def PySem.W.Fast.tw15466426477125884697:=0
def PySem.W.Fast.tw3471676919775987294:=0
def PySem.W.Fast.tw6469784919253286697:=0
def PySem.W.Fast.tw4296555139012367875:=0
def PySem.W.Fast.tw15568783107150292757:=0
def PySem.W.Fast.tw4370105940728193718:=0
def PySem.W.Fast.tw13565947630934590688:=0
def PySem.W.Fast.tw7275495340987597829:=0
def PySem.W.Fast.tw12299343695347542219:=0
def PySem.W.Fast.tw7709646575757683450:=0
def PySem.W.Fast.tw4783669894383694290:=0
def PySem.W.Fast.tw15941830904100438544:=0
def PySem.W.Fast.tw7142015909358027529:=0
def PySem.W.Fast.tw7558735122893273400:=0
open PySem PySem.W PyProof.Rows
set_option maxRecDepth 100000 in
set_option maxHeartbeats 0 in
theorem PySem.Challenge.cw_patchbough_k83_which_rows_clash_holds : PySem.Challenge.rw_patchbough_k83_which_rows_clash.Holds := by
 w_on;o_law;z_head;(case hw=>w_witness2)
 k_fill
 refine BF.walkZ (l:=PySem.Challenge.rw_patchbough_k83_which_rows_clash) (fun _=>rfl) rfl rfl ?F
 case F=>
  intro w c fa h b G a
  refine' BF.all_mk b G a (L2.fa ?a1 ?l1 ?c1 ?k1) (L2.fa ?a2 ?l2 ?c2 ?k2) (L2.fa ?a3 ?l3 ?c3 ?k3) (L2.fa ?a4 ?l4 ?c4 ?k4) (L2.fa ?a5 ?l5 ?c5 ?k5) (L2.fa ?a6 ?l6 ?c6 ?k6) (L2.fa ?a7 ?l7 ?c7 ?k7) (L2.fa ?a8 ?l8 ?c8 ?k8) (L2.fa ?a9 ?l9 ?c9 ?k9) (L2.fa ?a10 ?l10 ?c10 ?k10) (L2.fa ?a11 ?l11 ?c11 ?k11) (L2.fa ?a12 ?l12 ?c12 ?k12) (L2.fa ?a13 ?l13 ?c13 ?k13) (L2.fa ?a14 ?l14 ?c14 ?k14) (L2.fa ?a15 ?l15 ?c15 ?k15) (L2.fa ?a16 ?l16 ?c16 ?k16) (L2.fa ?a17 ?l17 ?c17 ?k17) (L2.fa ?a18 ?l18 ?c18 ?k18) (L2.fa ?a19 ?l19 ?c19 ?k19) (L2.fa ?a20 ?l20 ?c20 ?k20) (L2.fa ?a21 ?l21 ?c21 ?k21) (L2.fa ?a22 ?l22 ?c22 ?k22) (L2.fa ?a23 ?l23 ?c23 ?k23) (L2.fa ?a24 ?l24 ?c24 ?k24) (L2.fa ?a25 ?l25 ?c25 ?k25) (L2.fa ?a26 ?l26 ?c26 ?k26) (L2.fa ?a27 ?l27 ?c27 ?k27) (L2.fa ?a28 ?l28 ?c28 ?k28) (L2.fa ?a29 ?l29 ?c29 ?k29) (L2.fa ?a30 ?l30 ?c30 ?k30) (L2.fa ?a31 ?l31 ?c31 ?k31) (L2.fa ?a32 ?l32 ?c32 ?k32) (L2.fa ?a33 ?l33 ?c33 ?k33) (L2.fa ?a34 ?l34 ?c34 ?k34) (L2.fa ?a35 ?l35 ?c35 ?k35) (L2.fa ?a36 ?l36 ?c36 ?k36) (L2.fa ?a37 ?l37 ?c37 ?k37) (L2.fa ?a38 ?l38 ?c38 ?k38) (L2.fa ?a39 ?l39 ?c39 ?k39) (L2.fa ?a40 ?l40 ?c40 ?k40) (L2.fa ?a41 ?l41 ?c41 ?k41) (L2.fa ?a42 ?l42 ?c42 ?k42) (L2.fa ?a43 ?l43 ?c43 ?k43) (L2.fa ?a44 ?l44 ?c44 ?k44) (L2.fa ?a45 ?l45 ?c45 ?k45) (L2.fa ?a46 ?l46 ?c46 ?k46) (L2.fa ?a47 ?l47 ?c47 ?k47) (L2.fa ?a48 ?l48 ?c48 ?k48) (L2.fa ?a49 ?l49 ?c49 ?k49) (L2.fa ?a50 ?l50 ?c50 ?k50) (L2.fa ?a51 ?l51 ?c51 ?k51) (L2.fa ?a52 ?l52 ?c52 ?k52) (L2.fa ?a53 ?l53 ?c53 ?k53) (L2.fa ?a54 ?l54 ?c54 ?k54) (L2.fa ?a55 ?l55 ?c55 ?k55) (L2.fa ?a56 ?l56 ?c56 ?k56) (L2.fa ?a57 ?l57 ?c57 ?k57) (L2.fa ?a58 ?l58 ?c58 ?k58) (L2.fa ?a59 ?l59 ?c59 ?k59) (L2.fa ?a60 ?l60 ?c60 ?k60) (L2.fa ?a61 ?l61 ?c61 ?k61) (L2.fa ?a62 ?l62 ?c62 ?k62) (L2.fa ?a63 ?l63 ?c63 ?k63) ?a64 ?l64 ?c64 ?k64 (BF.nz ?z1) (BF.nz ?z2) (BF.nz ?z3) (BF.nz ?z4) (BF.nz ?z5) (BF.nz ?z6) (BF.nz ?z7) (BF.nz ?z8) (BF.nz ?z9) (BF.nz ?z10) (BF.nz ?z11) (BF.nz ?z12) (BF.nz ?z13) (BF.nz ?z14) (BF.nz ?z15) (BF.nz ?z16) (BF.nz ?z17) ?Fd ?LV ?LW ?OL ?OM ?JI ?LX ?ON ?Tf ?J_ ?OO ?OP ?kk ?eC ?hC (BF.nz ?YO) ?eP ?hP (BF.nz ?zR) ?zS
  (case a1|l1|c1|k1|a2|l2|c2|k2|a3|l3|c3|k3|a4|l4|c4|k4|a5|l5|c5|k5|a6|l6|c6|k6|a7|l7|c7|k7|a8|l8|c8|k8|a9|l9|c9|k9|a10|l10|c10|k10|a11|l11|c11|k11|a12|l12|c12|k12|a13|l13|c13|k13|a14|l14|c14|k14|a15|l15|c15|k15|a16|l16|c16|k16|a17|l17|c17|k17|a18|l18|c18|k18|a19|l19|c19|k19|a20|l20|c20|k20|a21|l21|c21|k21|a22|l22|c22|k22|a23|l23|c23|k23|a24|l24|c24|k24|a25|l25|c25|k25|a26|l26|c26|k26|a27|l27|c27|k27|a28|l28|c28|k28|a29|l29|c29|k29|a30|l30|c30|k30|a31|l31|c31|k31|a32|l32|c32|k32|a33|l33|c33|k33|a34|l34|c34|k34|a35|l35|c35|k35|a36|l36|c36|k36|a37|l37|c37|k37|a38|l38|c38|k38|a39|l39|c39|k39|a40|l40|c40|k40|a41|l41|c41|k41|a42|l42|c42|k42|a43|l43|c43|k43|a44|l44|c44|k44|a45|l45|c45|k45|a46|l46|c46|k46|a47|l47|c47|k47|a48|l48|c48|k48|a49|l49|c49|k49|a50|l50|c50|k50|a51|l51|c51|k51|a52|l52|c52|k52|a53|l53|c53|k53|a54|l54|c54|k54|a55|l55|c55|k55|a56|l56|c56|k56|a57|l57|c57|k57|a58|l58|c58|k58|a59|l59|c59|k59|a60|l60|c60|k60|a61|l61|c61|k61|a62|l62|c62|k62|a63|l63|c63|k63|a64|l64|c64|k64|z1|z2|z3|z4|z5|z6|z7|z8|z9|z10|z11|z12|z13|z14|z15|z16|z17|Fd|LV|LW|OL|OM|JI|LX|ON|Tf|J_|OO|OP=>k_is)
  (case kk=>kernel_rfl)
  (case eC=>k_is)
  (case hC=>kernel_rfl)
  (case YO=>k_is)
  (case eP=>k_is)
  (case hP=>kernel_rfl)
  (case zR=>k_is)
  (case zS=>k_is)
#print axioms PySem.Challenge.cw_patchbough_k83_which_rows_clash_holds
