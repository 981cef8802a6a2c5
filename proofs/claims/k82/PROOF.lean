import PyProof.Rows.All
import Wide.All
import OpenK.AllK
import Wide.FinOn
import Lean
import PyProof.EqAt
import PyProof.EqKinds
import PyProof.TupleCall
import PyProof.ReprRoads
import PyProof.ReprBulk
import PyProof.ZipIter
import PyProof.P3Eq
import PyProof.Rows.Range3
import PyProof.Rows.SetFrom
import PyProof.EnumMake
import PyProof.Draws
import PySem.Challenge.RW_patchbough_k82_where_parts_stand_behind
set_option Elab.async false
set_option linter.all false
set_option maxRecDepth 100000
set_option maxHeartbeats 40000000
theorem AAA {α:Type _} {l:List α} {i:Nat} (h:i<l.length):l[i]?=some l[i]:=List.getElem?_eq_getElem h
theorem AAB {α:Type _} {l:List α} {i:Nat} {a:α} (h:l[i]?=some a):∃h:i<l.length,l[i]=a:=List.getElem?_eq_some_iff.mp h
theorem AAC {α:Type _} {a b:α} (h:some a=some b):a=b:=Option.some.inj h
theorem AAD {α:Type _} {l:List α} {i:Nat} {a:α} (h:l[i]?=some a):a∈l:=List.mem_of_getElem? h
abbrev AAE:=PySem.W.Frag
namespace L2
open PySem PySem.Spec PyProof.Rows
abbrev Key:=Sum Int Str
def JT:Key->Value->Bool
 | .inl k,v=>Value.isInt k v
 | .inr x,v=>Value.isStrOf x v
def iv (w:World):Key->Int
 | .inl k=>hashInt k
 | .inr x=>hashStr w x
theorem Bc:∀{k:Key} {v:Value},JT k v=true->(∃i t,k=Sum.inl i/\v=Value.int i t)∨(∃x t,k=Sum.inr x/\v=Value.str x t)
 | .inl i,v,h=>by
  obtain⟨t,e⟩:=Value.isInt_shape (k:=i) (v:=v) h
  exact .inl ⟨i,t,rfl,e⟩
 | .inr x,v,h=>by
  obtain⟨t,e⟩:=Value.isStrOf_shape (x:=x) (v:=v) h
  exact .inr ⟨x,t,rfl,e⟩
theorem RA (i:Int) (t:Tok):JT (.inl i) (.int i t)=true:=by simp[JT,Value.isInt]
theorem RB (x:Str) (t:Tok):JT (.inr x) (.str x t)=true:=by simp[JT,Value.isStrOf]
theorem Za (a b:Int):decide ((Sum.inl a:Key)=Sum.inl b)=(a==b):=by
 by_cases e:a=b
 ·subst e;simp
 ·have h:¬(Sum.inl a:Key)=Sum.inl b:=fun q=>e (Sum.inl.inj q)
  rw[decide_eq_false h]
  exact(beq_eq_false_iff_ne.mpr e).symm
theorem Zb (a b:Str):decide ((Sum.inr a:Key)=Sum.inr b)=decide (a=b):=by
 by_cases e:a=b
 ·subst e;simp
 ·have h:¬(Sum.inr a:Key)=Sum.inr b:=fun q=>e (Sum.inr.inj q)
  rw[decide_eq_false h,decide_eq_false e]
theorem Zc (a:Int) (b:Str):decide ((Sum.inl a:Key)=Sum.inr b)=false:=decide_eq_false (fun q=>nomatch q)
theorem Zd (a:Str) (b:Int):decide ((Sum.inr a:Key)=Sum.inl b)=false:=decide_eq_false (fun q=>nomatch q)
def A' (prog:Program) (w:World):PySem.KeyKind prog w Key where
 is:=JT
 hash:=iv w
 inj:=fun v a b ha hb=>by
  rcases Bc ha with⟨i,t,rfl,rfl⟩|⟨x,t,rfl,rfl⟩
  ·rcases Bc hb with⟨j,u,rfl,e⟩|⟨y,u,rfl,e⟩
   ·injection e with e1 _;rw[e1]
   ·exact nomatch e
  ·rcases Bc hb with⟨j,u,rfl,e⟩|⟨y,u,rfl,e⟩
   ·exact nomatch e
   ·injection e with e1 _;rw[e1]
 byValue:=fun k v h=>by
  rcases Bc h with⟨i,t,rfl,rfl⟩|⟨x,t,rfl,rfl⟩<;>rfl
 pyHash:=fun hv h=>by
  rcases Bc hv with⟨i,t,rfl,rfl⟩|⟨x,t,rfl,rfl⟩
  ·exact wpAny_pyHash_int h
  ·exact wpAny_pyHash_str h
 eqBool:=fun hu hv h=>by
  rcases Bc hu with⟨i,t,rfl,rfl⟩|⟨x,t,rfl,rfl⟩
  ·rcases Bc hv with⟨j,u,rfl,rfl⟩|⟨y,u,rfl,rfl⟩
   ·rw[Za]at h;exact wpAny_eqBool_int h
   ·rw[Zc]at h;exact SeqAt.EqAt.int_str i t y u _ _ _ _ h
  ·rcases Bc hv with⟨j,u,rfl,rfl⟩|⟨y,u,rfl,rfl⟩
   ·rw[Zd]at h;exact SeqAt.EqAt.str_int x t j u _ _ _ _ h
   ·rw[Zb]at h;exact wpAny_eqBool_str h
 «strs»:=fun k x t v h=>by
  rcases Bc h with⟨i,u,rfl,e⟩|⟨y,u,rfl,e⟩
  ·exact nomatch e
  ·injection e with e1 _
   subst e1
   cases v<;>rfl
theorem NH (prog:Program) (w:World) (i:Int) (t:Tok):(A' prog w).is (.inl i) (.int i t)=true:=RA i t
theorem NI (prog:Program) (w:World) (x:Str) (t:Tok):(A' prog w).is (.inr x) (.str x t)=true:=RB x t
inductive V where
 |BL|bl (b:Bool)|int (i:Int)|str (x:Str)|RC (b:Array UInt8)|cS (b:UInt64)|ref (a:Addr)|ty (n:String)
 deriving DecidableEq
def RelV:V->Value->Prop
 | .BL,u=>u=Value.none
 | .bl b,u=>u=Value.bool b
 | .int i,u=>∃t,u=Value.int i t
 | .str x,u=>∃t,u=Value.str x t
 | .RC b,u=>∃t,u=Value.bytes b t
 | .cS b,u=>∃t,u=Value.float b t
 | .ref a,u=>u=Value.ref a
 | .ty n,u=>u=Value.type n
abbrev Vals:List V->List Value->Prop:=Paired RelV
theorem Vals.length {xs:List V} {a:List Value} (r:Vals xs a):xs.length=a.length:=Paired.length r
theorem Vals.inv {x:V} {xs:List V} {c:List Value} (r:Vals (x::xs) c):∃u d,c=u::d/\RelV x u/\Vals xs d:=by
 cases r with
 |cons a b=>exact⟨_,_,rfl,a,b⟩
theorem Vals.get {xs:List V} {c:List Value} {i:Nat} {x:V} (r:Vals xs c) (e:xs[i]?=some x):∃u,c[i]?=some u/\RelV x u:=by
 induction r generalizing i with
 |nil=>rw[List.getElem?_nil]at e;exact nomatch e
 |cons a b d=>
  cases i with
  |zero=>exact⟨_,rfl,AAC e▸a⟩
  |succ j=>exact d (i:=j) e
theorem Vals.set {x:V} {u:Value} (r:RelV x u):∀{xs:List V} {a:List Value} (i:Nat),Vals xs a->Vals (xs.set i x) (a.set i u)
 |_,_,_,.nil=>.nil
 |_,_,0,.cons _ t=>.cons r t
 |_,_,i+1,.cons q t=>.cons q (Vals.set r i t)
theorem Vals.append {xs ys:List V} {b ws:List Value} (r:Vals xs b) (s:Vals ys ws):Vals (xs++ys) (b++ws):=by
 induction r with
 |nil=>exact s
 |cons a _ c=>exact .cons a c
theorem Vals.take:∀{xs:List V} {a:List Value} (n:Nat),Vals xs a->Vals (xs.take n) (a.take n)
 |_,_,0,_=>.nil
 |_,_,_+1,.nil=>.nil
 |_,_,n+1,.cons r t=>.cons r (Vals.take n t)
theorem Vals.drop:∀{xs:List V} {a:List Value} (n:Nat),Vals xs a->Vals (xs.drop n) (a.drop n)
 |_,_,0,r=>r
 |_,_,_+1,.nil=>.nil
 |_,_,n+1,.cons _ t=>Vals.drop n t
def Ge:Option V->Option Value->Prop
 |some v,some u=>RelV v u
 |none,none=>True
 |_,_=>False
def KV {a:Type}:List (a×V)->List (a×Value)->Prop:=Paired fun(p:a×V) (q:a×Value)=>p.1=q.1/\RelV p.2 q.2
def kV:Key->V
 | .inl i=>.int i
 | .inr x=>.str x
inductive HO where
 |lst (xs:List V)
 |tup (xs:List V)
 |dK (kvs:List (Key×V))|dT (kvs:List (List Key×V))
 |set (S:Int->Bool) (n:Nat)
 |ins (C a:Addr) (fs:List (Str×V))
 |own (x:Addr)
 |xd (fs:List (Str×V))
 |met (f x:Addr)
 |Ze (lo b:Int)
 |CK (o:Obj) (u:HO)
 |Zf (ps:Array Value)
 |ext (c:Heap->Prop)
abbrev Hp:=Addr->Option HO
def upd (H:Hp) (a:Addr) (o:HO):Hp:=fun b=>if b=a then some o else H b
theorem AE {H:Hp} {a:Addr} {o:HO}:upd H a o a=some o:=by unfold upd;rw[if_pos rfl]
theorem AN {H:Hp} {a b:Addr} {o:HO} (h:b≠a):upd H a o b=H b:=by unfold upd;rw[if_neg h]
theorem WR {H:Hp} {a:Addr} {o u:HO}:upd (upd H a o) a u=upd H a u:=by
 funext b;unfold upd;split<;>rfl
theorem Di {H:Hp} {a b:Addr} {o u:HO} (h:H a=some o) (h':H b=some u) (d:o≠u):a≠b:=by
 intro e;subst e;rw[h]at h';exact d (AAC h')
theorem Bq {H:Hp} {a b:Addr} {o:HO} (h:H a=some o) (h':H b=none):a≠b:=by
 intro e;subst e;rw[h]at h';cases h'
section
variable(P:Program) (w:World)
def BM (H:Hp) (h:Heap) (a:Addr):HO->Prop
 | .lst xs=>xs.length<=sizeLine/\∃(its:List Value) (n:Nat),Vals xs its/\h.get? a=some {cls:=.type "list",data:=.seq its.toArray n}
 | .tup xs=>xs.length<=sizeLine/\∃its:List Value,Vals xs its/\IsTup h a its.toArray
 | .dK kvs=>kvs.length<=sizeLine/\(a==sysModules)=false/\∃e,KV kvs e/\h.DictOf (A' P w) a e
 | .dT kvs=>kvs.length<=sizeLine/\(a==sysModules)=false/\∃xs:List (List Key×Addr×Value),
   Paired (fun(p:List Key×V) (q:List Key×Addr×Value)=>p.1=q.1/\H q.2.1=some (.tup (p.1.map kV))/\RelV p.2 q.2.2) kvs xs/\
   ∃o g k,h.get? a=some o/\o.ExactDict/\o.data=.dict g k/\g.toList=xs.map (entryOfKey (tupleKind (A' P w)))/\(xs.map (·.1)).Nodup
 | .set S n=>h.SetOf (intKind P w) a S n
 | .ins C c fs=>H c=some (.own a)/\fs.length<=1000/\c≠a/\h.get? a=some (PySem.W.instObj C c)/\
   ∃b,h.Ns1 c b/\(∀f,Ge (fs.lookup f) (b f))/\PySem.Within b (fs.map (·.1))
 | .own _=>∃o,h.get? a=some o
 | .xd fs=>∃b,h.Ns1 a b/\∀f,Ge (fs.lookup f) (b f)
 | .Ze lo l=>∃t u v,h.get? a=some {cls:=.type "range",data:=.fields #[.int lo t,.int l u,.int 1 v]}
 | .CK o u=>h.get? a=some o/\BM H h a u
 | .Zf m=>h.get? a=some {cls:=.none,data:=.fields m}
 | .met f x=>h.get? a=some (PySem.W.methodObj (.ref f) (.ref x))
 | .ext d=>d h/\(∃o,h.get? a=some o)/\∀i j:Heap,d i->(∀o,i.get? a=some o->j.get? a=some o)->d j
def F' (H:Hp) (h:Heap):Prop:=∀a o,H a=some o->BM P w H h a o
end
section
variable{P:Program} {w:World} {H H':Hp} {h h':Heap} {a:Addr} {o:HO}
theorem BM.lt (x:BM P w H h a o):a<h.objs.size:=by
 cases o with
 |lst b=>obtain⟨_,_,_,_,e⟩:=x;exact Heap.lt_size e
 |tup b=>obtain⟨_,_,_,p⟩:=x;exact p.lt
 |dK kvs=>obtain⟨_,_,_,_,o,_,_,e,_⟩:=x;exact Heap.lt_size e
 |dT kvs=>obtain⟨_,_,_,_,o,_,_,e,_⟩:=x;exact Heap.lt_size e
 |set S n=>obtain⟨o,_,_,_,e,_⟩:=x;exact Heap.lt_size e
 |ins C c fs=>obtain⟨_,_,_,e,_⟩:=x;exact Heap.lt_size e
 |own y=>obtain⟨_,e⟩:=x;exact Heap.lt_size e
 |xd fs=>obtain⟨_,⟨_,_,_,e,_⟩,_⟩:=x;exact Heap.lt_size e
 |Ze lo d=>obtain⟨_,_,_,e⟩:=x;exact Heap.lt_size e
 |CK g u=>obtain⟨e,_⟩:=x;exact Heap.lt_size e
 |Zf i=>exact Heap.lt_size (show h.get? a=some _ from x)
 |met f y=>exact Heap.lt_size (show h.get? a=some _ from x)
 |ext j=>obtain⟨_,⟨_,e⟩,_⟩:=x;exact Heap.lt_size e
theorem Paired.dA {e g:Type} {F G:e->g->Prop} {c:List e} {d:List g} (r:Paired F c d) (f:∀a b,F a b->G a b):Paired G c d:=by
 induction r with
 |nil=>exact .nil
 |cons a _ i=>exact .cons (f _ _ a) i
theorem BM.Kl (x:BM P w H h a o) (k:∀b u,(b=a∨H b=some (.own a))->h.get? b=some u->h'.get? b=some u)
  (B:∀b,H b=some (.own a)->H' b=some (.own a)) (D:∀b xs,H b=some (.tup xs)->H' b=some (.tup xs)):BM P w H' h' a o:=by
 induction o with
 |lst xs=>obtain⟨z,l,n,r,e⟩:=x;exact⟨z,l,n,r,k _ _ (.inl rfl) e⟩
 |tup xs=>obtain⟨z,l,r,g,e,c⟩:=x;exact⟨z,l,r,g,k _ _ (.inl rfl) e,c⟩
 |dK kvs=>obtain⟨z,y,E,r,g,i,j,e,c⟩:=x;exact⟨z,y,E,r,g,i,j,k _ _ (.inl rfl) e,c⟩
 |dT kvs=>
  obtain⟨z,y,xs,r,g,i,j,e,c⟩:=x
  exact⟨z,y,xs,Paired.dA r fun p q z=>⟨z.1,D _ _ z.2.1,z.2.2⟩,g,i,j,k _ _ (.inl rfl) e,c⟩
 |set S n=>obtain⟨g,i,j,t,e,c⟩:=x;exact⟨g,i,j,t,k _ _ (.inl rfl) e,c⟩
 |ins C J fs=>
  obtain⟨d,z,F,e,m,⟨s,i,j,G,c⟩,r⟩:=x
  exact⟨B _ d,z,F,k _ _ (.inl rfl) e,m,⟨s,i,j,k _ _ (.inr d) G,c⟩,r⟩
 |own y=>obtain⟨g,e⟩:=x;exact⟨g,k _ _ (.inl rfl) e⟩
 |xd fs=>obtain⟨m,⟨s,i,j,e,c⟩,r⟩:=x;exact⟨m,⟨s,i,j,k _ _ (.inl rfl) e,c⟩,r⟩
 |Ze lo K=>obtain⟨t,u,v,e⟩:=x;exact⟨t,u,v,k _ _ (.inl rfl) e⟩
 |CK g u I=>obtain⟨e,q⟩:=x;exact⟨k _ _ (.inl rfl) e,I q⟩
 |Zf A=>
  have e:h.get? a=some {cls:=.none,data:=.fields A}:=x
  show h'.get? a=some {cls:=.none,data:=.fields A}
  exact k a _ (.inl rfl) e
 |met f y=>
  have e:h.get? a=some (PySem.W.methodObj (.ref f) (.ref y)):=x
  show h'.get? a=some (PySem.W.methodObj (.ref f) (.ref y))
  exact k a _ (.inl rfl) e
 |ext L=>obtain⟨p,⟨o,e⟩,st⟩:=x;exact⟨st _ _ p fun o q=>k _ _ (.inl rfl) q,⟨o,k _ _ (.inl rfl) e⟩,st⟩
theorem F'.lt (x:F' P w H h) (e:H a=some o):a<h.objs.size:=(x a o e).lt
theorem F'.fresh (x:F' P w H h) (e:h.objs.size<=a):H a=none:=by
 cases q:H a with
 |none=>rfl
 |some u=>exact absurd (Nat.lt_of_lt_of_le (x.lt q) e) (Nat.lt_irrefl _)
theorem F'.kept (x:F' P w H h) (k:∀b u,h.get? b=some u->h'.get? b=some u):F' P w H h':=fun a o e=>
 (x a o e).Kl (fun b u _ q=>k b u q) (fun _ q=>q) fun _ _ q=>q
theorem F'.laid (x:F' P w H h) (k:∀b u,h.get? b=some u->h'.get? b=some u) (g:h.objs.size<=a) (new:BM P w (upd H a o) h' a o):F' P w (upd H a o) h':=fun b u e=>by
 have d:=x.fresh g
 by_cases f:b=a
 ·subst f;rw[AE]at e;cases e;exact new
 ·rw[AN f]at e
  exact(x b u e).Kl (fun c v _ q=>k c v q) (fun c q=>by rw[AN (Bq q d)];exact q) fun c i q=>by rw[AN (Bq q d)];exact q
end
def Rd (H:Hp) (a:Addr) (u:HO):Prop:=H a=some u∨∃o,H a=some (.CK o u)
theorem Rd.ok {P:Program} {w:World} {H:Hp} {h:Heap} {a:Addr} {u:HO} (r:Rd H a u) (x:F' P w H h):BM P w H h a u:=by
 rcases r with r|⟨o,r⟩
 ·exact x a u r
 ·obtain⟨_,q⟩:=x a _ r
  exact q
def dB:Option HO->Prop
 |some (.lst _)=>True
 |some (.dK _)=>True
 |some (.dT _)=>True
 |some (.set _ _)=>True
 |some (.ins _ _ _)=>True
 |some (.ext _)=>True
 |_=>False
section
variable{P:Program} {w:World} {H:Hp} {h h':Heap} {x e:Addr} {o':HO}
theorem F'.write (ok:F' P w H h) (g:dB (H x)) (n:e=x∨H e=some (.own x)) (k:∀b u,b≠e->h.get? b=some u->h'.get? b=some u) (m:∃u,h'.get? e=some u)
  (new:BM P w (upd H x o') h' x o'):F' P w (upd H x o') h':=fun b u q=>by
 have d:∀c y,H c=some (.own y)->c≠x:=fun c y r z=>by subst z;rw[r]at g;exact g
 have f:∀c i,H c=some (.tup i)->c≠x:=fun c i r z=>by subst z;rw[r]at g;exact g
 by_cases j:b=x
 ·subst j;rw[AE]at q;cases q;exact new
 ·rw[AN j]at q
  by_cases a:b=e
  ·have o:H b=some (.own x):=by
    rcases n with z|z
    ·exact absurd (a.trans z) j
    ·rw[a];exact z
   rw[q]at o;cases o
   obtain⟨v,p⟩:=m
   exact⟨v,by rw[a];exact p⟩
  ·refine(ok b u q).Kl (fun c v l r=>k c v ?_ r) (fun c r=>by rw[AN (d c b r)];exact r) fun c i r=>by rw[AN (f c i r)];exact r
   rcases l with rfl|l
   ·exact a
   ·rintro rfl
    rcases n with z|z
    ·exact d c b l z
    ·rw[l]at z;cases z;exact j rfl
end
structure Un (fs ex:List Addr) (H H':Hp) (h h':Heap):Prop where
 keep:∀b o,h.get? b=some o->H b=none->b∉fs->b∉ex->h'.get? b=some o
 slot:∀b o,h.get? b=some o->H b=none->b∈fs->b∉ex->∃sl,h'.get? b=some {o with slots:=sl}
 free:∀b o,h.get? b=some o->H b=none->b∉ex->H' b=none
 there:∀b o,h.get? b=some o->b∉ex->∃o',h'.get? b=some o'
 Km:∀b xs,H b=some (.tup xs)->H' b=some (.tup xs)
 JU:∀b o u,H b=some (.CK o u)->H' b=some (.CK o u)
 Lw:∀b ps,H b=some (.Zf ps)->∃more,H' b=some (.Zf (ps++more))
section
variable{fs uo ex zK:List Addr} {H H1 H2:Hp} {h h1 h2 h':Heap} {a x e:Addr} {o:HO}
theorem Un.any (u:Un fs ex H H1 h h1) {b:Addr} {c:Obj} (q:h.get? b=some c) (n:H b=none) (d:b∉ex):∃g,h1.get? b=some {c with slots:=g}:=by
 by_cases f:b∈fs
 ·exact u.slot b c q n f d
 ·exact⟨c.slots,u.keep b c q n f d⟩
theorem Un.kept (k:∀b u,h.get? b=some u->h'.get? b=some u):Un fs ex H H h h':=
 ⟨fun b c q _ _ _=>k b c q,fun b c q _ _ _=>⟨c.slots,k b c q⟩,fun _ _ _ n _=>n,fun b c q _=>⟨c,k b c q⟩,fun _ _ q=>q,fun _ _ _ q=>q,fun _ d q=>⟨#[],by rw[q];simp⟩⟩
theorem Un.refl:Un fs ex H H h h:=Un.kept fun _ _ q=>q
theorem Un.laid (k:∀b u,h.get? b=some u->h'.get? b=some u) (hp:h.objs.size<=a) (hn:H a=none):Un fs ex H (upd H a o) h h' where
 keep:=fun b u q _ _ _=>k b u q
 slot:=fun b u q _ _ _=>⟨u.slots,k b u q⟩
 free:=fun b u q n _=>by rw[AN (Nat.ne_of_lt (Nat.lt_of_lt_of_le (Heap.lt_size q) hp))];exact n
 there:=fun b u q _=>⟨u,k b u q⟩
 Km:=fun b xs q=>by rw[AN (Bq q hn)];exact q
 JU:=fun b u xs q=>by rw[AN (Bq q hn)];exact q
 Lw:=fun b ps q=>⟨#[],by rw[AN (Bq q hn),q];simp⟩
theorem Un.write (d:dB (H x)) (l:e=x∨H e=some (.own x)) (k:∀b u,b≠e->h.get? b=some u->h'.get? b=some u) (f:∃u,h'.get? e=some u):Un fs ex H (upd H x o) h h':=by
 have i:∀b,H b=none->b≠x:=fun b n z=>by subst z;rw[n]at d;exact d
 have j:∀b,H b=none->b≠e:=fun b n z=>by
  subst z
  rcases l with r|r
  ·exact i b n r
  ·rw[n]at r;cases r
 have g:∀b u,H b=some u->¬dB (some u)->b≠x:=fun b u q m z=>by subst z;rw[q]at d;exact m d
 refine⟨fun b u q n _ _=>k b u (j b n) q,fun b u q n _ _=>⟨u.slots,k b u (j b n) q⟩,fun b u q n _=>by rw[AN (i b n)];exact n,fun b u q _=>?_,
  fun b p q=>by rw[AN (g b _ q fun z=>z)];exact q,fun b u p q=>by rw[AN (g b _ q fun z=>z)];exact q,fun b s q=>⟨#[],by rw[AN (g b _ q fun z=>z),q];simp⟩⟩
 by_cases c:b=e
 ·subst c;exact f
 ·exact⟨u,k b u c q⟩
end
def hR (h:Heap) (H:Hp):List Addr:=(List.range h.objs.size).filter fun a=>(H a).isSome
def Lx (h:Heap) (H:Hp):Heap:=PySem.W.hideAll h (hR h H)
theorem RD (h:Heap) (H:Hp):(Lx h H).objs.size=h.objs.size:=PySem.W.hideAll_size _ _
theorem TF {h:Heap} {H:Hp} {b:Addr} {o:Obj} (e:h.get? b=some o) (n:H b=none):(Lx h H).get? b=some o:=
 PySem.W.hideAll_get _ e fun a=>by
  have q:(H b).isSome=true:=(List.mem_filter.mp a).2
  rw[n]at q;simp at q
theorem WS {h:Heap} {H:Hp} {b:Addr} {o:Obj} (e:(Lx h H).get? b=some o):h.get? b=some o/\H b=none:=by
 have a:h.get? b=some o:=PySem.W.of_hideAll (hR h H) e
 refine⟨a,?_⟩
 cases q:H b with
 |none=>rfl
 |some x=>
  have c:b∈hR h H:=List.mem_filter.mpr ⟨List.mem_range.mpr (Heap.lt_size a),by simp[q]⟩
  have z:(Lx h H).get? b=none:=PySem.W.hideAll_none (hR h H) c
  rw[z]at e;cases e
def WT (g h:Heap) (L:Addr):List (Addr×Obj):=(List.range h.objs.size).filterMap fun a=>if a=L∨(g.get? a).isSome=true then none else(h.get? a).map fun o=>(a,o)
def rest (g h:Heap) (L d:Addr):List (Addr×Obj):=(WT g h L).filter fun p=>decide (p.1≠d)
structure Mod (K:AAE) (mg:Str->Option Value) (base:Heap):Prop where
 iw:K.In base
 glob:base.Ns mainGlobals mg
 blt:∃mb,base.Ns builtinsNs mb/\∀x:Str,x≠"__name__"->mb x=bootBuiltins x
 nolimit:base.NoLimit
structure Cx where
 prog:Program
 w:World
 K:AAE
 mg:Str->Option Value
 base:Heap
 A:Around
 N:List Str
 s₀:Shared
 H₀:Hp
 env:Env
 outer:List Env
 stack:List Env
 ex:List Addr
 fn:Str->Bool
 calm:Bool
 pn:List (Addr×Obj)
 xe:Value->Shared->Prop
def Sw (l:List Env):List Addr:=l.filterMap (·.frame)
abbrev Cx.fs (X:Cx):List Addr:=Sw X.outer
def iy (a:Scope) (x:Str):Prop:=a.names.lookup x=some .local∨a.names.lookup x=some .cell∨a.names.lookup x=some .free
def Loc (a:Scope) (x:Str):Prop:=a.names.lookup x=some .local∨a.names.lookup x=some .cell
def Look (env:Env) (h:Heap) (m:Str->Option Value) (x:Str) (u:Value):Prop:=
 (env.kindOf x=some .local/\m x=some u)∨((env.kindOf x=some .cell∨env.kindOf x=some .free)/\∃c,env.cells.lookup x=some c/\h.IsCell c (some u))
structure Cx.Ok (X:Cx):Prop where
 mod:Mod X.K X.mg X.base
 kind:X.env.scope.kind=.function
 glob:X.env.globals=mainGlobals
 blt:X.env.builtins=builtinsNs
 above:X.s₀.heap.objs.size<=X.env.locals
 inj:∀x y c,X.env.cells.lookup x=some c->X.env.cells.lookup y=some c->x=y
 has:∀x,(X.env.kindOf x=some .cell∨X.env.kindOf x=some .free)->∃c,X.env.cells.lookup x=some c
 dC:∀x c,X.fn x=true->X.env.cells.lookup x=some c->X.s₀.heap.objs.size<=c
 hd:X.calm=true->X.A.handled=none
 frames:X.A.frames=some X.stack
 hU:X.stack=X.outer∨(X.stack=X.env::X.outer/\X.env.frame=some X.env.locals)
 cT:∀b∈X.ex,b≠X.env.locals/\∀x c,X.env.cells.lookup x=some c->c≠b
 bs:∀b o,X.base.get? b=some o->X.s₀.heap.get? b=some o/\X.H₀ b=none
 Sx:X.base.objs.size<=X.s₀.heap.objs.size
 RE:∀b o,X.base.get? b=some o->b∉X.ex
 RF:∀b∈X.ex,b∉X.fs
 JV:X.s₀.heap.FunFrames X.base X.outer
 cU:∀b∈X.fs,X.H₀ b=none
structure Inv (X:Cx) (pins:List (Addr×Obj)) (σ:List (Option V)) (H:Hp) (s:Shared):Prop where
 ok:X.Ok
 os:s.os=X.s₀.os
 bare:AllBare s.gens
 base:Un X.fs X.ex X.H₀ H X.s₀.heap s.heap
 loc:∃m,s.heap.Ns X.env.locals m/\∀(i:Nat) (x:Str) (v:V),X.N[i]?=some x->σ[i]?=some (some v)->iy X.env.scope x->∃u,RelV v u/\Look X.env s.heap m x u
 cell:∀x c,X.env.cells.lookup x=some c->∃v,s.heap.IsCell c v
 free:H X.env.locals=none
 ET:∀x c,X.env.cells.lookup x=some c->H c=none
 pin:∀p∈X.pn++pins,s.heap.get? p.1=some p.2/\H p.1=none/\p.1≠X.env.locals/\p.1∉X.fs/\∀v,p.2.data≠.cell v
 BV:F' X.prog X.w H s.heap
 len:σ.length=X.N.length
section
variable{X:Cx} {pins:List (Addr×Obj)} {σ:List (Option V)} {H H':Hp} {s:Shared} {h':Heap}
theorem Cx.Ok.iz (ok:X.Ok) {b:Addr} {o:Obj} (e:X.base.get? b=some o):b∉X.fs:=fun a=>by
 have:=(ok.JV.mem a).1
 rw[e]at this;cases this
theorem Inv.bs (I:Inv X pins σ H s):∀b o,X.base.get? b=some o->s.heap.get? b=some o/\H b=none:=fun b o e=>
 ⟨I.base.keep b o (I.ok.bs b o e).1 (I.ok.bs b o e).2 (I.ok.iz e) (I.ok.RE b o e),I.base.free b o (I.ok.bs b o e).1 (I.ok.bs b o e).2 (I.ok.RE b o e)⟩
theorem Inv.bk (I:Inv X pins σ H s):∀b o,X.base.get? b=some o->s.heap.get? b=some o:=fun b o e=>(I.bs b o e).1
theorem Inv.mod (I:Inv X pins σ H s):Mod X.K X.mg X.base:=I.ok.mod
theorem Inv.IU (I:Inv X pins σ H s):X.K.In s.heap:=I.ok.mod.iw.keeps I.bk
theorem Inv.lt (I:Inv X pins σ H s):X.env.locals<s.heap.objs.size:=let⟨_,a,_⟩:=I.loc;a.lt
theorem Inv.sz (I:Inv X pins σ H s):X.s₀.heap.objs.size<=s.heap.objs.size:=Nat.le_trans I.ok.above (Nat.le_of_lt I.lt)
theorem Inv.i_ (I:Inv X pins σ H s) {a:Addr} (h:s.heap.objs.size<=a):a∉X.fs:=fun b=>by
 obtain⟨_,o,c,_⟩:=I.ok.JV.mem b
 exact absurd (Nat.lt_of_lt_of_le (Heap.lt_size c) (Nat.le_trans I.sz h)) (Nat.lt_irrefl _)
theorem Inv.Zg (I:Inv X pins σ H s):∀x c,X.env.cells.lookup x=some c->c≠X.env.locals:=fun x c e z=>by
 obtain⟨v,o,d,f⟩:=I.cell x c e
 obtain⟨m,⟨g,h,i,a,b,_⟩,_⟩:=I.loc
 rw[z,a]at d;cases d;rw[b]at f;cases f
theorem Inv.JV (I:Inv X pins σ H s):s.heap.FunFrames X.base X.outer:=by
 have all:∀(l:List Env),(∀b∈Sw l,b∈X.fs)->X.s₀.heap.FunFrames X.base l->s.heap.FunFrames X.base l:=by
  intro l
  induction l with
  |nil=>intro _ _;trivial
  |cons env r g=>
   intro f h
   obtain⟨i,⟨L,o,a,j,k,m⟩,n⟩:=h
   have c:L∈X.fs:=f L (by unfold Sw;rw[List.filterMap_cons,a];exact List.mem_cons_self)
   obtain⟨p,e⟩:=I.base.slot L o k (I.ok.cU L c) c fun z=>I.ok.RF L z c
   exact⟨i,⟨L,_,a,j,e,m⟩,g (fun b d=>f b (by unfold Sw;rw[List.filterMap_cons,a];exact List.mem_cons_of_mem _ d)) n⟩
 exact all X.outer (fun _ d=>d) I.ok.JV
theorem Inv.stack (I:Inv X pins σ H s):s.heap.FunFrames X.base X.stack:=by
 rcases I.ok.hU with e|⟨e,a⟩
 ·rw[e];exact I.JV
 ·rw[e]
  obtain⟨m,b,_⟩:=I.loc
  refine .cons (by rw[I.ok.kind];decide) a b ?_ I.JV
  exact Heap.get?_none_of_le (Nat.le_trans I.ok.Sx I.ok.above)
theorem Inv.Ly (I:Inv X pins σ H s):∀b∈Sw X.stack,b∈X.env.locals::X.fs:=fun b a=>by
 rcases I.ok.hU with e|⟨e,c⟩
 ·rw[e]at a;exact List.mem_cons_of_mem _ a
 ·rw[e]at a
  unfold Sw at a
  rw[List.filterMap_cons,c]at a
  exact a
theorem Inv.Lz (I:Inv X pins σ H s):∀b∈Sw X.stack,H b=none:=fun b a=>by
 rcases List.mem_cons.mp (I.Ly b a)with e|a
 ·rw[e];exact I.free
 ·obtain⟨_,o,c,_⟩:=I.ok.JV.mem a
  exact I.base.free b o c (I.ok.cU b a) fun z=>I.ok.RF b z a
theorem Inv.step {g':Array GenState} {t':Nat} {d':Drawn} {ch:List Addr} (I:Inv X pins σ H s)
  (f:∀b∈ch,(b∈X.ex∨X.s₀.heap.objs.size<=b)/\b≠X.env.locals/\(∀x c,X.env.cells.lookup x=some c->c≠b)/\∀p∈X.pn++pins,p.1≠b)
  (keep:∀b o,b≠X.env.locals->b∉X.fs->b∉ch->s.heap.get? b=some o->H b=none->h'.get? b=some o)
  (slot:∀b o,b≠X.env.locals->b∈X.fs->b∉ch->s.heap.get? b=some o->H b=none->∃F,h'.get? b=some {o with slots:=F}) (free:∀b o,b∉ch->s.heap.get? b=some o->H b=none->H' b=none)
  (there:∀b o,b∉ch->s.heap.get? b=some o->∃B,h'.get? b=some B)
  (Km:∀b t,H b=some (.tup t)->H' b=some (.tup t)) (JU:∀b o u,H b=some (.CK o u)->H' b=some (.CK o u)) (Lw:∀b E,H b=some (.Zf E)->∃more,H' b=some (.Zf (E++more)))
  (O:∀m,s.heap.Ns X.env.locals m->h'.Ns X.env.locals m) (G:F' X.prog X.w H' h') (P:AllBare g'):
  Inv X pins σ H' {s with heap:=h',gens:=g',drawn:=d',toks:=t'}:=by
 have C:∀b o,X.s₀.heap.get? b=some o->b≠X.env.locals:=fun b o e=>Nat.ne_of_lt (Nat.lt_of_lt_of_le (Heap.lt_size e) I.ok.above)
 have h:∀b o,X.s₀.heap.get? b=some o->b∉X.ex->b∉ch:=fun b o e a y=>by
  rcases(f b y).1 with z|z
  ·exact a z
  ·exact absurd (Nat.lt_of_lt_of_le (Heap.lt_size e) z) (Nat.lt_irrefl _)
 have cellK:∀x c,X.env.cells.lookup x=some c->∀v,s.heap.IsCell c v->h'.IsCell c v:=fun x c e v ⟨o,A,J⟩=>by
  have g:c∉ch:=fun z=>(f c z).2.2.1 x c e rfl
  by_cases L:c∈X.fs
  ·obtain⟨F,q⟩:=slot c o (I.Zg x c e) L g A (I.ET x c e)
   exact⟨_,q,J⟩
  ·exact⟨o,keep c o (I.Zg x c e) L g A (I.ET x c e),J⟩
 refine⟨I.ok,I.os,P,⟨fun b o e n y a=>?_,fun b o e n y a=>?_,fun b o e n a=>?_,fun b o e a=>?_,fun b t e=>Km b t (I.base.Km b t e),fun b o t e=>JU b o t (I.base.JU b o t e),fun b E e=>?_⟩,?_,fun x c e=>?_,?_,fun x c e=>?_,fun p M=>?_,G,I.len⟩
 ·exact keep b o (C b o e) y (h b o e a) (I.base.keep b o e n y a) (I.base.free b o e n a)
 ·obtain⟨F,j⟩:=I.base.slot b o e n y a
  obtain⟨K,D⟩:=slot b _ (C b o e) y (h b o e a) j (I.base.free b o e n a)
  exact⟨K,D⟩
 ·obtain⟨B,j⟩:=I.base.there b o e a
  exact free b B (h b o e a) j (I.base.free b o e n a)
 ·obtain⟨B,j⟩:=I.base.there b o e a
  exact there b B (h b o e a) j
 ·obtain⟨Q,j⟩:=I.base.Lw b E e
  obtain⟨R,D⟩:=Lw b _ j
  exact⟨Q++R,by rw[D,Array.append_assoc]⟩
 ·obtain⟨m,S,T⟩:=I.loc
  refine⟨m,O m S,fun i x v j D U=>?_⟩
  obtain⟨u,r,l⟩:=T i x v j D U
  refine⟨u,r,?_⟩
  rcases l with l|⟨k,c,e,z⟩
  ·exact .inl l
  ·exact .inr ⟨k,c,e,cellK x c e _ z⟩
 ·obtain⟨v,z⟩:=I.cell x c e
  exact⟨v,cellK x c e v z⟩
 ·obtain⟨m,⟨o,_,_,A,_⟩,_⟩:=I.loc
  exact free _ o (fun z=>(f _ z).2.1 rfl) A I.free
 ·obtain⟨v,o,A,J⟩:=I.cell x c e
  exact free c o (fun z=>(f c z).2.2.1 x c e rfl) A (I.ET x c e)
 ·obtain⟨e,n,N,nf,d⟩:=I.pin p M
  have g:p.1∉ch:=fun z=>(f p.1 z).2.2.2 p M rfl
  exact⟨keep p.1 p.2 N nf g e n,free p.1 p.2 g e n,N,nf,d⟩
theorem Inv.un {t':Nat} (I:Inv X pins σ H s) (u:Un X.fs [] H H' s.heap h') (c:F' X.prog X.w H' h'):Inv X pins σ H' {s with heap:=h',toks:=t'}:=by
 obtain⟨m,⟨o,l,p,h,r⟩,_⟩:=id I.loc
 obtain⟨q,i⟩:=u.any h I.free (by simp)
 exact I.step (g':=s.gens) (d':=s.drawn) (ch:=[]) (fun _ z=>nomatch z) (fun b o _ d _ e n=>u.keep b o e n d (by simp)) (fun b o _ d _ e n=>u.slot b o e n d (by simp)) (fun b o _ e n=>u.free b o e n (by simp)) (fun b o _ e=>u.there b o e (by simp)) u.Km u.JU u.Lw (fun t j=>by
  obtain⟨v,f,g,a,k⟩:=j
  rw[h]at a;cases a
  exact⟨_,f,g,i,k⟩) c I.bare
theorem Inv.call {g':Array GenState} {t':Nat} {d':Drawn} {ch:List Addr} (I:Inv X pins σ H s) (u:Un (Sw X.stack) ch H H' s.heap h') (g:F' X.prog X.w H' h') (l:AllBare g')
  (d:∀b∈ch,(b∈X.ex∨X.s₀.heap.objs.size<=b)/\b≠X.env.locals/\(∀x c,X.env.cells.lookup x=some c->c≠b)/\∀p∈X.pn++pins,p.1≠b):
  Inv X pins σ H' {s with heap:=h',gens:=g',drawn:=d',toks:=t'}:=by
 obtain⟨m,⟨o,y,A,k,r⟩,_⟩:=id I.loc
 obtain⟨B,h⟩:=u.any k I.free fun z=>(d _ z).2.1 rfl
 exact I.step (ch:=ch) d (fun b o h q a e n=>u.keep b o e n (fun z=>(List.mem_cons.mp (I.Ly b z)).elim h q) a) (fun b o _ _ a e n=>u.any e n a) (fun b o a e n=>u.free b o e n a) (fun b o a e=>u.there b o e a) u.Km u.JU u.Lw (fun C t=>by
  obtain⟨D,i,j,f,v⟩:=t
  rw[k]at f;cases f
  exact⟨_,i,j,h,v⟩) g l
theorem Inv.turned {t':Nat} {it:Addr} (I:Inv X pins σ H s) (k:∀b o,b≠it->s.heap.get? b=some o->h'.get? b=some o) (g:H it=none) (f:it≠X.env.locals)
  (h:it∈X.ex∨X.s₀.heap.objs.size<=it) (i:∀x c,X.env.cells.lookup x=some c->c≠it) (j:∀p∈X.pn++pins,p.1≠it):Inv X pins σ H {s with heap:=h',toks:=t'}:=by
 have d:∀b u,H b=some u->b≠it:=fun b u e z=>by rw[z,g]at e;cases e
 refine I.step (g':=s.gens) (d':=s.drawn) (ch:=[it]) (fun b l=>?_) (fun b o _ _ a e _=>k b o (fun z=>a (by simp[z])) e) (fun b o _ _ a e _=>⟨o.slots,k b o (fun z=>a (by simp[z])) e⟩) (fun _ _ _ _ n=>n)
  (fun b o a e=>⟨o,k b o (fun z=>a (by simp[z])) e⟩) (fun _ _ e=>e) (fun _ _ _ e=>e) (fun b B e=>⟨#[],by rw[e];simp⟩) (fun m t=>?_) (fun b u e=>?_) I.bare
 ·have e:b=it:=by simpa using l
  subst e
  exact⟨h,f,i,j⟩
 ·obtain⟨o,w,y,A,r⟩:=t
  exact⟨o,w,y,k _ o (Ne.symm f) A,r⟩
 ·refine(I.BV b u e).Kl (fun c v a q=>k c v ?_ q) (fun _ q=>q) fun _ _ q=>q
  rcases a with z|z
  ·rw[z];exact d b u e
  ·exact d c _ z
theorem Inv.tok (I:Inv X pins σ H s) (t:Nat):Inv X pins σ H {s with toks:=t}:=I.un (h':=s.heap) (t':=t) Un.refl I.BV
theorem Inv.kept {t':Nat} (I:Inv X pins σ H s) (k:∀b u,s.heap.get? b=some u->h'.get? b=some u):Inv X pins σ H {s with heap:=h',toks:=t'}:=I.un (Un.kept k) (I.BV.kept k)
theorem Inv.laid {a:Addr} {o:HO} {t':Nat} (I:Inv X pins σ H s) (k:∀b u,s.heap.get? b=some u->h'.get? b=some u) (c:s.heap.objs.size<=a) (new:BM X.prog X.w (upd H a o) h' a o):
  Inv X pins σ (upd H a o) {s with heap:=h',toks:=t'}:=I.un (Un.laid k c (I.BV.fresh c)) (I.BV.laid k c new)
theorem Inv.write {x e:Addr} {o:HO} {t':Nat} (I:Inv X pins σ H s) (c:dB (H x)) (d:e=x∨H e=some (.own x)) (k:∀b u,b≠e->s.heap.get? b=some u->h'.get? b=some u) (a:∃u,h'.get? e=some u)
  (new:BM X.prog X.w (upd H x o) h' x o):Inv X pins σ (upd H x o) {s with heap:=h',toks:=t'}:=I.un (Un.write c d k a) (I.BV.write c d k a new)
theorem Inv.QM {a:List (Addr×Obj)} (I:Inv X pins σ H s) (h:∀p∈a,s.heap.get? p.1=some p.2/\H p.1=none/\p.1≠X.env.locals/\p.1∉X.fs/\∀v,p.2.data≠.cell v):Inv X a σ H s:=
 ⟨I.ok,I.os,I.bare,I.base,I.loc,I.cell,I.free,I.ET,fun p b=>(List.mem_append.mp b).elim (fun z=>I.pin p (List.mem_append_left _ z)) (h p),I.BV,I.len⟩
theorem DT {N:List Str} (c:N.Nodup) {i j:Nat} {x:Str} (a:N[i]?=some x) (b:N[j]?=some x):i=j:=by
 obtain⟨f,d⟩:=AAB a
 obtain⟨g,e⟩:=AAB b
 exact(List.getElem_inj c).mp (d.trans e.symm)
theorem Kw {M:Model} {A:Around} {E:Value->Shared->Prop} {i:Nat} {x:Str} {v:V} {u:Value} {Q:Unit->Shared->Prop} (I:Inv X pins σ H s) (hN:X.N.Nodup) (L:X.N[i]?=some x) (t:Loc X.env.scope x) (r:RelV v u)
  (h:∀Z,Inv X pins (σ.set i (some v)) H Z->(∃a,Heap.SameBut a s.heap Z.heap/\(a=X.env.locals∨X.env.cells.lookup x=some a))->Q () Z) (hf:X.fn x=true∨X.env.scope.names.lookup x=some .local:=by first|exact .inl rfl|exact .inr rfl|assumption):wpAny M A (storeName X.env x u) Q E s:=by
 obtain⟨m,hn,hl⟩:=id I.loc
 have O:(X.env.scope.kind==.class||(X.env.scope.kind==.module&&X.env.locals !=X.env.globals))=false:=by rw[I.ok.kind];rfl
 have D:i<σ.length:=by rw[I.len];exact(AAB L).1
 have Zg:=I.Zg
 have tracked:∀{a:Addr} {h':Heap},(∃o,s.heap.get? a=some o/\H a=none)->Heap.SameBut a s.heap h'->F' X.prog X.w H h':=fun{a h'} ha f b ob e=>by
  obtain⟨_,_,B⟩:=ha
  refine(I.BV b ob e).Kl (fun c U l q=>(f.2 c ?_).trans q) (fun _ q=>q) fun _ _ q=>q
  rintro rfl
  rcases l with rfl|l
  ·rw[B]at e;cases e
  ·rw[B]at l;cases l
 rcases t with F|F
 ·refine wpAny_storeName_local F hn (fun h' ur f=>?_) O
  obtain⟨oL,_,_,uu,_⟩:=id hn
  refine h _ ⟨I.ok,I.os,I.bare,⟨fun b o e n G t=>?_,fun b o e n G t=>?_,I.base.free,fun b o e t=>?_,I.base.Km,I.base.JU,I.base.Lw⟩,⟨_,ur,fun j y v' g C e3=>?_⟩,fun y c e=>?_,I.free,I.ET,fun p hp=>?_,tracked ⟨oL,uu,I.free⟩ f,by simpa using I.len⟩ ⟨_,f,.inl rfl⟩
  ·exact(f.2 b (Nat.ne_of_lt (Nat.lt_of_lt_of_le (Heap.lt_size e) I.ok.above))).trans (I.base.keep b o e n G t)
  ·obtain⟨sl,g⟩:=I.base.slot b o e n G t
   exact⟨sl,(f.2 b (Nat.ne_of_lt (Nat.lt_of_lt_of_le (Heap.lt_size e) I.ok.above))).trans g⟩
  ·obtain⟨o',g⟩:=I.base.there b o e t
   exact⟨o',(f.2 b (Nat.ne_of_lt (Nat.lt_of_lt_of_le (Heap.lt_size e) I.ok.above))).trans g⟩
  ·by_cases J:j=i
   ·subst J
    rw[L]at g;cases g
    rw[List.getElem?_set_self D]at C
    cases C
    exact⟨u,r,.inl ⟨F,by simp⟩⟩
   ·rw[List.getElem?_set_ne (Ne.symm J)]at C
    obtain⟨u',r',q⟩:=hl j y v' g C e3
    refine⟨u',r',?_⟩
    rcases q with⟨k,e⟩|⟨k,c,e,z⟩
    ·refine .inl ⟨k,?_⟩
     have:y≠x:=fun e=>J (DT hN g (e▸L))
     simp[this,e]
    ·exact .inr ⟨k,c,e,z.sameBut f (Zg y c e)⟩
  ·obtain⟨U,z⟩:=I.cell y c e
   exact⟨U,z.sameBut f (Zg y c e)⟩
  ·obtain⟨e,n,W,nf,d⟩:=I.pin p hp
   exact⟨(f.2 p.1 W).trans e,n,W,nf,d⟩
 ·have K:X.fn x=true:=by
   rcases hf with z|z
   ·exact z
   ·rw[z]at F;cases F
  obtain⟨c,l⟩:=I.ok.has x (.inl F)
  obtain⟨U,z⟩:=I.cell x c l
  refine wpAny_storeName_cell I.ok.kind F l z (fun h' P f=>?_)
  obtain⟨oc,R,S⟩:=id z
  refine h {s with heap:=h'} ⟨I.ok,I.os,I.bare,⟨fun b o e n G t=>?_,fun b o e n G t=>?_,I.base.free,fun b o e t=>?_,I.base.Km,I.base.JU,I.base.Lw⟩,⟨m,hn.sameBut f (Ne.symm (Zg x c l)),fun j y v' g C e3=>?_⟩,fun y Y e=>?_,I.free,I.ET,fun p hp=>?_,tracked ⟨oc,R,I.ET x c l⟩ f,by simpa using I.len⟩ ⟨c,f,.inr l⟩
  ·exact(f.2 b (Nat.ne_of_lt (Nat.lt_of_lt_of_le (Heap.lt_size e) (I.ok.dC x c K l)))).trans (I.base.keep b o e n G t)
  ·obtain⟨sl,g⟩:=I.base.slot b o e n G t
   exact⟨sl,(f.2 b (Nat.ne_of_lt (Nat.lt_of_lt_of_le (Heap.lt_size e) (I.ok.dC x c K l)))).trans g⟩
  ·obtain⟨o',g⟩:=I.base.there b o e t
   exact⟨o',(f.2 b (Nat.ne_of_lt (Nat.lt_of_lt_of_le (Heap.lt_size e) (I.ok.dC x c K l)))).trans g⟩
  ·by_cases J:j=i
   ·subst J
    rw[L]at g;cases g
    rw[List.getElem?_set_self D]at C
    cases C
    exact⟨u,r,.inr ⟨.inl F,c,l,P⟩⟩
   ·rw[List.getElem?_set_ne (Ne.symm J)]at C
    obtain⟨u',r',q⟩:=hl j y v' g C e3
    refine⟨u',r',?_⟩
    rcases q with q|⟨k,Y,e,z'⟩
    ·exact .inl q
    ·refine .inr ⟨k,Y,e,z'.sameBut f ?_⟩
     rintro rfl
     exact J (DT hN g (I.ok.inj _ _ _ e l▸L))
  ·by_cases T:Y=c
   ·subst T;exact⟨_,P⟩
   ·obtain⟨w2,z2⟩:=I.cell y Y e
    exact⟨w2,z2.sameBut f T⟩
  ·obtain⟨e,n,W,nf,d⟩:=I.pin p hp
   refine⟨(f.2 p.1 ?_).trans e,n,W,nf,d⟩
   intro q
   rw[q,R]at e
   have q':oc=p.2:=AAC e
   exact d U (by rw[<-q'];exact S)
theorem NJ {M:Model} {A:Around} {E:Value->Shared->Prop} {i:Nat} {x:Str} {v:V} {u:Value} {Q:Unit->Shared->Prop} (I:Inv X pins σ H s) (b:X.N.Nodup) (c:X.N[i]?=some x) (d:Loc X.env.scope x) (r:RelV v u)
  (h:∀a,Inv X pins (σ.set i (some v)) H a->Q () a) (e:X.fn x=true∨X.env.scope.names.lookup x=some .local:=by first|exact .inl rfl|exact .inr rfl|assumption):wpAny M A (storeName X.env x u) Q E s:=
 Kw I b c d r (fun a f _=>h a f) e
theorem Inv.dE {a:Shared} {ch:List Addr} (I:Inv X pins σ H s) (g:a.os=s.os) (u:Un (Sw X.stack) ch H H' s.heap a.heap) (d:F' X.prog X.w H' a.heap) (h:AllBare a.gens)
  (f:∀b∈ch,(b∈X.ex∨X.s₀.heap.objs.size<=b)/\b≠X.env.locals/\(∀x c,X.env.cells.lookup x=some c->c≠b)/\∀p∈X.pn++pins,p.1≠b):Inv X pins σ H' a:=by
 obtain⟨h',g',d',t',i⟩:=a
 have e:i=s.os:=g
 subst e
 exact I.call (g':=g') (t':=t') (d':=d') u d h f
end
abbrev XK:=Value->Option Addr->Hp->Prop
abbrev St:=List (Option V)
abbrev VK:=V->Hp->Prop
abbrev TE:=St->Hp->VK->Prop
abbrev TT:=St->Hp->(Bool->Hp->Prop)->Prop
abbrev TA:=St->Hp->(List V->Hp->Prop)->Prop
structure Ends where
 nx:St->Hp->Prop
 rt:VK
 bk:St->Hp->Prop:=fun _ _=>False
 ct:St->Hp->Prop:=fun _ _=>False
abbrev TS:=Ends->St->Hp->Prop
inductive i' (x:V) (H:Hp) (Q:Bool->Hp->Prop):Prop
 |mk (c:Bool) (e:x=.bl c) (q:Q c H):i' x H Q
inductive dF (a:TE) (σ:St) (x:V) (H:Hp) (Q:VK):Prop
 |mk (c:Bool) (e:x=.bl c) (q:if c=true then a σ H Q else Q (.bl false) H):dF a σ x H Q
inductive sO (a:TE) (σ:St) (x:V) (H:Hp) (Q:VK):Prop
 |mk (c:Bool) (e:x=.bl c) (q:if c=true then Q (.bl true) H else a σ H Q):sO a σ x H Q
inductive dG (x:V) (H:Hp) (Q:VK):Prop
 |mk (c:Bool) (e:x=.bl c) (q:Q (.bl (!c)) H):dG x H Q
inductive uv (x y:V) (H:Hp) (k:Int->Int->Hp->Prop):Prop
 |mk (i j:Int) (e:x=.int i) (a:y=.int j) (q:k i j H):uv x y H k
inductive sP (x:V) (H:Hp) (Q:Option Int->Hp->Prop):Prop
 |mk (i:Int) (e:x=.int i) (q:Q (some i) H):sP x H Q
inductive jA (i j:Nat) (N:St->Hp->Prop) (σ:St) (a:List V) (H:Hp):Prop
 |mk (v w:V) (e:a=[v,w]) (q:N ((σ.set i (some v)).set j (some w)) H):jA i j N σ a H
inductive EP (X:Cx) (pins:List (Addr×Obj)) (σ:St) (Q:VK) (u:Value) (a:Shared):Prop
 |mk (v:V) (H':Hp) (I:Inv X pins σ H' a) (r:RelV v u) (q:Q v H'):EP X pins σ Q u a
inductive TP (X:Cx) (pins:List (Addr×Obj)) (σ:St) (Q:Bool->Hp->Prop) (b:Bool) (a:Shared):Prop
 |mk (H':Hp) (I:Inv X pins σ H' a) (q:Q b H'):TP X pins σ Q b a
inductive AP (X:Cx) (pins:List (Addr×Obj)) (σ:St) (Q:List V->Hp->Prop) (a:List Value) (b:Shared):Prop
 |mk (c:List V) (H':Hp) (I:Inv X pins σ H' b) (r:Vals c a) (q:Q c H'):AP X pins σ Q a b
theorem EP.elim {X:Cx} {pins:List (Addr×Obj)} {σ:St} {Q:VK} {u:Value} {a:Shared} {G:Prop} (h:EP X pins σ Q u a) (k:∀(v:V) (H':Hp),Inv X pins σ H' a->RelV v u->Q v H'->G):G:=by
 cases h with
 |mk v H' I r q=>exact k v H' I r q
theorem AP.elim {X:Cx} {pins:List (Addr×Obj)} {σ:St} {Q:List V->Hp->Prop} {a:List Value} {b:Shared} {G:Prop} (h:AP X pins σ Q a b) (k:∀(c:List V) (H':Hp),Inv X pins σ H' b->Vals c a->Q c H'->G):G:=by
 cases h with
 |mk v H' I r q=>exact k v H' I r q
theorem TP.elim {X:Cx} {pins:List (Addr×Obj)} {σ:St} {Q:Bool->Hp->Prop} {b:Bool} {a:Shared} {G:Prop} (h:TP X pins σ Q b a) (k:∀H':Hp,Inv X pins σ H' a->Q b H'->G):G:=by
 cases h with
 |mk H' I q=>exact k H' I q
inductive hV (X:Cx) (pins:List (Addr×Obj)) (N:St->Hp->Prop) (a:Shared):Prop
 |mk (σ:St) (H':Hp) (I:Inv X pins σ H' a) (q:N σ H'):hV X pins N a
inductive sQ (X:Cx) (pins:List (Addr×Obj)) (Q:VK) (u:Value) (a:Shared):Prop
 |mk (v:V) (σ:St) (H':Hp) (I:Inv X pins σ H' a) (r:RelV v u) (q:Q v H'):sQ X pins Q u a
def SP (X:Cx) (pins:List (Addr×Obj)) (D:Ends) (f:Flow) (a:Shared):Prop:=
 match f with
 | .next=>hV X pins D.nx a
 | .brk=>hV X pins D.bk a
 | .cont=>hV X pins D.ct a
 | .ret u=>sQ X pins D.rt u a
def PE (X:Cx) (e:Expr) (t:TE):Prop:=
 ∀(pins:List (Addr×Obj)) (s:Shared) (a:St) (H:Hp) (Q:VK),Inv X pins a H s->t a H Q->wpAny (model X.prog X.w) X.A (eval e X.env) (EP X pins a Q) X.xe s
def PT (X:Cx) (e:Expr) (t:TT):Prop:=
 ∀(pins:List (Addr×Obj)) (s:Shared) (a:St) (H:Hp) (Q:Bool->Hp->Prop),Inv X pins a H s->t a H Q->wpAny (model X.prog X.w) X.A (isTrue e X.env (eval e X.env)) (TP X pins a Q) X.xe s
def PW (X:Cx) (e:Expr) (t:TT):Prop:=
 ∀(whole:Sem Value) (pins:List (Addr×Obj)) (s:Shared) (a:St) (H:Hp) (Q:Bool->Hp->Prop),Inv X pins a H s->t a H Q->wpAny (model X.prog X.w) X.A (isTrue e X.env whole) (TP X pins a Q) X.xe s
theorem PW.pt {X:Cx} {e:Expr} {t:TT} (h:PW X e t):PT X e t:=h _
def PA (X:Cx) (b:List Expr) (t:TA):Prop:=
 ∀(pos:Pos) (pins:List (Addr×Obj)) (s:Shared) (a:St) (H:Hp) (Q:List V->Hp->Prop),Inv X pins a H s->t a H Q->wpAny (model X.prog X.w) X.A (spliced (backTo pos (starEach b X.env))) (AP X pins a Q) X.xe s
def PS (X:Cx) (st:Stmt) (t:TS):Prop:=
 ∀(pins:List (Addr×Obj)) (s:Shared) (a:St) (H:Hp) (D:Ends),Inv X pins a H s->t D a H->wpAny (model X.prog X.w) X.A (exec st X.env) (SP X pins D) X.xe s
def QN (X:Cx) (st:List Stmt) (t:TS):Prop:=
 ∀(pins:List (Addr×Obj)) (s:Shared) (a:St) (H:Hp) (D:Ends),Inv X pins a H s->t D a H->wpAny (model X.prog X.w) X.A (execs st X.env) (SP X pins D) X.xe s
theorem Bl {b:Type} {t:Sem b} {Q c:b->Shared->Prop} {M:Model} {A:Around} {E:Value->Shared->Prop} {s:Shared} (h:wpAny M A t Q E s) (d:∀a s,Q a s->c a s):wpAny M A t c E s:=wpAny_mono h d fun _ _ x=>x
section
variable{X:Cx}
inductive Yf (i:Nat) (σ:St) (H:Hp) (Q:VK):Prop
 |mk (v:_) (a:σ[i]?=some (some v)) (b:Q v H):Yf i σ H Q
def JW (i:Nat):TE:=fun a H Q=>Yf i a H Q
def tC (v:V):TE:=fun _ H Q=>Q v H
theorem Zh {i:Nat} {x:Str} {pos:Pos} (j:X.N[i]?=some x) (k:iy X.env.scope x) (d:(x==("__debug__":Str))=false:=by decide) (f:(x==("__classdict__":Str))=false:=by decide):PE X (.Name x pos) (JW i):=by
 intro pins s n H Q I h
 obtain⟨v,e,h⟩:=h
 obtain⟨m,o,p⟩:=I.loc
 obtain⟨u,r,l⟩:=p i x v j e k
 have fin:EP X pins n Q u s:=⟨v,H,I,r,h⟩
 rcases l with⟨b,q⟩|⟨b,c,g,a⟩
 ·exact wpAny_Name (wpAny_loadName_local I.ok.kind b o q fin) d
 ·rcases b with b|b
  ·exact wpAny_Name (wpAny_loadName_cell I.ok.kind b g a fin) d
  ·exact wpAny_Name (wpAny_loadName_free I.ok.kind b g a fin f) d
theorem AF {i j pos}:PE X (.Constant (.int i) j pos) (tC (.int i)):=fun _ _ _ H _ I h=>wpAny_Constant_int ⟨.int i,H,I.tok _,⟨_,rfl⟩,h⟩
theorem NK {b j pos}:PE X (.Constant (.bool b) j pos) (tC (.bl b)):=fun _ _ _ H _ I h=>Constant_bool ⟨.bl b,H,I,rfl,h⟩
theorem Bg {j pos}:PE X (.Constant .none j pos) (tC .BL):=fun _ _ _ H _ I h=>Constant_none ⟨.BL,H,I,rfl,h⟩
theorem Ab {x j pos}:PE X (.Constant (.str x) j pos) (tC (.str x)):=fun _ _ _ H _ I h=>Calls.Constant_str ⟨.str x,H,I.tok _,⟨_,rfl⟩,h⟩
def Gl (X:Cx) (x:Str):Prop:=X.env.kindOf x=some .globalImplicit
theorem QO {E:Value->Shared->Prop} {pins:List (Addr×Obj)} {s:Shared} {σ:St} {H:Hp} {x:Str} {u:Value} {pos:Pos} {Q:Value->Shared->Prop} (I:Inv X pins σ H s) (a:Gl X x) (b:X.mg x=some u) (h:Q u s)
  (c:(x==("__debug__":Str))=false:=by decide):wpAny (model X.prog X.w) X.A (eval (.Name x pos) X.env) Q E s:=
 Calls.Name_function_global I.ok.kind a (Calls.loadGlobal_global (by rw[I.ok.glob];exact I.mod.glob.keeps I.bk) b h) c
theorem FN {E:Value->Shared->Prop} {pins:List (Addr×Obj)} {s:Shared} {σ:St} {H:Hp} {x:Str} {u:Value} {pos:Pos} {Q:Value->Shared->Prop} (I:Inv X pins σ H s) (a:Gl X x) (b:X.mg x=none) (c:bootBuiltins x=some u) (h:Q u s)
  (d:x≠"__name__":=by decide) (e:(x==("__debug__":Str))=false:=by decide):wpAny (model X.prog X.w) X.A (eval (.Name x pos) X.env) Q E s:=by
 obtain⟨i,f,g⟩:=I.mod.blt
 exact Calls.Name_function_global I.ok.kind a (Calls.loadGlobal_builtin (by rw[I.ok.glob];exact I.mod.glob.keeps I.bk) b (by rw[I.ok.blt];exact f.keeps I.bk) ((g x d).trans c) h) e
theorem WU {x:Str} {v:V} {u:Value} {pos:Pos} (a:Gl X x) (b:X.mg x=some u) (r:RelV v u) (c:(x==("__debug__":Str))=false:=by decide):PE X (.Name x pos) (tC v):=
 fun _ _ _ H _ I h=>QO I a b ⟨v,H,I,r,h⟩ c
theorem Ao {x:Str} {v:V} {u:Value} {pos:Pos} (a:Gl X x) (b:X.mg x=none) (c:bootBuiltins x=some u) (r:RelV v u) (d:x≠"__name__":=by decide) (e:(x==("__debug__":Str))=false:=by decide):PE X (.Name x pos) (tC v):=
 fun _ _ _ H _ I h=>FN I a b c ⟨v,H,I,r,h⟩ d e
variable{a b:Expr} {ta tb:TE} {pos:Pos}
def PC (X:Cx) (op:CmpOp) (a b:Expr) (t:TE):Prop:=
 ∀(pins:List (Addr×Obj)) (s:Shared) (e:St) (H:Hp) (Q:VK),Inv X pins e H s->t e H Q->
  wpAny (model X.prog X.w) X.A (eval a X.env) (fun v c=>wpAny (model X.prog X.w) X.A (eval b X.env) (fun u d=>wpAny (model X.prog X.w) X.A (compareOp op v u) (EP X pins e Q) X.xe d) X.xe c) X.xe s
def tB (t:TE):TT:=fun c H Q=>t c H fun x d=>i' x d Q
theorem Zi {op:CmpOp} {t:TE} (h:PC X op a b t) (d:behindInMarks op b=false:=by first|exact c _ (by decide) (by decide)|rfl):PE X (.Compare a [op] [b] pos) t:=fun pins s e H Q I hw=>wpAny_Compare1 (h pins s e H Q I hw) d
theorem L_ {op:CmpOp} {t:TE} (h:PC X op a b t) (f:behindInMarks op b=false:=by first|exact e _ (by decide) (by decide)|rfl):PT X (.Compare a [op] [b] pos) (tB t):=by
 intro pins s g H Q I hw
 refine wpAny_isTrue_Compare1 (Bl (h pins s g H _ I hw) fun v o f=>Bl f fun u p i=>Bl i fun c r j=>j.elim fun x k l m n=>?_) f
 obtain⟨d,rfl,q⟩:=n
 cases m
 exact wpAny_truthy_bool ⟨k,l,q⟩
theorem Az {e:Expr} {t:TE} (h:PE X e t) (c:∀whole,isTrue e X.env whole=(do let v<-whole;standAt e.pos;holding [v] (truthy v)):=by intro _;rfl):PT X e (tB t):=by
 intro pins s f H Q I hw
 refine isTrue_plain (Bl (h pins s f H _ I hw) fun v m g=>g.elim fun x i j k l=>?_) (c _)
 obtain⟨d,rfl,q⟩:=l
 cases k
 exact wpAny_truthy_bool ⟨i,j,q⟩
variable{tA hX:TT} {rest:List Expr}
def jB (t u:TT):TT:=fun d H Q=>t d H fun c e=>if c=true then u d e Q else Q false e
def uw (t u:TT):TT:=fun d H Q=>t d H fun c e=>if c=true then Q true e else u d e Q
def jC (t:TT):TT:=fun d H Q=>t d H fun c e=>Q (!c) e
theorem pw_and1 (d:PT X a tA):PW X (.BoolOp .And [a] pos) tA:=by
 intro g pins s f H Q I h
 refine isTrue_and (Bl (d pins s f H Q I h) fun c i e=>?_)
 cases c with
 |true=>exact isTrue_and_nil e
 |false=>exact e
theorem pw_or1 (d:PT X a tA):PW X (.BoolOp .Or [a] pos) tA:=by
 intro g pins s f H Q I h
 refine isTrue_or (Bl (d pins s f H Q I h) fun c i e=>?_)
 cases c with
 |false=>exact isTrue_or_nil e
 |true=>exact e
theorem pw_and (i:PT X a tA) (j:PW X (.BoolOp .And (b::rest) pos) hX):PW X (.BoolOp .And (a::b::rest) pos) (jB tA hX):=by
 intro k pins s d H Q I h
 refine isTrue_and (Bl (i pins s d H _ I h) fun c l m=>m.elim fun e f g=>?_)
 cases c with
 |true=>exact j k pins l d e Q f g
 |false=>exact⟨e,f,g⟩
theorem pw_or (i:PT X a tA) (j:PW X (.BoolOp .Or (b::rest) pos) hX):PW X (.BoolOp .Or (a::b::rest) pos) (uw tA hX):=by
 intro k pins s d H Q I h
 refine isTrue_or (Bl (i pins s d H _ I h) fun c l m=>m.elim fun e f g=>?_)
 cases c with
 |true=>exact⟨e,f,g⟩
 |false=>exact j k pins l d e Q f g
theorem De (e:PT X a tA):PT X (.UnaryOp .Not a pos) (jC tA):=by
 intro pins s f H Q I h
 exact isTrue_not (Bl (e pins s f H (fun c d=>Q (!c) d) I h) fun c k g=>g.elim fun d i j=>⟨d,i,j⟩)
def Yg (ta tb:TE):TE:=fun c H Q=>ta c H fun x d=>dF tb c x d Q
def jD (ta tb:TE):TE:=fun c H Q=>ta c H fun x d=>sO tb c x d Q
def dH (ta:TE):TE:=fun c H Q=>ta c H fun x d=>dG x d Q
theorem GI {op} {t:TE} (h:PE X a t):PE X (.BoolOp op [a] pos) t:=fun pins s c H Q I hw=>BoolOp_one (h pins s c H Q I hw)
theorem Hb (i:PE X a ta) (j:PE X (.BoolOp .And (b::rest) pos) tb):PE X (.BoolOp .And (a::b::rest) pos) (Yg ta tb):=by
 intro pins s e H Q I h
 refine BoolOp_and (Bl (i pins s e H _ I h) fun v k l=>l.elim fun x f g m d=>?_)
 obtain⟨c,rfl,d⟩:=d
 cases m
 refine wpAny_truthy_bool ?_
 cases c with
 |true=>exact j pins k e f Q g d
 |false=>exact⟨.bl false,f,g,rfl,d⟩
theorem dI (i:PE X a ta) (j:PE X (.BoolOp .Or (b::rest) pos) tb):PE X (.BoolOp .Or (a::b::rest) pos) (jD ta tb):=by
 intro pins s e H Q I h
 refine BoolOp_or (Bl (i pins s e H _ I h) fun v k l=>l.elim fun x f g m d=>?_)
 obtain⟨c,rfl,d⟩:=d
 cases m
 refine wpAny_truthy_bool ?_
 cases c with
 |false=>exact j pins k e f Q g d
 |true=>exact⟨.bl true,f,g,rfl,d⟩
theorem Zj (e:PE X a ta):PE X (.UnaryOp .Not a pos) (dH ta):=by
 intro pins s f H Q I h
 refine UnaryOp_ (Bl (e pins s f H _ I h) fun v l g=>g.elim fun x i j k d=>?_)
 obtain⟨c,rfl,d⟩:=d
 cases k
 exact not_of (wpAny_truthy_bool ⟨.bl (!c),i,j,rfl,d⟩)
def ux (t:TT) (ta tb:TE):TE:=fun d H Q=>t d H fun c e=>if c=true then ta d e Q else tb d e Q
theorem NL {c:Expr} (k:PT X c tA) (l:PE X a ta) (m:PE X b tb):PE X (.IfExp c a b pos) (ux tA ta tb):=by
 intro pins s e H Q I h
 refine wpAny_IfExp (Bl (k pins s e H _ I h) fun d f n=>n.elim fun g i j=>?_)
 cases d with
 |true=>exact l pins f e g Q i j
 |false=>exact m pins f e g Q i j
end
def A_ (K:AAE) (H:Hp) (a:Addr) (xs:List V):Prop:=
 Rd H a (.lst xs)∨
  ∃(o:Obj) (b:Array Value) (n:Nat),K.lookup a=some o/\o.cls=.type "list"/\o.dict=none/\o.data=.seq b n/\b.size<=sizeLine/\Vals xs b.toList
def Ap (K:AAE) (H:Hp) (a:Addr) (xs:List V):Prop:=
 Rd H a (.tup xs)∨
  ∃(o:Obj) (b:Array Value) (n:Nat),K.lookup a=some o/\o.cls=.type "tuple"/\o.data=.seq b n/\b.size<=sizeLine/\Vals xs b.toList
def jE:Value->Option V
 | .none=>some .BL
 | .bool b=>some (.bl b)
 | .int i _=>some (.int i)
 | .str x _=>some (.str x)
 | .bytes b _=>some (.RC b)
 | .float b _=>some (.cS b)
 | .ref a=>some (.ref a)
 | .type n=>some (.ty n)
 |_=>none
theorem RelV.abs {x:V} {u:Value} (r:RelV x u):jE u=some x:=by
 cases x with
 |BL=>cases r;rfl
 |bl _=>cases r;rfl
 |int _=>obtain⟨t,rfl⟩:=r;rfl
 |str _=>obtain⟨t,rfl⟩:=r;rfl
 |RC _=>obtain⟨t,rfl⟩:=r;rfl
 |cS _=>obtain⟨t,rfl⟩:=r;rfl
 |ref _=>cases r;rfl
 |ty _=>cases r;rfl
theorem RelV.inj {x y:V} {u:Value} (r:RelV x u) (q:RelV y u):x=y:=AAC (r.abs.symm.trans q.abs)
theorem Vals.inj {xs ys:List V} {b:List Value} (r:Vals xs b) (s:Vals ys b):xs=ys:=by
 induction r generalizing ys with
 |nil=>exact(List.eq_nil_of_length_eq_zero (Paired.length s)).symm
 |cons a _ c=>
  cases ys with
  |nil=>exact absurd (Paired.length s) (Nat.succ_ne_zero _).symm
  |cons y g=>
   obtain⟨u,i,e,h,t⟩:=Vals.inv s
   injection e with d f
   subst d f
   rw[a.inj h,c t]
section
variable{X:Cx} {pins:List (Addr×Obj)} {σ:St} {H:Hp} {s:Shared} {a:Addr} {xs ys:List V}
theorem A_.of {K:AAE} (h:H a=some (.lst xs)):A_ K H a xs:=.inl (.inl h)
theorem Ap.of {K:AAE} (h:H a=some (.tup xs)):Ap K H a xs:=.inl (.inl h)
theorem Inv.list (I:Inv X pins σ H s) (h:A_ X.K H a xs):∃its:List Value,Vals xs its/\PlainL s.heap a its.toArray/\xs.length<=sizeLine:=by
 rcases h with h|⟨o,its,n,b,c,d,f,g,r⟩
 ·obtain⟨z,its,n,r,e⟩:=h.ok I.BV
  exact⟨its,r,⟨_,n,e,rfl,rfl,rfl⟩,z⟩
 ·refine⟨its.toList,r,⟨o,n,I.IU a o b,c,d,by simpa using f⟩,?_⟩
  have e:=r.length
  simp only[Array.length_toList]at e
  lia
theorem Inv.tuple (I:Inv X pins σ H s) (h:Ap X.K H a xs):∃its:List Value,Vals xs its/\IsTup s.heap a its.toArray/\xs.length<=sizeLine:=by
 rcases h with h|⟨o,its,n,b,c,d,f,r⟩
 ·obtain⟨z,its,r,p⟩:=h.ok I.BV
  exact⟨its,r,p,z⟩
 ·refine⟨its.toList,r,⟨o,I.IU a o b,c,n,by simpa using d⟩,?_⟩
  have e:=r.length
  simp only[Array.length_toList]at e
  lia
theorem Inv.NM (I:Inv X pins σ H s) (h:A_ X.K H a xs) (h':A_ X.K H a ys):xs=ys:=by
 obtain⟨c,r,⟨o,n,e,_,_,d⟩,_⟩:=I.list h
 obtain⟨b,i,⟨k,l,f,_,_,g⟩,_⟩:=I.list h'
 rw[e]at f;cases f
 rw[d]at g
 injection g with j _
 have:c=b:=by simpa using congrArg Array.toList j
 subst this
 exact r.inj i
theorem Inv.Kx (I:Inv X pins σ H s) (h:Ap X.K H a xs) (h':Ap X.K H a ys):xs=ys:=by
 obtain⟨c,r,⟨o,e,_,n,d⟩,_⟩:=I.tuple h
 obtain⟨b,i,⟨k,f,_,l,g⟩,_⟩:=I.tuple h'
 rw[e]at f;cases f
 rw[d]at g
 injection g with j _
 have:c=b:=by simpa using congrArg Array.toList j
 subst this
 exact r.inj i
end
abbrev Cx.Kn (X:Cx) (E:Value->Shared->Prop):Cx:={X with xe:=E}
abbrev Cx.hY (X:Cx):Cx:=X.Kn fun _ _=>False
theorem Cx.Ok.Kn {X:Cx} (ok:X.Ok) (E:Value->Shared->Prop):(X.Kn E).Ok:=
 ⟨ok.mod,ok.kind,ok.glob,ok.blt,ok.above,ok.inj,ok.has,ok.dC,ok.hd,ok.frames,ok.hU,ok.cT,ok.bs,ok.Sx,ok.RE,ok.RF,ok.JV,ok.cU⟩
theorem Cx.Ok.FO {X:Cx} {E:Value->Shared->Prop} (ok:(X.Kn E).Ok):X.Ok:=
 ⟨ok.mod,ok.kind,ok.glob,ok.blt,ok.above,ok.inj,ok.has,ok.dC,ok.hd,ok.frames,ok.hU,ok.cT,ok.bs,ok.Sx,ok.RE,ok.RF,ok.JV,ok.cU⟩
section
variable{X:Cx} {pins:List (Addr×Obj)} {σ:St} {H:Hp} {s:Shared} {E:Value->Shared->Prop}
theorem Inv.Kn (I:Inv X pins σ H s) (E:Value->Shared->Prop):Inv (X.Kn E) pins σ H s:=⟨I.ok.Kn E,I.os,I.bare,I.base,I.loc,I.cell,I.free,I.ET,I.pin,I.BV,I.len⟩
theorem Inv.FO (I:Inv (X.Kn E) pins σ H s):Inv X pins σ H s:=⟨I.ok.FO,I.os,I.bare,I.base,I.loc,I.cell,I.free,I.ET,I.pin,I.BV,I.len⟩
theorem SP.FO {D:Ends} {f:Flow} {c:Shared} (h:SP (X.Kn E) pins D f c):SP X pins D f c:=by
 cases f with
 |next=>obtain⟨a,b,I,q⟩:=h;exact⟨a,b,I.FO,q⟩
 |brk=>obtain⟨a,b,I,q⟩:=h;exact⟨a,b,I.FO,q⟩
 |cont=>obtain⟨a,b,I,q⟩:=h;exact⟨a,b,I.FO,q⟩
 |ret u=>obtain⟨v,a,b,I,r,q⟩:=h;exact⟨v,a,b,I.FO,r,q⟩
theorem QN.hY {st:List Stmt} {t:TS} (h:QN X.hY st t):QN X st t:=fun pins s σ H D I hw=>
 wpAny_mono (h pins s σ H D (I.Kn _) hw) (fun _ _ q=>q.FO) fun _ _ z=>False.elim z
end
section
variable{X:Cx} {st:Stmt} {rest:List Stmt} {t u:TS} {e:Expr} {te:TE} {pos:Pos}
def TH:TS:=fun D a H=>D.nx a H
def WV (t u:TS):TS:=fun D a H=>t {D with nx:=u D} a H
theorem AQ:QN X [] TH:=fun _ _ a H _ I h=>wpAny_execs_nil ⟨a,H,I,h⟩
theorem AD (b:PS X st t) (c:QN X rest u):QN X (st::rest) (WV t u):=by
 intro pins s d H D I h
 refine wpAny_execs_cons (Bl (b pins s d H {D with nx:=u D} I h) fun f g q=>?_)
 cases f with
 |next=>
  obtain⟨a,i,j,q⟩:=q
  exact c pins g a i D j q
 |ret v=>exact q
 |brk=>exact q
 |cont=>exact q
theorem AI (a:PS X st t):QN X [st] t:=by
 intro pins s b H D I h
 refine wpAny_execs_cons (Bl (a pins s b H D I h) fun f c q=>?_)
 cases f with
 |next=>exact wpAny_execs_nil q
 |ret v=>exact q
 |brk=>exact q
 |cont=>exact q
theorem Inv.quiet {pins:List (Addr×Obj)} {σ:St} {H:Hp} {s:Shared} (I:Inv X pins σ H s):interactive X.env=false:=by simp[interactive,I.ok.kind]
def dJ (te:TE):TS:=fun D a H=>te a H fun _ b=>D.nx a b
theorem Cq (b:PE X e te) (c:swapsWith e none pos.line X.env=pure false:=by rfl):PS X (.Expr e pos) (dJ te):=by
 intro pins s a H D I h
 exact wpAny_Expr_any (Bl (b pins s a H _ I h) fun v j d=>d.elim fun x f g k i=>⟨a,f,g,i⟩) I.quiet c
def Zk (te:TE):TS:=fun D a H=>te a H D.rt
theorem AO (b:PE X e te):PS X (.Return (some e) pos) (Zk te):=by
 intro pins s a H D I h
 exact wpAny_Return_some (Bl (b pins s a H _ I h) fun v j c=>c.elim fun x d f g i=>⟨x,a,d,f,g,i⟩)
def L' (c:TT) (t u:TS):TS:=fun D a H=>c a H fun b d=>if b=true then t D a d else u D a d
theorem Ag {c:Expr} {a b:List Stmt} {g:TT} (m:PT X c g) (n:QN X a t) (o:QN X b u):PS X (.If c a b pos) (L' g t u):=by
 intro pins s f H D I h
 refine wpAny_If (Bl (m pins s f H _ I h) fun d i p=>p.elim fun j k l=>?_)
 cases d with
 |true=>exact n pins i f j D k l
 |false=>exact o pins i f j D k l
end
abbrev TG:=V->St->Hp->(St->Hp->Prop)->Prop
abbrev WW:=List V->St->Hp->(St->Hp->Prop)->Prop
def PG (X:Cx) (target:Expr) (t:TG):Prop:=
 ∀(pins:List (Addr×Obj)) (s:Shared) (b:St) (H:Hp) (v:V) (u:Value) (Q:St->Hp->Prop),Inv X pins b H s->RelV v u->t v b H Q->
  wpAny (model X.prog X.w) X.A (assign target X.env u) (fun _ d=>∃a c,Inv X pins a c d/\Q a c) X.xe s
def hZ (X:Cx) (f:List Expr) (t:WW):Prop:=
 ∀(pins:List (Addr×Obj)) (s:Shared) (b:St) (H:Hp) (c:List V) (d:List Value) (Q:St->Hp->Prop),Inv X pins b H s->Vals c d->t c b H Q->
  wpAny (model X.prog X.w) X.A (assignInOrder ((assignEach f X.env).map (·.2)) d) (fun _ g=>∃a e,Inv X pins a e g/\Q a e) X.xe s
abbrev Zl:=V->V->V->Hp->(Hp->Prop)->Prop
def dM (X:Cx) (t:Zl):Prop:=
 ∀(pins:List (Addr×Obj)) (s:Shared) (a:St) (H:Hp) (o i v:V) (ov b u:Value) (Q:Hp->Prop),Inv X pins a H s->RelV o ov->RelV i b->RelV v u->t o i v H Q->
  wpAny (model X.prog X.w) X.A (setItem ov b u) (fun _ d=>∃c,Inv X pins a c d/\Q c) X.xe s
abbrev uy:=V->V->Hp->VK->Prop
section
variable{X:Cx} {pos:Pos}
def EU (i:Nat):TG:=fun v a H Q=>Q (a.set i (some v)) H
theorem Bm {i:Nat} {x:Str} (a:X.N.Nodup) (b:X.N[i]?=some x) (c:Loc X.env.scope x) (d:X.fn x=true∨X.env.scope.names.lookup x=some .local:=by first|exact .inl rfl|exact .inr rfl|assumption):PG X (.Name x pos) (EU i):=by
 intro pins s f H v u Q I r h
 exact wpAny_assign_Name (NJ I a b c r (fun g e=>⟨_,H,e,h⟩) d)
def dN:WW:=fun a b H Q=>a=[]/\Q b H
inductive TJ (t:TG) (u:WW) (b:List V) (σ:St) (H:Hp) (Q:(St->Hp->Prop)):Prop
 |mk (v:_) (r:_) (c:b=v::r) (d:t v σ H fun a H'=>u r a H' Q):TJ t u b σ H Q
def TK (t:TG) (u:WW):WW:=fun a b H Q=>TJ t u a b H Q
theorem MA:hZ X [] dN:=by
 intro pins s a H b c Q I r h
 obtain⟨e,h⟩:=h
 subst e
 cases r
 exact assignInOrder_nil ⟨a,H,I,h⟩
theorem EV {e:Expr} {a:List Expr} {t:TG} {u:WW} (c:PG X e t) (d:hZ X a u)
  (f:(assignEach (e::a) X.env).map (·.2)=assign e X.env::(assignEach a X.env).map (·.2):=by rfl):hZ X (e::a) (TK t u):=by
 intro pins s g H o p Q I r h
 obtain⟨v,q,i,h⟩:=h
 subst i
 cases r with
 |cons r j=>
  rw[f]
  refine assignInOrder_cons (Bl (c pins s g H _ _ _ I r h) fun _ k ⟨b,l,m,n⟩=>?_)
  exact d pins k b l _ _ Q m j n
inductive Yh (K:AAE) (n:Nat) (t:WW) (v:V) (σ:St) (H:Hp) (Q:(St->Hp->Prop)):Prop
 |mk (a:_) (xs:_) (b:v=.ref a) (c:Ap K H a xs) (d:xs.length=n) (e:t xs σ H Q):Yh K n t v σ H Q
def dO (K:AAE) (n:Nat) (t:WW):TG:=fun v a H Q=>Yh K n t v a H Q
theorem Ot {c:List Expr} {k:Nat} {t:WW} {n:Nat} (i:X.calm=true) (h:hZ X c t)
  (j:(assignEach c X.env).length=n:=by rfl) (d:(assignEach c X.env).findIdx? (·.1)=none:=by rfl):PG X (.Tuple c k pos) (dO X.K n t):=by
 intro pins s f H v u Q I r hw
 obtain⟨a,l,m,p,q,hw⟩:=hw
 subst m
 cases r
 obtain⟨w,g,x,B⟩:=I.tuple p
 refine assign_Tuple_tuple (I.ok.hd i) x (by simp[j,<-q,g.length]) d fun y z=>?_
 have A:Inv X pins f H {s with heap:=y}:=I.kept (t':=s.toks) fun b o e=>z b o (Nat.ne_of_lt (Heap.lt_size e)) e
 exact h pins _ f H l _ Q A (by simpa using g) hw
def jF (b c:TE) (t:Zl):TG:=fun v a H Q=>b a H fun o d=>c a d fun i e=>t o i v e fun f=>Q a f
theorem TL {o i:Expr} {d e:TE} {t:Zl} (f:PE X o d) (g:PE X i e) (j:dM X t)
  (k:∀v,assign (.Subscript o i pos) X.env v=(do
   let ov<-holding [v] (eval o X.env)
   let a<-holding [v,ov] (eval i X.env)
   standAt pos
   holding [v,ov,a] (setItem ov a v)
   release [v,ov,a] []):=by intro _;rfl):PG X (.Subscript o i pos) (jF d e t):=by
 intro pins s b H v u Q I r h
 rw[k]
 refine wpAny_bind (wpAny_holding (Bl (f pins s b H _ I h) fun ov l c=>c.elim fun x m n p q=>?_))
 refine wpAny_bind (wpAny_holding (Bl (g pins l b m _ n q) fun a w c=>c.elim fun y z A B C=>?_))
 refine wpAny_bind (wpAny_standAt (wpAny_bind (wpAny_holding (Bl (j pins w b z x y v ov a u _ A p B r C) fun _ G ⟨D,E,F⟩=>?_))))
 exact wpAny_release ⟨b,D,E,F⟩
def Zm (b:TE) (g:TG):TS:=fun D a H=>b a H fun x c=>g x a c D.nx
theorem Ou {a e:Expr} {c:TE} {g:TG} (f:PE X e c) (i:PG X a g) (j:swapsWithSole [a] e pos.line X.env=pure false:=by rfl) (hw:swappedStores [a] e X.env=pure none:=by rfl)
  (k:(assignEach [a] X.env).map (·.2)=[assign a X.env]:=by rfl):PS X (.Assign [a] e pos) (Zm c g):=by
 intro pins s d H D I h
 refine wpAny_Assign_stores (Bl (f pins s d H _ I h) fun v l m=>m.elim fun x n o p q=>?_) j hw
 rw[k]
 exact Bl (i pins l d n x v _ o p q) fun _ w ⟨b,r,t,u⟩=>⟨b,r,t,u⟩
theorem AX {i:Nat} {x:Str} {e:Expr} {a:TE} {pos':Pos} (b:X.N.Nodup) (c:X.N[i]?=some x) (d:Loc X.env.scope x) (f:PE X e a) (g:swapsWith e (some (.Name x pos')) pos.line X.env=pure false:=by rfl) (j:X.fn x=true∨X.env.scope.names.lookup x=some .local:=by first|exact .inl rfl|exact .inr rfl|assumption):
  PS X (.Assign [.Name x pos'] e pos) (Zm a (EU i)):=by
 intro pins s k H D I h
 refine wpAny_Assign_Name (Bl (f pins s k H _ I h) fun v r l=>l.elim fun y m n o p=>?_) g
 exact NJ n b c d o (fun t q=>⟨_,m,q,p⟩) j
inductive dP (i:Nat) (a:TE) (b:uy) (D:Ends) (σ:St) (H:Hp):Prop
 |mk (x:_) (e:σ[i]?=some (some x)) (f:a σ H fun y c=>b x y c fun z d=>D.nx (σ.set i (some z)) d):dP i a b D σ H
inductive jG (f:Int->Int->Int) (x:V) (y:V) (H:Hp) (Q:VK):Prop
 |mk (i:_) (j:_) (a:x=.int i) (b:y=.int j) (c:Q (.int (f i j)) H):jG f x y H Q
end
section
variable{X:Cx} {pos:Pos}
inductive WX (c:TT) (d:TS) (D:Ends) (σ:St) (H:Hp):Prop
 |mk (W:Nat->St->Hp->Prop) (g:(∃m,W m σ H)) (h:∀m σ H,W m σ H->c σ H fun b e=>if b=true then∃N:St->Hp->Prop,(∀a H',N a H'->∃f,f<m/\W f a H')/\d {D with nx:=N,ct:=N,bk:=D.nx} σ e else D.nx σ e):WX c d D σ H
end
structure It where
 go:Nat->Hp->Prop
 Sy:Nat->Hp->V->Hp->Prop
 stop:Nat->Hp->Prop
def EC (X:Cx) (pins:List (Addr×Obj)) (H:Hp) (b:Addr):Prop:=
 H b=none/\b≠X.env.locals/\b∉X.fs/\(b∈X.ex∨X.s₀.heap.objs.size<=b)/\(∀x c,X.env.cells.lookup x=some c->c≠b)/\∀p∈X.pn++pins,p.1≠b
theorem Inv.NN {X:Cx} {pins:List (Addr×Obj)} {σ:St} {H H':Hp} {s:Shared} {b:Addr} (I:Inv X pins σ H s) (a:s.heap.objs.size<=b) (d:H' b=none):EC X pins H' b:=by
 refine⟨d,Nat.ne_of_gt (Nat.lt_of_lt_of_le I.lt a),I.i_ a,.inr (Nat.le_trans I.sz a),fun x c e z=>?_,fun p f z=>?_⟩
 ·obtain⟨v,q⟩:=I.cell x c e
  exact absurd (Nat.lt_of_lt_of_le q.lt (by rw[z];exact a)) (Nat.lt_irrefl _)
 ·exact absurd (Nat.lt_of_lt_of_le (Heap.lt_size (I.pin p f).1) (by rw[z];exact a)) (Nat.lt_irrefl _)
structure Turn (P:Program) (w:World) (K:AAE) (tg:Expr) (J:It) (fp:List Addr) (it:Addr) (tn:Nat->Heap->Prop):Prop where
 mem:it∈fp
 obj:∀i h,tn i h->∀b∈fp,∃o,h.get? b=some o/\∀v,o.data≠.cell v
 keep:∀i h h',tn i h->(∀b∈fp,∀o,h.get? b=some o->h'.get? b=some o)->tn i h'
 item:∀(X:Cx),X.prog=P->X.w=w->X.K=K->X.calm=true->∀(i:Nat) (pins:List (Addr×Obj)) (s:Shared) (σ:St) (H:Hp) (E:Value->Shared->Prop),Inv X pins σ H s->(∀b∈fp,EC X pins H b)->tn i s.heap->J.go i H->
  wpAny (model P w) X.A (pyNext (.ref it)) (fun r s1=>∃u,r=some u/\
   wpAny (model P w) X.A (letOwnedTupleGo tg (.ref it) u) (fun _ s2=>∃x H',Inv X pins σ H' s2/\RelV x u/\J.Sy i H x H'/\tn (i+1) s2.heap/\∀b∈fp,H' b=none) E s1) E s
 done:∀(X:Cx),X.prog=P->X.w=w->X.K=K->X.calm=true->∀(i:Nat) (pins:List (Addr×Obj)) (s:Shared) (σ:St) (H:Hp) (E:Value->Shared->Prop),Inv X pins σ H s->(∀b∈fp,EC X pins H b)->tn i s.heap->J.stop i H->
  wpAny (model P w) X.A (pyNext (.ref it)) (fun r s1=>r=none/\Inv X pins σ H s1) E s
 self:∀(A:Around) (i:Nat) (s:Shared) (Q:Value->Shared->Prop) (E:Value->Shared->Prop),tn i s.heap->Q (.ref it) s->wpAny (model P w) A (pyIter (.ref it)) Q E s
abbrev TI:=St->Hp->(It->Hp->Prop)->Prop
inductive jH (X:Cx) (pins:List (Addr×Obj)) (σ:St) (d:Expr) (R:It->Hp->Prop) (a:Value) (c:Shared):Prop
 |mk (it:Addr) (g:List Addr) (h:Nat->Heap->Prop) (J:It) (H':Hp) (e:a=.ref it) (I:Inv X pins σ H' c) (t:Turn X.prog X.w X.K d J g it h) (z:h 0 c.heap) (f:∀b∈g,EC X pins H' b) (q:R J H'):jH X pins σ d R a c
def PI (X:Cx) (b iter:Expr) (c:TI):Prop:=
 ∀(pins:List (Addr×Obj)) (s:Shared) (a:St) (H:Hp) (R:It->Hp->Prop),Inv X pins a H s->c a H R->
  wpAny (model X.prog X.w) X.A (eval iter X.env) (fun v d=>wpAny (model X.prog X.w) X.A (pyIter v) (jH X pins a b R) X.xe d) X.xe s
theorem QP {M:Model} {A:Around} {E:Value->Shared->Prop} {s:Shared} {b:Expr} {it:Addr} {u:Value} {o:Obj} {n:String} {c:Array Value} {Q:Unit->Shared->Prop} (d:s.heap.get? it=some o) (e:o.cls=.type n) (f:o.data=.fields c)
  (g:["enumerate","zip","dict_itemiterator","dict_reverseitemiterator","odict_iterator","itertools.zip_longest","itertools.pairwise"].contains n=false) (a:Q () s):wpAny M A (letOwnedTupleGo b (.ref it) u) Q E s:=by
 unfold letOwnedTupleGo
 cases b<;>first
  |exact wpAny_pure a
  |(cases u<;>first
    |exact wpAny_pure a
    |(refine wpAny_bind (wpAny_load d ?_)
      rw[e,f]
      show wpAny M A (if(["enumerate","zip","dict_itemiterator","dict_reverseitemiterator","odict_iterator","itertools.zip_longest","itertools.pairwise"].contains n&&c[0]?==some (rawInt _))=true then _ else _) Q E s
      rw[if_neg (by intro h;rw[g,Bool.false_and]at h;cases h)]
      exact wpAny_pure a))
def dQ (K:AAE) (a:Addr):It:=
 ⟨fun i H=>∃b x,A_ K H a b/\b[i]?=some x,fun i H x c=>c=H/\∀b,A_ K H a b->b[i]?=some x,fun i H=>∃b,A_ K H a b/\b.length<=i⟩
def dR (K:AAE) (a:Addr):It:=
 ⟨fun i H=>∃b x,Ap K H a b/\b[i]?=some x,fun i H x c=>c=H/\∀b,Ap K H a b->b[i]?=some x,fun i H=>∃b,Ap K H a b/\b.length<=i⟩
def Zn (lo:Int) (n:Nat):It:=⟨fun i _=>i<n,fun i H x a=>a=H/\x=.int (lo+i),fun i _=>n<=i⟩
theorem RG {P:Program} {w:World} {K:AAE} {tg:Expr} (a it:Addr):Turn P w K tg (dQ K a) [it] it (fun i h=>h.IsListIter it a i)where
 mem:=by simp
 obj:=fun i h st b hb=>by
  have e:b=it:=by simpa using hb
  subst e
  obtain⟨o,e,c,d⟩:=st
  exact⟨o,e,fun v z=>by rw[d]at z;cases z⟩
 keep:=fun i h h' st k=>st.at fun o e=>k it (by simp) o e
 item:=by
  intro X hP hw hK hc i pins s σ H E I hf st hg
  subst hP hw hK
  obtain⟨xs,x,hq,hx⟩:=hg
  obtain⟨its,rv,p,hz⟩:=I.list hq
  obtain⟨u,hu,ru⟩:=rv.get hx
  obtain⟨f0,f1,f2,f3,f4,f5⟩:=hf it (by simp)
  refine wpAny_pyNext_list_item st p.isList (x:=u) (by simpa using hu) fun h' TM sb=>?_
  have I1:Inv X pins σ H {s with heap:=h'}:=I.turned (t':=s.toks) (fun b o hb e=>(sb.2 b hb).trans e) f0 f1 f3 f4 f5
  obtain⟨o,e,c,d⟩:=id TM
  exact⟨u,rfl,QP (s:={s with heap:=h'}) e c d (by decide) ⟨x,H,I1,ru,⟨rfl,fun ys hy=>by rw[I.NM hy hq];exact hx⟩,TM,fun b hb=>(hf b hb).1⟩⟩
 done:=by
  intro X hP hw hK hc i pins s σ H E I hf st hg
  subst hP hw hK
  obtain⟨xs,hq,hx⟩:=hg
  obtain⟨its,rv,p,hz⟩:=I.list hq
  obtain⟨f0,f1,f2,f3,f4,f5⟩:=hf it (by simp)
  have hl:=rv.length
  exact wpAny_pyNext_list_end (I.ok.hd hc) st p.isList (by simp;lia) fun h' eb=>⟨rfl,I.turned (t':=s.toks) (fun b o hb e=>eb b o hb e) f0 f1 f3 f4 f5⟩
 self:=fun _ _ _ _ _ st h=>wpAny_pyIter_listiter st h
theorem Ov {P:Program} {w:World} {K:AAE} {tg:Expr} (a it:Addr):Turn P w K tg (dR K a) [it] it (fun i h=>h.IsTupleIter it a i)where
 mem:=by simp
 obj:=fun i h st b hb=>by
  have e:b=it:=by simpa using hb
  subst e
  obtain⟨o,e,c,d⟩:=st
  exact⟨o,e,fun v z=>by rw[d]at z;cases z⟩
 keep:=fun i h h' st k=>st.at fun o e=>k it (by simp) o e
 item:=by
  intro X hP hw hK hc i pins s σ H E I hf st hg
  subst hP hw hK
  obtain⟨xs,x,hq,hx⟩:=hg
  obtain⟨its,rv,p,hz⟩:=I.tuple hq
  obtain⟨u,hu,ru⟩:=rv.get hx
  obtain⟨f0,f1,f2,f3,f4,f5⟩:=hf it (by simp)
  refine wpAny_pyNext_tuple_item st (show s.heap.IsTuple a its.toArray from p) (x:=u) (by simpa using hu) fun h' TM sb=>?_
  have I1:Inv X pins σ H {s with heap:=h'}:=I.turned (t':=s.toks) (fun b o hb e=>(sb.2 b hb).trans e) f0 f1 f3 f4 f5
  obtain⟨o,e,c,d⟩:=id TM
  exact⟨u,rfl,QP (s:={s with heap:=h'}) e c d (by decide) ⟨x,H,I1,ru,⟨rfl,fun ys hy=>by rw[I.Kx hy hq];exact hx⟩,TM,fun b hb=>(hf b hb).1⟩⟩
 done:=by
  intro X hP hw hK hc i pins s σ H E I hf st hg
  subst hP hw hK
  obtain⟨xs,hq,hx⟩:=hg
  obtain⟨its,rv,p,hz⟩:=I.tuple hq
  obtain⟨f0,f1,f2,f3,f4,f5⟩:=hf it (by simp)
  have hl:=rv.length
  exact wpAny_pyNext_tuple_end (I.ok.hd hc) st (show s.heap.IsTuple a its.toArray from p) (by simp;lia) fun h' eb=>⟨rfl,I.turned (t':=s.toks) (fun b o hb e=>eb b o hb e) f0 f1 f3 f4 f5⟩
 self:=fun _ _ _ _ _ st h=>wpAny_pyIter_tupleiter st h
theorem Ow {P:Program} {w:World} {K:AAE} {tg:Expr} (it:Addr) (lo:Int) (n:Nat):Turn P w K tg (Zn lo n) [it] it (fun i h=>IsRangeIter h it (lo+(i:Nat)*1) ((n:Int)-(i:Nat)) 1)where
 mem:=by simp
 obj:=fun i h st b hb=>by
  have e:b=it:=by simpa using hb
  subst e
  exact⟨_,st,fun v z=>by
   have z':Data.fields _=Data.cell v:=z
   cases z'⟩
 keep:=fun i h h' st k=>k it (by simp) _ st
 item:=by
  intro X hP hw hK hc i pins s σ H E I hf st hg
  subst hP hw hK
  obtain⟨f0,f1,f2,f3,f4,f5⟩:=hf it (by simp)
  have W:=Walks.range (prog:=X.prog) (w:=X.w) (I.ok.hd hc) it lo 1 n
  refine W.item i s _ _ hg st fun v h' tk hv TM kk=>?_
  obtain⟨t,rfl⟩:=hv
  have I1:Inv X pins σ H {s with heap:=h',toks:=tk}:=I.turned (fun b o hb e=>kk b o (by simpa using hb) e) f0 f1 f3 f4 f5
  refine⟨_,rfl,QP (s:={s with heap:=h',toks:=tk}) (n:="range_iterator") TM rfl rfl (by decide) ⟨.int (lo+i),H,I1,⟨t,?_⟩,⟨rfl,rfl⟩,TM,fun b hb=>(hf b hb).1⟩⟩
  rw[Int.mul_one]
 done:=by
  intro X hP hw hK hc i pins s σ H E I hf st hg
  subst hP hw hK
  obtain⟨f0,f1,f2,f3,f4,f5⟩:=hf it (by simp)
  exact wpAny_pyNext_range_end (I.ok.hd hc) st (by have:n<=i:=hg;lia) fun h' eb=>⟨rfl,I.turned (t':=s.toks) (fun b o hb e=>eb b o hb e) f0 f1 f3 f4 f5⟩
 self:=fun _ _ _ _ _ st h=>wpAny_pyIter_rangeiter st h
section
variable{X:Cx} {tg:Expr}
def dS (K:AAE) (c:TE):TI:=fun d H R=>c d H fun x b=>∃a,x=.ref a/\(∃e,A_ K b a e)/\R (dQ K a) b
def jI (K:AAE) (c:TE):TI:=fun d H R=>c d H fun x b=>∃a,x=.ref a/\(∃e,Ap K b a e)/\R (dR K a) b
theorem DQ {l:Expr} {f:TE} (g:PE X l f):PI X tg l (dS X.K f):=by
 intro pins s i H R I h
 refine Bl (g pins s i H _ I h) fun v c j=>j.elim fun x k d m n=>?_
 obtain⟨a,e,⟨w,r⟩,q⟩:=n
 subst e
 cases m
 obtain⟨t,y,p,z⟩:=d.list r
 refine wpAny_pyIter_list p.isList ?_
 refine⟨c.heap.objs.size,[c.heap.objs.size],_,_,k,rfl,d.kept (t':=c.toks) fun b o e=>Heap.get?_push_of_some _ e,RG a _,⟨_,Heap.get?_push_size _ rfl,rfl,rfl⟩,fun b u=>?_,q⟩
 have e:b=c.heap.objs.size:=by simpa using u
 subst e
 exact d.NN (Nat.le_refl _) (d.BV.fresh (Nat.le_refl _))
theorem Zo {l:Expr} {g:TE} (i:PE X l g):PI X tg l (jI X.K g):=by
 intro pins s j H R I h
 refine Bl (i pins s j H _ I h) fun v c k=>k.elim fun x m d n r=>?_
 obtain⟨a,e,⟨w,t⟩,q⟩:=r
 subst e
 cases n
 obtain⟨f,y,p,z⟩:=d.tuple t
 refine wpAny_pyIter_tuple (show c.heap.IsTuple a f.toArray from p) ?_
 refine⟨c.heap.objs.size,[c.heap.objs.size],_,_,m,rfl,d.kept (t':=c.toks) fun b o e=>Heap.get?_push_of_some _ e,Ov a _,⟨_,Heap.get?_push_size _ rfl,rfl,rfl⟩,fun b u=>?_,q⟩
 have e:b=c.heap.objs.size:=by simpa using u
 subst e
 exact d.NN (Nat.le_refl _) (d.BV.fresh (Nat.le_refl _))
theorem NO {pins:List (Addr×Obj)} {σ:St} {H:Hp} {s:Shared} {R:It->Hp->Prop} {E:Value->Shared->Prop} {lo a:Int} {t u v:Tok} {tk:Nat} (I:Inv X pins σ H s) (d: -(2 ^ 62)<=lo) (f:lo<2 ^ 62) (g: -(2 ^ 62)<=a) (h:a<2 ^ 62)
  (q:R (Zn lo (a-lo).toNat) H):wpAny (model X.prog X.w) X.A (pyIter (.ref s.heap.objs.size)) (jH X pins σ tg R) E {s with heap:=s.heap.push {cls:=.type "range",data:=.fields #[.int lo t,.int a u,.int 1 v]},toks:=tk}:=by
 refine wpAny_pyIter_range (IsRange.new ..) (small_one d f g h) ?_
 have c:Inv X pins σ H {s with heap:=s.heap.push {cls:=.type "range",data:=.fields #[.int lo t,.int a u,.int 1 v]},toks:=tk}:=I.kept fun b o e=>Heap.get?_push_of_some _ e
 refine⟨(s.heap.push {cls:=.type "range",data:=.fields #[.int lo t,.int a u,.int 1 v]}).objs.size,[(s.heap.push {cls:=.type "range",data:=.fields #[.int lo t,.int a u,.int 1 v]}).objs.size],_,_,H,rfl,
  c.kept (t':=tk) fun b o e=>Heap.get?_push_of_some _ e,Ow _ lo (a-lo).toNat,?_,fun b i=>?_,q⟩
 ·have j:lo+((0:Nat):Int)*1=lo:=by simp
  have k:(((a-lo).toNat:Nat):Int)-((0:Nat):Int)=Builtin.Range.rangeSize lo a 1:=by rw[rangeSize_one];split<;>lia
  show IsRangeIter _ _ (lo+((0:Nat):Int)*1) ((((a-lo).toNat:Nat):Int)-((0:Nat):Int)) 1
  rw[j,k]
  exact Heap.get?_push_size _ rfl
 ·have e:b=(s.heap.push {cls:=.type "range",data:=.fields #[.int lo t,.int a u,.int 1 v]}).objs.size:=by simpa using i
  subst e
  exact c.NN (Nat.le_refl _) (c.BV.fresh (Nat.le_refl _))
def dU (a:TA):TI:=fun b H R=>a b H fun c d=>∃j:Int,c=[.int j]/\ -(2 ^ 62)<=j/\j<2 ^ 62/\R (Zn 0 j.toNat) d
def dV (a:TA):TI:=fun b H R=>a b H fun c d=>∃i j:Int,c=[.int i,.int j]/\(-(2 ^ 62)<=i/\i<2 ^ 62/\ -(2 ^ 62)<=j/\j<2 ^ 62)/\R (Zn i (j-i).toNat) d
theorem DB {a:Expr} {c:TA} {p pos:Pos} (d:Gl X "range") (f:X.mg "range"=none) (g:PA X [a] c) (i:starEach [a] X.env=[(false,eval a X.env)]:=by rfl):PI X tg (.Call (.Name "range" p) [a] [] pos) (dU c):=by
 intro pins s k H R I h
 refine Call_ (FN I d f boot_range (PyProof.Rows.callWith_type1 (Bl (g pos pins s k H _ I h) fun v w l=>l.elim fun x y m n b=>?_) i rfl))
 obtain⟨j,e,b,o,q⟩:=b
 subst e
 cases n with
 |cons r u=>
  cases u
  obtain⟨t,rfl⟩:=r
  exact call_range_1 (NO m (by lia) (by lia) b o (by simpa using q))
theorem RH {a b:Expr} {g:TA} {p pos:Pos} (k:Gl X "range") (l:X.mg "range"=none) (m:PA X [a,b] g) (n:starEach [a,b] X.env=[(false,eval a X.env),(false,eval b X.env)]:=by rfl) (c:starEach [b] X.env=[(false,eval b X.env)]:=by rfl):
  PI X tg (.Call (.Name "range" p) [a,b] [] pos) (dV g):=by
 intro pins s o H R I h
 refine Call_ (FN I k l boot_range (PyProof.Rows.callWith_type1 (Bl (m pos pins s o H _ I h) fun B C u=>u.elim fun D E v w d=>?_) (by rw[n,c]) (by rw[c];rfl)))
 obtain⟨i,j,e,⟨d,x,y,z⟩,q⟩:=d
 subst e
 cases w with
 |cons r f=>
  cases f with
  |cons A f=>
   cases f
   obtain⟨t,rfl⟩:=r
   obtain⟨F,rfl⟩:=A
   exact call_range_2 (NO v d x y z q)
def jJ (f:TI) (g:TG) (h:TS):TS:=fun D a H=>f a H fun J j=>∃W:Nat->Nat->St->Hp->Prop,(∃m,W 0 m a j)/\∀i m a H,W i m a H->
 (J.stop i H/\D.nx a H)∨(J.go i H/\∃N:St->Hp->Prop,(∀b c,N b c->∃e,e<m/\W (i+1) e b c)/\∀x c,J.Sy i H x c->g x a c fun d k=>h {D with nx:=N,ct:=N,bk:=D.nx} d k)
def Hd (a:List Addr) (h:Heap):List (Addr×Obj):=a.filterMap fun b=>(h.get? b).map fun o=>(b,o)
theorem DC {a:List Addr} {h:Heap} {b:Addr} {o:Obj} (c:b∈a) (e:h.get? b=some o):(b,o)∈Hd a h:=List.mem_filterMap.mpr ⟨b,c,by rw[e];rfl⟩
theorem RI {a:List Addr} {h:Heap} {p:Addr×Obj} (c:p∈Hd a h):p.1∈a/\h.get? p.1=some p.2:=by
 obtain⟨b,d,e⟩:=List.mem_filterMap.mp c
 cases q:h.get? b with
 |none=>rw[q]at e;cases e
 |some o=>
  rw[q]at e
  have f:(b,o)=p:=AAC e
  subst f
  exact⟨d,q⟩
theorem Inv.pinned {pins:List (Addr×Obj)} {σ:St} {H:Hp} {s:Shared} {a:List Addr} (I:Inv X pins σ H s) (g:∀b∈a,EC X pins H b) (h:∀b∈a,∃o,s.heap.get? b=some o/\∀v,o.data≠.cell v):Inv X (pins++Hd a s.heap) σ H s:=
 I.QM fun p i=>(List.mem_append.mp i).elim (fun z=>I.pin p (List.mem_append_right _ z)) fun z=>by
  obtain⟨c,e⟩:=RI z
  obtain⟨j,k,l,_⟩:=g p.1 c
  obtain⟨o,f,d⟩:=h p.1 c
  rw[e]at f;cases f
  exact⟨e,j,k,l,d⟩
theorem Inv.Dv {pins a:List (Addr×Obj)} {σ:St} {H:Hp} {s:Shared} (I:Inv X (pins++a) σ H s):Inv X pins σ H s:=I.QM fun p b=>I.pin p (List.mem_append_right _ (List.mem_append_left _ b))
theorem DD {iter:Expr} {body:List Stmt} {S:TI} {g:TG} {U:TS} {pos:Pos} (B:PassesOwn (model X.prog X.w) X.A X.env X.xe) (V:X.calm=true) (hi:PI X tg iter S) (hg:PG X tg g) (c:QN X body U)
  (hs:∀x,foldedSetIterable iter X.env x=pure x:=by intro _;rfl):PS X (.For tg iter body [] pos) (jJ S g U):=by
 intro pins s Y H D I h
 refine wpAny_For (Bl (hi pins s Y H _ I h) fun v s1 h1=>Bl h1 fun zL s2 h2=>?_) hs
 obtain⟨it,C,Z,J,H2,e,I2,T,L,f2,W,⟨m0,w0⟩,turn⟩:=h2
 subst e
 have j:∀{t:Hp},(∀b∈C,t b=none)->∀b∈C,EC X pins t b:=fun hn b c=>⟨hn b c,(f2 b c).2⟩
 refine codeAny_forLoop_any (fun n s'=>∃i k t,Inv X pins k t s'/\Z i s'.heap/\(∀b∈C,t b=none)/\W i n k t) ?_ m0 ⟨0,Y,H2,I2,L,fun b c=>(f2 b c).1,w0⟩
 rintro n s3 ⟨i,l,K,I3,E,F,w3⟩
 rcases turn i n l K w3 with⟨stop,qn⟩|⟨go,N,hN,step⟩
 ·refine wpAny_passesOwn B (Bl (T.done X rfl rfl rfl V i pins s3 l K X.xe I3 (j F) E stop) fun r s4 ⟨M,I4⟩=>?_)
  subst M
  exact wpAny_execs_nil ⟨l,K,I4,qn⟩
 ·refine wpAny_passesOwn B (Bl (T.item X rfl rfl rfl V i pins s3 l K X.xe I3 (j F) E go) fun r s4 ⟨u,M,h4⟩=>?_)
  subst M
  refine wpAny_passesOwn B (Bl h4 fun _ s5 ⟨x,H5,I5,r5,y5,z,O⟩=>?_)
  have P:=I5.pinned (j O) (T.obj _ _ z)
  refine wpAny_passesOwn B (Bl (hg _ s5 l H5 x u _ P r5 (step x H5 y5)) fun _ s6 ⟨Q,H6,I6,q6⟩=>?_)
  refine wpAny_passesOwn B (Bl (c _ s6 Q H6 _ I6 q6) fun f R y=>?_)
  have again:∀{a:St} {p:Hp},Inv X (pins++Hd C s5.heap) a p R->N a p->∃m,m<n/\∃i k t,Inv X pins k t R/\Z i R.heap/\(∀b∈C,t b=none)/\W i m k t:=fun{a p} q G=>by
   obtain⟨m',hm,w7⟩:=hN a p G
   refine⟨m',hm,i+1,a,p,q.Dv,T.keep _ _ _ z fun b c o e=>(q.pin (b,o) (List.mem_append_right _ (List.mem_append_right _ (DC c e)))).1,fun b c=>?_,w7⟩
   obtain⟨o,e,d⟩:=T.obj _ _ z b c
   exact(q.pin (b,o) (List.mem_append_right _ (List.mem_append_right _ (DC c e)))).2.1
  cases f with
  |next=>obtain⟨a,p,q,G⟩:=y;exact again q G
  |cont=>obtain⟨a,p,q,G⟩:=y;exact again q G
  |brk=>obtain⟨a,p,q,y⟩:=y;exact⟨a,p,q.Dv,y⟩
  |ret v=>obtain⟨x7,a,p,q,r7,y⟩:=y;exact⟨x7,a,p,q.Dv,r7,y⟩
end
theorem EW {K:AAE} {a:Addr} {xs:List V} {g:TG} {j:TS} {D:Ends} {σ:St} {H:Hp} (Pv:Nat->St->Hp->Prop) (l:Pv 0 σ H) (n:∀i σ H,i<=xs.length->Pv i σ H->A_ K H a xs)
  (o:∀i x σ H,xs[i]?=some x->Pv i σ H->g x σ H fun b h=>j {D with nx:=Pv (i+1),ct:=Pv (i+1),bk:=D.nx} b h) (r:∀σ H,Pv xs.length σ H->D.nx σ H):
  ∃W:Nat->Nat->St->Hp->Prop,(∃m,W 0 m σ H)/\∀i m σ H,W i m σ H->
   ((dQ K a).stop i H/\D.nx σ H)∨((dQ K a).go i H/\∃N:St->Hp->Prop,(∀c d,N c d->∃k,k<m/\W (i+1) k c d)/\∀x d,(dQ K a).Sy i H x d->g x σ d fun b h=>j {D with nx:=N,ct:=N,bk:=D.nx} b h):=by
 refine⟨fun i m σ H=>m=xs.length-i/\i<=xs.length/\Pv i σ H,⟨xs.length,by simp,Nat.zero_le _,l⟩,?_⟩
 rintro i m σ H ⟨rfl,s,p⟩
 have q:=n i σ H s p
 by_cases f:i<xs.length
 ·refine .inr ⟨⟨xs,xs[i],q,by simp[f]⟩,Pv (i+1),fun c d t=>⟨xs.length-(i+1),by lia,rfl,f,t⟩,fun x d y=>?_⟩
  obtain⟨e,y⟩:=y
  subst e
  exact o i x σ _ (y xs q) p
 ·have e:i=xs.length:=by lia
  subst e
  exact .inl ⟨⟨xs,q,Nat.le_refl _⟩,r σ H p⟩
theorem WY {K:AAE} {a:Addr} {xs:List V} {g:TG} {j:TS} {D:Ends} {σ:St} {H:Hp} (Pv:Nat->St->Hp->Prop) (l:Pv 0 σ H) (n:∀i σ H,i<=xs.length->Pv i σ H->Ap K H a xs)
  (o:∀i x σ H,xs[i]?=some x->Pv i σ H->g x σ H fun b h=>j {D with nx:=Pv (i+1),ct:=Pv (i+1),bk:=D.nx} b h) (r:∀σ H,Pv xs.length σ H->D.nx σ H):
  ∃W:Nat->Nat->St->Hp->Prop,(∃m,W 0 m σ H)/\∀i m σ H,W i m σ H->
   ((dR K a).stop i H/\D.nx σ H)∨((dR K a).go i H/\∃N:St->Hp->Prop,(∀c d,N c d->∃k,k<m/\W (i+1) k c d)/\∀x d,(dR K a).Sy i H x d->g x σ d fun b h=>j {D with nx:=N,ct:=N,bk:=D.nx} b h):=by
 refine⟨fun i m σ H=>m=xs.length-i/\i<=xs.length/\Pv i σ H,⟨xs.length,by simp,Nat.zero_le _,l⟩,?_⟩
 rintro i m σ H ⟨rfl,s,p⟩
 have q:=n i σ H s p
 by_cases f:i<xs.length
 ·refine .inr ⟨⟨xs,xs[i],q,by simp[f]⟩,Pv (i+1),fun c d t=>⟨xs.length-(i+1),by lia,rfl,f,t⟩,fun x d y=>?_⟩
  obtain⟨e,y⟩:=y
  subst e
  exact o i x σ _ (y xs q) p
 ·have e:i=xs.length:=by lia
  subst e
  exact .inl ⟨⟨xs,q,Nat.le_refl _⟩,r σ H p⟩
theorem Dr {lo:Int} {n:Nat} {g:TG} {h:TS} {D:Ends} {σ:St} {H:Hp} (Pv:Nat->St->Hp->Prop) (k:Pv 0 σ H)
  (l:∀i σ H,i<n->Pv i σ H->g (.int (lo+i)) σ H fun a f=>h {D with nx:=Pv (i+1),ct:=Pv (i+1),bk:=D.nx} a f) (o:∀σ H,Pv n σ H->D.nx σ H):
  ∃W:Nat->Nat->St->Hp->Prop,(∃m,W 0 m σ H)/\∀i m σ H,W i m σ H->
   ((Zn lo n).stop i H/\D.nx σ H)∨((Zn lo n).go i H/\∃N:St->Hp->Prop,(∀b c,N b c->∃j,j<m/\W (i+1) j b c)/\∀x c,(Zn lo n).Sy i H x c->g x σ c fun a f=>h {D with nx:=N,ct:=N,bk:=D.nx} a f):=by
 refine⟨fun i m σ H=>m=n-i/\i<=n/\Pv i σ H,⟨n,by simp,Nat.zero_le _,k⟩,?_⟩
 rintro i m σ H ⟨rfl,r,p⟩
 by_cases d:i<n
 ·refine .inr ⟨d,Pv (i+1),fun b c q=>⟨n-(i+1),by lia,rfl,d,q⟩,fun x c y=>?_⟩
  obtain⟨e,y⟩:=y
  subst e y
  exact l i σ _ d p
 ·have e:i=n:=by lia
  subst e
  exact .inl ⟨Nat.le_refl _,o σ H p⟩
abbrev R2:=V->V->Hp->VK->Prop
def Ep (X:Cx) (f:Value->Value->Sem Value) (r:R2):Prop:=
 ∀(pins:List (Addr×Obj)) (s:Shared) (a:St) (H:Hp) (x y:V) (v u:Value) (Q:VK),Inv X pins a H s->RelV x v->RelV y u->r x y H Q->
  wpAny (model X.prog X.w) X.A (f v u) (EP X pins a Q) X.xe s
def jK (X:Cx) (f:Value->Sem Value) (r:V->Hp->VK->Prop):Prop:=
 ∀(pins:List (Addr×Obj)) (s:Shared) (a:St) (H:Hp) (x:V) (v:Value) (Q:VK),Inv X pins a H s->RelV x v->r x H Q->
  wpAny (model X.prog X.w) X.A (f v) (EP X pins a Q) X.xe s
def EX (X:Cx) (f:Value) (r:List V->Hp->VK->Prop):Prop:=
 ∀(pins:List (Addr×Obj)) (s:Shared) (a:St) (H:Hp) (b:List V) (c:List Value) (Q:VK),Inv X pins a H s->Vals b c->r b H Q->
  wpAny (model X.prog X.w) X.A (call f c) (EP X pins a Q) X.xe s
def WJ (r:R2) (b c:TE):TE:=fun a H Q=>b a H fun x d=>c a d fun y e=>r x y e Q
def uz (r:V->Hp->VK->Prop) (a:TE):TE:=fun b H Q=>a b H fun x c=>r x c Q
inductive sR (C:Int->Int->Prop) (g:Int->Int->V) (x:V) (y:V) (H:Hp) (Q:VK):Prop
 |mk (i:_) (j:_) (a:x=.int i) (b:y=.int j) (c:C i j) (d:Q (g i j) H):sR C g x y H Q
def rI (C:Int->Int->Prop) (g:Int->Int->V):R2:=fun x y H Q=>sR C g x y H Q
inductive dW (g:Int->Int->V) (x:V) (y:V) (H:Hp) (Q:VK):Prop
 |mk (i:_) (j:_) (a:x=.int i) (b:y=.int j) (c:Q (g i j) H):dW g x y H Q
def Zp (g:Int->Int->V):R2:=fun x y H Q=>dW g x y H Q
inductive sS (g:Int->V) (x:V) (H:Hp) (Q:VK):Prop
 |mk (i:_) (a:x=.int i) (b:Q (g i) H):sS g x H Q
def rU (g:Int->V):V->Hp->VK->Prop:=fun x H Q=>sS g x H Q
section
variable{X:Cx} {a b c:Expr} {ta tb tc:TE} {pos:Pos}
theorem Zq (l:PE X a ta) (m:PE X b tb) {pins:List (Addr×Obj)} {s:Shared} {σ:St} {H:Hp} {R:V->V->Hp->Prop} (I:Inv X pins σ H s)
  (h:ta σ H fun x j=>tb σ j fun y d=>R x y d) {Q:Value->Shared->Prop} {f:Value->Value->Sem Value}
  (n:∀v u i x y d,Inv X pins σ d i->RelV x v->RelV y u->R x y d->wpAny (model X.prog X.w) X.A (f v u) Q X.xe i):
  wpAny (model X.prog X.w) X.A (eval a X.env) (fun v e=>wpAny (model X.prog X.w) X.A (eval b X.env) (fun u g=>wpAny (model X.prog X.w) X.A (f v u) Q X.xe g) X.xe e) X.xe s:=by
 refine Bl (l pins s σ H _ I h) fun v o k=>k.elim fun x j p q r=>?_
 refine Bl (m pins o σ j _ p r) fun u i k=>k.elim fun y d t z B=>?_
 exact n v u i x y d t q z B
theorem Aa {op:Operator} {r:R2} (d:Ep X (binaryOp op) r) (e:PE X a ta) (f:PE X b tb):PE X (.BinOp a op b pos) (WJ r ta tb):=by
 intro pins s g H Q I h
 exact wpAny_BinOp (Zq e f I h fun v u i x y j k l m q=>d pins i g j x y v u Q k l m q)
theorem Cm {op:UnaryOp} {r:V->Hp->VK->Prop} (e:jK X (unaryOp op) r) (f:PE X a ta):PE X (.UnaryOp op a pos) (uz r ta):=by
 intro pins s d H Q I h
 exact UnaryOp_ (Bl (f pins s d H _ I h) fun v g i=>i.elim fun x j k l m=>e pins g d j x v Q k l m)
theorem h_ {f:Value->Value->Sem Value} {C:Int->Int->Prop} {g:Int->Int->Int}
  (rule:∀(i j:Int) (t u:Tok) (s:Shared) (Q:Value->Shared->Prop) (E:Value->Shared->Prop),C i j->Q (.int (g i j) s.toks) {s with toks:=s.toks+1}->wpAny (model X.prog X.w) X.A (f (.int i t) (.int j u)) Q E s):
  Ep X f (rI C fun i j=>.int (g i j)):=by
 intro pins s m H x y v u Q I d e h
 obtain⟨i,j,rfl,rfl,k,q⟩:=h
 obtain⟨t,rfl⟩:=d
 obtain⟨l,rfl⟩:=e
 exact rule i j t l s _ _ k ⟨.int (g i j),H,I.tok _,⟨_,rfl⟩,q⟩
theorem dX {f:Value->Value->Sem Value} {g:Int->Int->Int}
  (rule:∀(i j:Int) (t u:Tok) (s:Shared) (Q:Value->Shared->Prop) (E:Value->Shared->Prop),Q (.int (g i j) s.toks) {s with toks:=s.toks+1}->wpAny (model X.prog X.w) X.A (f (.int i t) (.int j u)) Q E s):
  Ep X f (Zp fun i j=>.int (g i j)):=by
 intro pins s l H x y v u Q I d e h
 obtain⟨i,j,rfl,rfl,q⟩:=h
 obtain⟨t,rfl⟩:=d
 obtain⟨k,rfl⟩:=e
 exact rule i j t k s _ _ ⟨.int (g i j),H,I.tok _,⟨_,rfl⟩,q⟩
theorem Zr {f:Value->Value->Sem Value} {g:Int->Int->Bool}
  (rule:∀(i j:Int) (t u:Tok) (s:Shared) (Q:Value->Shared->Prop) (E:Value->Shared->Prop),Q (.bool (g i j)) s->wpAny (model X.prog X.w) X.A (f (.int i t) (.int j u)) Q E s):
  Ep X f (Zp fun i j=>.bl (g i j)):=by
 intro pins s l H x y v u Q I d e h
 obtain⟨i,j,rfl,rfl,q⟩:=h
 obtain⟨t,rfl⟩:=d
 obtain⟨k,rfl⟩:=e
 exact rule i j t k s _ _ ⟨.bl (g i j),H,I,rfl,q⟩
def dY (i j:Int):Prop:=0<j/\j<1073741824
def jL (i j:Int):Prop:=0<=j/\j<=1000000/\i.natAbs<2 ^ 64
def Zs (i j:Int):Prop:=(-(2 ^ 64)<i/\i<2 ^ 64)∨(-(2 ^ 64)<j/\j<2 ^ 64)
theorem Zs.ok {i j:Int} (h:Zs i j):IntMulOk i j:=by
 rcases h with⟨d,e⟩|⟨d,e⟩
 ·exact .of_left (intBits_le_64 d e)
 ·exact .of_right (intBits_le_64 d e)
theorem Bh:Ep X (binaryOp .Add) (Zp fun i j=>.int (i+j)):=dX fun _ _ _ _ _ _ _ q=>add_int q
theorem Ox:Ep X (binaryOp .Sub) (Zp fun i j=>.int (i-j)):=dX fun _ _ _ _ _ _ _ q=>sub_int q
theorem Er:Ep X (binaryOp .Mult) (rI Zs fun i j=>.int (i*j)):=h_ fun _ _ _ _ _ _ _ d q=>mul_int q d.ok
theorem Gf:Ep X (binaryOp .FloorDiv) (rI dY fun i j=>.int (i/j)):=h_ fun i j _ _ _ _ _ d q=>by
 have e:(0:Int)<j:=d.1
 have f:j<1073741824:=d.2
 exact floordiv_int (by lia) (by rw[Int.fdiv_eq_ediv_of_nonneg i (by lia)];exact q) (.inl (PyProof.noPylong_small (by lia)))
theorem BU:Ep X (binaryOp .Mod) (rI (fun _ j=>0<j) fun i j=>.int (i % j)):=h_ fun i j _ _ _ _ _ d q=>by
 have e:(0:Int)<j:=d
 exact mod_int' (by lia) (by rw[Int.fmod_eq_emod_of_nonneg i (by lia)];exact q)
theorem Oy:Ep X (binaryOp .Pow) (rI jL fun i j=>.int (i ^ j.toNat)):=h_ fun _ _ _ _ _ _ _ d q=>pow_int_small d.1 d.2.1 d.2.2 q
theorem u_ {f:Value->Sem Value} {g:Int->Int}
  (rule:∀(i:Int) (t:Tok) (s:Shared) (Q:Value->Shared->Prop) (E:Value->Shared->Prop),Q (.int (g i) s.toks) {s with toks:=s.toks+1}->wpAny (model X.prog X.w) X.A (f (.int i t)) Q E s):
  jK X f (rU fun i=>.int (g i)):=by
 intro pins s e H x v Q I d h
 obtain⟨i,rfl,q⟩:=h
 obtain⟨t,rfl⟩:=d
 exact rule i t s _ _ ⟨.int (g i),H,I.tok _,⟨_,rfl⟩,q⟩
theorem CA:jK X (unaryOp .USub) (rU fun i=>.int (-i)):=u_ fun _ _ _ _ _ q=>neg_int q
inductive MB (x:V) (y:V) (H:Hp) (Q:VK):Prop
 |mk (i:_) (k:_) (d:x=.int i) (e:y=.bl k) (f:Q (.int (i+b2i k)) H):MB x y H Q
end
def jM:V->V->Bool
 | .BL,.BL=>true| .BL,.int _=>true| .int _,.BL=>true| .BL,.bl _=>true| .bl _,.BL=>true| .BL,.str _=>true| .str _,.BL=>true
 | .int _,.int _=>true| .bl _,.bl _=>true| .str _,.str _=>true| .RC _,.RC _=>true
 | .int _,.str _=>true| .str _,.int _=>true| .bl _,.str _=>true| .str _,.bl _=>true
 |_,_=>false
def jN:R2:=fun x y H Q=>jM x y=true/\Q (.bl (decide (x=y))) H
theorem WZ {i j:Int}:decide (V.int i=V.int j)=(i==j):=by
 rw[Bool.eq_iff_iff]
 simp
theorem Zt {i j:Bool}:decide (V.bl i=V.bl j)=(i==j):=by
 rw[Bool.eq_iff_iff]
 simp
theorem Wa {i j:Str}:decide (V.str i=V.str j)=(i==j):=by
 rw[Bool.eq_iff_iff]
 simp
theorem Wb {i j:Array UInt8}:decide (V.RC i=V.RC j)=(i.toList==j.toList):=by
 rw[Bool.eq_iff_iff]
 cases i
 cases j
 simp
section
variable{X:Cx} {a b c:Expr} {ta tb tc:TE} {pos:Pos}
theorem CL {pins:List (Addr×Obj)} {σ:St} {H:Hp} {s:Shared} {Q:VK} {k d:Bool} (I:Inv X pins σ H s) (q:Q (.bl k) H) (e:k=d):EP X pins σ Q (.bool d) s:=by
 subst e
 exact⟨.bl k,H,I,rfl,q⟩
theorem Bj:Ep X (compareOp .Eq) jN:=by
 intro pins s k H x y v u Q I g d h
 obtain⟨f,q⟩:=h
 cases x with
 |BL=>
  cases g
  cases y with
  |BL=>cases d;exact PySem.EqNone.eq_none_none (CL I q (by simp))
  |bl j=>cases d;exact PySem.EqNone.eq_none_bool (CL I q (by simp))
  |int j=>obtain⟨e,rfl⟩:=d;exact PySem.EqNone.eq_none_int (CL I q (by simp))
  |str j=>obtain⟨e,rfl⟩:=d;exact PySem.EqNone.eq_none_str (CL I q (by simp))
  |_=>exact absurd (show false=true from f) Bool.false_ne_true
 |bl i=>
  cases g
  cases y with
  |BL=>cases d;exact PySem.EqNone.eq_bool_none (CL I q (by simp))
  |bl j=>cases d;exact eq_bool (CL I q Zt)
  |str j=>obtain⟨e,rfl⟩:=d;exact PySem.EqMixed.eq_bool_str (CL I q (by simp))
  |_=>exact absurd (show false=true from f) Bool.false_ne_true
 |int i=>
  obtain⟨t,rfl⟩:=g
  cases y with
  |BL=>cases d;exact PySem.EqNone.eq_int_none (CL I q (by simp))
  |int j=>obtain⟨e,rfl⟩:=d;exact eq_int (CL I q WZ)
  |str j=>obtain⟨e,rfl⟩:=d;exact PySem.EqMixed.eq_int_str (CL I q (by simp))
  |_=>exact absurd (show false=true from f) Bool.false_ne_true
 |str i=>
  obtain⟨t,rfl⟩:=g
  cases y with
  |BL=>cases d;exact PySem.EqNone.eq_str_none (CL I q (by simp))
  |bl j=>cases d;exact PySem.EqMixed.eq_str_bool (CL I q (by simp))
  |int j=>obtain⟨e,rfl⟩:=d;exact PySem.EqMixed.eq_str_int (CL I q (by simp))
  |str j=>obtain⟨e,rfl⟩:=d;exact eq_str (CL I q Wa)
  |_=>exact absurd (show false=true from f) Bool.false_ne_true
 |RC i=>
  obtain⟨t,rfl⟩:=g
  cases y with
  |RC j=>obtain⟨e,rfl⟩:=d;exact PySem.W.eq_bytes (CL I q Wb)
  |_=>exact absurd (show false=true from f) Bool.false_ne_true
 |_=>cases y<;>exact absurd (show false=true from f) Bool.false_ne_true
theorem Gg:Ep X (compareOp .Lt) (Zp fun i j=>.bl (decide (i<j))):=Zr fun _ _ _ _ _ _ _ q=>lt_int q
inductive TN (x:V) (y:V) (H:Hp) (Q:VK):Prop
 |mk (i:_) (j:_) (d:x=.str i) (e:y=.str j) (f:Q (.bl (decide (i.cps.toList<j.cps.toList))) H):TN x y H Q
theorem dZ:Ep X (compareOp .Gt) (Zp fun i j=>.bl (decide (j<i))):=Zr fun _ _ _ _ _ _ _ q=>gt_int q
theorem Yi:Ep X (compareOp .GtE) (Zp fun i j=>.bl (decide (j<=i))):=Zr fun _ _ _ _ _ _ _ q=>ge_int q
inductive MC (x:V) (y:V) (H:Hp) (Q:VK):Prop
 |mk (i:_) (j:_) (d:x=.str i) (e:y=.str j) (f:Q (.bl (!(Builtin.Str.occurrences j i 0 j.length 1).isEmpty)) H):MC x y H Q
theorem JX:Ep X (compareOp .Is) (fun x y H Q=>y=.BL/\Q (.bl (decide (x=.BL))) H):=by
 intro pins s f H x y v u Q I d e h
 obtain⟨rfl,q⟩:=h
 cases e
 refine is_none_gen (CL I q ?_)
 cases x<;>first
  |(cases d;rfl)
  |(obtain⟨t,rfl⟩:=d;rfl)
theorem EG:Ep X (compareOp .IsNot) (fun x y H Q=>y=.BL/\Q (.bl (!decide (x=.BL))) H):=by
 intro pins s f H x y v u Q I d e h
 obtain⟨rfl,q⟩:=h
 cases e
 refine isnot_none_gen (CL I q ?_)
 cases x<;>first
  |(cases d;rfl)
  |(obtain⟨t,rfl⟩:=d;rfl)
inductive Ik (x:V) (y:V) (H:Hp) (Q:VK):Prop
 |mk (i:_) (j:_) (d:x=.str i) (e:y=.str j) (f:Q (.bl (!(!(Builtin.Str.occurrences j i 0 j.length 1).isEmpty))) H):Ik x y H Q
def isObj:HO->Bool
 | .lst _=>true
 | .ins _ _ _=>true
 |_=>false
inductive MD (x:V) (y:V) (H:Hp) (Q:VK):Prop
 |mk (a:_) (b:_) (d:_) (e:_) (f:x=.ref a) (g:y=.ref b) (h:H a=some d) (i:isObj d=true) (j:H b=some e) (k:isObj e=true) (l:Q (.bl (decide (a=b))) H):MD x y H Q
inductive Il (x:V) (y:V) (H:Hp) (Q:VK):Prop
 |mk (a:_) (b:_) (d:_) (e:_) (f:x=.ref a) (g:y=.ref b) (h:H a=some d) (i:isObj d=true) (j:H b=some e) (k:isObj e=true) (l:Q (.bl (!decide (a=b))) H):Il x y H Q
theorem AS (b:Expr) {op:CmpOp} (h:op≠.In:=by decide) (d:op≠.NotIn:=by decide):behindInMarks op b=false:=by
 have e:(op==CmpOp.In)=false:=by cases op<;>first|rfl|exact absurd rfl h
 have f:(op==CmpOp.NotIn)=false:=by cases op<;>first|rfl|exact absurd rfl d
 cases b<;>simp[behindInMarks,e,f]
theorem Cr {op:CmpOp} {r:R2} (d:Ep X (compareOp op) r) (e:PE X a ta) (f:PE X b tb) (g:behindInMarks op b=false):PE X (.Compare a [op] [b] pos) (WJ r ta tb):=by
 intro pins s i H Q I h
 exact wpAny_Compare1 (Zq e f I h fun v u j x y k l m n q=>d pins j i k x y v u Q l m n q) g
def Yj (t:TE):TT:=fun d H Q=>t d H fun x e=>i' x e Q
theorem AM {op:CmpOp} {r:R2} (f:Ep X (compareOp op) r) (g:PE X a ta) (i:PE X b tb) (j:behindInMarks op b=false):PT X (.Compare a [op] [b] pos) (Yj (WJ r ta tb)):=by
 intro pins s d H Q I h
 refine wpAny_isTrue_Compare1 (Bl (g pins s d H _ I h) fun v l m=>m.elim fun x n o p q=>Bl (i pins l d n _ o q) fun u t ⟨y,w,A,B,C⟩=>
  Bl (f pins t d w x y v u _ A p B C) fun c J ⟨z,D,E,F,k,e,G⟩=>?_) j
 subst e
 cases F
 exact wpAny_truthy_bool ⟨D,E,G⟩
theorem Hh:(sizeLine:Nat)<2 ^ 63:=by rw[sizeLine_eq];decide
inductive GB (x:V) (y:V) (H:Hp) (Q:VK):Prop
 |mk (i:_) (j:_) (d:x=.str i) (e:y=.str j) (f:i.length+j.length<=sizeLine) (g:Q (.str (i++j)) H):GB x y H Q
def ME:V->V->Hp->VK->Prop:=fun x y H Q=>GB x y H Q
theorem JY:Ep X (binaryOp .Add) ME:=by
 intro pins s k H x y v u Q I d e h
 obtain⟨i,j,rfl,rfl,f,q⟩:=h
 obtain⟨t,rfl⟩:=d
 obtain⟨g,rfl⟩:=e
 exact add_str (fun g l=>⟨.str (i++j),H,I.tok _,⟨_,rfl⟩,q⟩) f
inductive JZ (x:V) (y:V) (H:Hp) (Q:VK):Prop
 |mk (i:_) (j:_) (d:x=.str i) (e:y=.str j) (f:i.length+j.length<=sizeLine) (g:Q (.str (i++j)) H):JZ x y H Q
inductive Ko (x:V) (y:V) (H:Hp) (Q:VK):Prop
 |mk (i:_) (j:_) (d:x=.RC i) (e:y=.RC j) (f:i.size+j.size<=16777216) (g:Q (.RC (i++j)) H):Ko x y H Q
theorem vals1 {x:V} {d:List Value} (r:Vals [x] d):∃u,d=[u]/\RelV x u:=by
 cases r with
 |cons e f=>cases f;exact⟨_,rfl,e⟩
theorem vals2 {x y:V} {d:List Value} (r:Vals [x,y] d):∃u e,d=[u,e]/\RelV x u/\RelV y e:=by
 cases r with
 |cons f g=>
  cases g with
  |cons h i=>cases i;exact⟨_,_,rfl,f,h⟩
inductive NP (xs:List V) (H:Hp) (Q:VK):Prop
 |mk (i:_) (d:xs=[.int i]) (e:Q (.int (if i<0 then-i else i)) H):NP xs H Q
inductive Gh (xs:List V) (H:Hp) (Q:VK):Prop
 |mk (i:_) (j:_) (d:xs=[.int i,.int j]) (e:Q (.int (if j>i then j else i)) H):Gh xs H Q
def NQ:List V->Hp->VK->Prop:=fun d H Q=>Gh d H Q
theorem RJ (e:X.calm=true):EX X (.builtin "max") NQ:=by
 intro pins s f H g l Q I r h
 obtain⟨i,j,rfl,q⟩:=h
 obtain⟨u,m,rfl,⟨t,rfl⟩,⟨n,rfl⟩⟩:=vals2 r
 refine max_two_ints (I.ok.hd e) fun o p k=>⟨_,H,I.kept k,?_,q⟩
 by_cases d:j>i
 ·rw[if_pos d,if_pos d];exact⟨_,rfl⟩
 ·rw[if_neg d,if_neg d];exact⟨_,rfl⟩
inductive Gi (xs:List V) (H:Hp) (Q:VK):Prop
 |mk (i:_) (j:_) (d:xs=[.int i,.int j]) (e:Q (.int (if j<i then j else i)) H):Gi xs H Q
def NR:List V->Hp->VK->Prop:=fun d H Q=>Gi d H Q
theorem RK (e:X.calm=true):EX X (.builtin "min") NR:=by
 intro pins s f H g l Q I r h
 obtain⟨i,j,rfl,q⟩:=h
 obtain⟨u,m,rfl,⟨t,rfl⟩,⟨n,rfl⟩⟩:=vals2 r
 refine min_two_ints (I.ok.hd e) fun o p k=>⟨_,H,I.kept k,?_,q⟩
 by_cases d:j<i
 ·rw[if_pos d,if_pos d];exact⟨_,rfl⟩
 ·rw[if_neg d,if_neg d];exact⟨_,rfl⟩
theorem Ky:EX X (.type "int") (fun xs H Q=>(∃i,xs=[.int i]/\Q (.int i) H)∨∃k,xs=[.bl k]/\Q (.int (if k then 1 else 0)) H):=by
 intro pins s e H xs f Q I r h
 rcases h with⟨i,rfl,q⟩|⟨k,rfl,q⟩
 ·obtain⟨u,rfl,t,rfl⟩:=vals1 r
  exact call_int_int ⟨.int i,H,I,⟨_,rfl⟩,q⟩
 ·obtain⟨u,rfl,d⟩:=vals1 r
  cases d
  exact call_int_bool ⟨.int (if k then 1 else 0),H,I.tok _,⟨_,rfl⟩,q⟩
inductive Im (xs:List V) (H:Hp) (Q:VK):Prop
 |mk (i:_) (d:xs=[.int i]) (e:i.natAbs.log2<1920) (f:Q (.str (toString i)) H):Im xs H Q
inductive NS (xs:List V) (H:Hp) (Q:VK):Prop
 |mk (x:_) (d:xs=[.str x]) (e:x.length=1) (f:Q (.int (x.cps.getD 0 0:Nat)) H):NS xs H Q
inductive NT (xs:List V) (H:Hp) (Q:VK):Prop
 |mk (i:_) (d:xs=[.int i]) (e:0<=i) (f:i<=1114111) (g:Q (.str ⟨#[i.toNat]⟩) H):NT xs H Q
def jO (K:AAE) (x:V) (H:Hp) (n:Nat):Prop:=
 match x with
 | .str y=>y.length<=sizeLine/\n=y.length
 | .RC y=>y.size<=sizeLine/\n=y.size
 | .ref p=>(∃d,A_ K H p d/\n=d.length)∨∃d,Ap K H p d/\n=d.length
 |_=>False
inductive NU (K:AAE) (xs:List V) (H:Hp) (Q:VK):Prop
 |mk (x:_) (n:_) (d:xs=[x]) (e:jO K x H n) (f:Q (.int n) H):NU K xs H Q
inductive Ja (xs:List V) (H:Hp) (Q:VK):Prop
 |mk (i:_) (j:_) (d:xs=[.int i,.int j]) (e:dY i j) (f:∀p,H p=none->Q (.ref p) (upd H p (.tup [.int (i/j),.int (i % j)]))):Ja xs H Q
end
structure Zu (h:Heap) (x dx C:Addr) (mA:Str->Option Value):Prop where
 obj:h.get? x=some (PySem.W.instObj C dx)
 ns:h.Ns1 dx mA
 ne:dx≠x
theorem RL {h:Heap} {c:Addr} {d:Str->Option Value} (n:h.Ns1 c d):∃f,h.get? c=some f/\∀name,PySem.W.lookIn name f=some (d name):=by
 obtain⟨o,g,r,i,j,k,_,l⟩:=n
 refine⟨o,i,fun name=>?_⟩
 have e:=l name
 unfold nsFind findBy at e
 rw[<-Array.find?_toList]at e
 unfold PySem.W.lookIn
 rw[j]
 dsimp only
 split
 ·rename_i y q
  rw[q]at e
  exact congrArg some e
 ·rename_i q
  rw[q]at e
  have a:g.toList.any (·.refKey)=false:=by
   rw[List.any_eq_false]
   intro y m
   obtain⟨z,t,b⟩:=k y (Array.mem_toList_iff.mp m)
   simp[DictEntry.refKey,b]
  have p:¬g.toList.any (·.refKey)=true:=by rw[a];exact Bool.false_ne_true
  rw[if_neg p]
  exact congrArg some e
theorem Zu.look {h:Heap} {x b C:Addr} {c:Str->Option Value} (I:Zu h x b C c):∃a,PySem.W.InstAt h x (PySem.W.instObj C b) C (some a)/\∀name,PySem.W.lookIn name a=some (c name):=
 let⟨a,d,e⟩:=RL I.ns
 ⟨a,⟨I.obj,rfl,rfl,d⟩,e⟩
section
variable{prog:Program} {w:World} {A:Around} {E:Value->Shared->Prop} {s:Shared} {K:AAE} {x dx C f:Addr} {mA:Str->Option Value} {name:Str} {v:Value}
end
theorem Ge.some_of {v:V} {o:Option Value} (r:Ge (some v) o):∃u,o=some u/\RelV v u:=by
 cases o with
 |none=>exact(show False from r).elim
 |some u=>exact⟨u,rfl,r⟩
section
variable{P:Program} {w:World} {H H':Hp} {h h':Heap} {a C dx:Addr} {fs uo:List (Str×V)}
theorem Gj (c:F' P w H h) (e:H a=some (.ins C dx fs)):∃b,Zu h a dx C b/\(∀f,Ge (fs.lookup f) (b f))/\PySem.Within b (fs.map (·.1))/\fs.length<=1000/\H dx=some (.own a):=by
 obtain⟨d,z,g,i,b,n,r,q⟩:=(show BM P w H h a (.ins C dx fs)from c a _ e)
 exact⟨b,⟨i,n,g⟩,r,q,z,d⟩
end
structure jP (K:AAE) (C:Addr):Prop where
 pg:PySem.W.plainGet K C Str.empty=true
 hd:PySem.W.hasDictIn K C=true
 po:PySem.W.plainOver K C=true
 sa:PySem.W.findIn K (.ref C) "__setattr__"=some (some (.builtin "object.__setattr__"))
theorem jP.get {K:AAE} {C:Addr} (c:jP K C) (f:Str):PySem.W.plainGet K C f=true:=c.pg
structure zM (K:AAE) (C:Addr) (f:Str) (v:V) (u:Value):Prop where
 at_:PySem.W.findIn K (.ref C) f=some (some u)
 rel:RelV v u
 get:PySem.W.specialIn K u "__get__"=some none
 cp:PySem.W.copiedNames.contains f=false
structure Meth (K:AAE) (C:Addr) (m:Str) (f:Addr):Prop where
 at_:PySem.W.findIn K (.ref C) m=some (some (.ref f))
 fn:PySem.W.isFn K (.ref f)=true
 kp:PySem.W.keepIn K (.ref f)=true
section
variable{X:Cx} {pins:List (Addr×Obj)} {σ:St} {H:Hp} {s:Shared} {a C dx:Addr} {fs:List (Str×V)} {f:Str} {v:V} {A:Around} {E:Value->Shared->Prop}
end
section
variable{X:Cx} {o e value:Expr} {f:Str} {pos pos' jQ:Pos} {ta tv:TE}
inductive dc (x:V) (y:V) (H:Hp) (Q:VK):Prop
 |mk (i:_) (j:_) (a:x=.int i) (b:y=.int j) (c:Q (.int (i+j)) H):dc x y H Q
inductive de (x:V) (y:V) (H:Hp) (Q:VK):Prop
 |mk (i:_) (j:_) (a:x=.int i) (b:y=.int j) (c:Q (.int (i-j)) H):de x y H Q
end
section
variable{X:Cx} {pins:List (Addr×Obj)} {σ:St} {H:Hp} {s:Shared} {A:Around} {E:Value->Shared->Prop} {Q:Value->Shared->Prop} {c:Value} {b:Bool}
inductive Hm (K:AAE) (H:Hp):V->Value->Prop where
 |BL:Hm K H .BL (.type "NoneType")
 |bl (x:Bool):Hm K H (.bl x) (.type "bool")
 |int (i:Int):Hm K H (.int i) (.type "int")
 |str (x:Str):Hm K H (.str x) (.type "str")
 |cS (x:UInt64):Hm K H (.cS x) (.type "float")
 |lst {a:Addr} {xs:List V} (e:H a=some (.lst xs)):Hm K H (.ref a) (.type "list")
 |CK {a:Addr} {o:Obj} {xs:List V} (e:H a=some (.CK o (.lst xs))):Hm K H (.ref a) (.type "list")
 |tup {a:Addr} {xs:List V} (e:H a=some (.tup xs)):Hm K H (.ref a) (.type "tuple")
 |dK {a:Addr} {kvs:List (Key×V)} (e:H a=some (.dK kvs)):Hm K H (.ref a) (.type "dict")
 |dT {a:Addr} {kvs:List (List Key×V)} (e:H a=some (.dT kvs)):Hm K H (.ref a) (.type "dict")
 |ins {a C d:Addr} {fs:List (Str×V)} (e:H a=some (.ins C d fs)) (g:jP K C) (h:PySem.W.findIn K (.ref C) "__class__"=some (some (.builtin "object.__class__")))
   (j:PySem.W.specialIn K (.builtin "object.__class__") "__get__"=some (some (.builtin "getset_descriptor.__get__"))) (f:PySem.W.takesIn K (.builtin "object.__class__")=some true)
   (k:PySem.W.mroIn K C (.type "object")=some true):Hm K H (.ref a) (.ref C)
theorem EY {x:V} {u t:Value} (I:Inv X pins σ H s) (d:RelV x u) (ty:Hm X.K H x t) (e:PySem.W.kitOne X.K t c=some b) (h:∀tk,Q (.bool b) {s with toks:=tk}):
  wpAny (model X.prog X.w) A (call (.builtin "isinstance") [u,c]) Q E s:=by
 cases ty with
 |BL=>cases(show u=Value.none from d);exact PySem.W.kia_one PySem.W.kitx_none I.IU True.intro e (fun z=>nomatch z) h
 |bl y=>cases(show u=Value.bool y from d);exact PySem.W.kia_one PySem.W.kitx_bool I.IU True.intro e (fun z=>nomatch z) h
 |int i=>obtain⟨t,q⟩:=(show∃t,u=Value.int i t from d);cases q;exact PySem.W.kia_one PySem.W.kitx_int I.IU True.intro e (fun z=>nomatch z) h
 |str y=>obtain⟨t,q⟩:=(show∃t,u=Value.str y t from d);cases q;exact PySem.W.kia_one PySem.W.kitx_str I.IU True.intro e (fun z=>nomatch z) h
 |cS y=>obtain⟨t,q⟩:=(show∃t,u=Value.float y t from d);cases q;exact PySem.W.kia_one PySem.W.kitx_float I.IU True.intro e (fun z=>nomatch z) h
 |@lst a j f=>
  cases(show u=Value.ref a from d)
  obtain⟨_,_,n,_,g⟩:=(show BM X.prog X.w H s.heap a (.lst j)from I.BV a _ f)
  exact PySem.W.kia_one PySem.W.kitx_list I.IU ⟨_,g,rfl⟩ e (fun z=>nomatch z) h
 |@CK a r j f=>
  cases(show u=Value.ref a from d)
  obtain⟨_,_,_,n,_,g⟩:=(show BM X.prog X.w H s.heap a (.CK r (.lst j))from I.BV a _ f)
  exact PySem.W.kia_one PySem.W.kitx_list I.IU ⟨_,g,rfl⟩ e (fun z=>nomatch z) h
 |@tup a j f=>
  cases(show u=Value.ref a from d)
  obtain⟨_,_,_,p⟩:=(show BM X.prog X.w H s.heap a (.tup j)from I.BV a _ f)
  obtain⟨o,g,k,_⟩:=p
  exact PySem.W.kia_one PySem.W.kitx_tuple I.IU ⟨o,g,k⟩ e (fun z=>nomatch z) h
 |@dK a kvs f=>
  cases(show u=Value.ref a from d)
  obtain⟨_,_,L,_,p⟩:=(show BM X.prog X.w H s.heap a (.dK kvs)from I.BV a _ f)
  obtain⟨o,v,B,g,k,_⟩:=p
  exact PySem.W.kia_one PySem.W.kitx_dict I.IU ⟨o,g,k.1⟩ e (fun z=>nomatch z) h
 |@dT a kvs f=>
  cases(show u=Value.ref a from d)
  obtain⟨_,_,j,_,o,v,B,g,k,_⟩:=(show BM X.prog X.w H s.heap a (.dT kvs)from I.BV a _ f)
  exact PySem.W.kia_one PySem.W.kitx_dict I.IU ⟨o,g,k.1⟩ e (fun z=>nomatch z) h
 |@ins a C M fs f m D F l G=>
  cases(show u=Value.ref a from d)
  obtain⟨N,O,_⟩:=Gj I.BV f
  obtain⟨P,J,_⟩:=O.look
  exact PySem.W.kia_one (PySem.W.kitx_own (m.get _) m.hd D F l G) I.IU J e (fun z=>nomatch z) h
end
structure Am (k:Nat) (A:Around):Prop where
 hd:A.handled=none
 dp:A.depth+3*k+5<recursionLimit
 un:A.units+16*k+200<cLine
 gd:A.guards=some []
theorem Am.mono {j k:Nat} {A:Around} (r:Am k A) (h:j<=k):Am j A:=⟨r.hd,by have:=r.dp;lia,by have:=r.un;lia,r.gd⟩
theorem Am.deeper {k:Nat} {A:Around} (r:Am (k+1) A) (env:Env):Am k (A.deeper env):=
 ⟨r.hd,by have:=r.dp;show A.depth+1+3*k+5<_;lia,by have:=r.un;show A.units+3+16*k+200<_;lia,r.gd⟩
theorem Am.depth {k:Nat} {A:Around} (r:Am k A):A.depth<recursionLimit:=by have:=r.dp;lia
theorem Am.units {k:Nat} {A:Around} (r:Am k A):A.units+64<cLine:=by have:=r.un;lia
theorem Am.Cg {k:Nat} {A:Around} (r:Am k A):A.units<cLine:=by have:=r.un;lia
def Wc:TA:=fun _ H Q=>Q [] H
def Jb (b:TE) (tr:TA):TA:=fun a H Q=>b a H fun x c=>tr a c fun d e=>Q (x::d) e
section
variable{X:Cx} {e:Expr} {es:List Expr} {te:TE} {t:TA} {pos:Pos}
theorem AB:PA X [] Wc:=fun _ _ _ _ H Q I h=>Calls.spliced_nil ⟨[],H,I,.nil,h⟩
theorem AA (c:PE X e te) (d:PA X es t) (f:starEach (e::es) X.env=(false,eval e X.env)::starEach es X.env:=by rfl):PA X (e::es) (Jb te t):=by
 intro pos pins s b H Q I h
 rw[f]
 show wpAny _ _ (spliced ((false,eval e X.env)::backTo pos (starEach es X.env))) _ _ s
 refine Calls.spliced_cons (Bl (c pins s b H _ I h) fun u g a=>a.elim fun x i j k l=>?_)
 exact Bl (d pos pins g b i _ j l) fun r v a=>a.elim fun m n o p q=>⟨x::m,n,o,.cons k p,q⟩
def df (t:TA):TE:=fun c H Q=>t c H fun a b=>a.length<=sizeLine/\∀p,b p=none->Q (.ref p) (upd b p (.tup a))
def jR (t:TA):TE:=fun c H Q=>t c H fun a b=>a.length<=sizeLine/\∀p,b p=none->Q (.ref p) (upd b p (.lst a))
theorem BI {f} (h:PA X es t):PE X (.Tuple es f pos) (df t):=by
 intro pins s g H Q I i
 refine wpAny_Tuple_spliced (Bl (h pos pins s g H _ I i) fun j a ⟨k,c,d,r,z,q⟩=>⟨by rw[<-r.length];exact z,?_⟩)
 have l:c a.heap.objs.size=none:=d.BV.fresh (Nat.le_refl _)
 refine⟨.ref a.heap.objs.size,upd c a.heap.objs.size (.tup k),d.laid (t':=a.toks) (fun b u e=>Heap.get?_push_of_some _ e) (Nat.le_refl _) ?_,rfl,q _ l⟩
 exact⟨z,j,r,⟨_,Heap.get?_push_size _ rfl,rfl,_,rfl⟩⟩
theorem BW (h:PA X es t):PE X (.List es pos) (jR t):=by
 intro pins s f H Q I g
 refine wpAny_List_spliced (Bl (h pos pins s f H _ I g) fun i a ⟨j,c,d,r,z,q⟩=>⟨by rw[<-r.length];exact z,?_⟩)
 have k:c a.heap.objs.size=none:=d.BV.fresh (Nat.le_refl _)
 refine⟨.ref a.heap.objs.size,upd c a.heap.objs.size (.lst j),d.laid (t':=a.toks) (fun b u e=>Heap.get?_push_of_some _ e) (Nat.le_refl _) ?_,rfl,q _ k⟩
 exact⟨z,i,0,r,Heap.get?_push_size _ rfl⟩
end
abbrev Sp:=List V->Hp->VK->XK->Prop
abbrev NV:=List Env->Hp->Shared->XK->Value->Shared->Prop
structure TQ (P:Program) (w:World) (K:AAE) (mg:Str->Option Value) (base:Heap) (A:Around) (outer:List Env) (s:Shared) (H:Hp):Prop where
 frames:A.frames=some outer
 mod:Mod K mg base
 bs:∀b o,base.get? b=some o->s.heap.get? b=some o/\H b=none
 Sx:base.objs.size<=s.heap.objs.size
 JV:s.heap.FunFrames base outer
 cU:∀b∈Sw outer,H b=none
 BV:F' P w H s.heap
 bare:AllBare s.gens
inductive CE (outer:List Env) (P:Program) (w:World) (H:Hp) (s:Shared) (Q:VK) (u:Value) (a:Shared):Prop
 |mk (v:V) (H':Hp) (os:a.os=s.os) (bare:AllBare a.gens) (un:Un (Sw outer) [] H H' s.heap a.heap) (b:F' P w H' a.heap) (r:RelV v u) (q:Q v H'):CE outer P w H s Q u a
def CR (CX:NV) (outer:List Env) (P:Program) (w:World) (H:Hp) (s:Shared) (Q:VK) (E:XK) (r:Result) (a:Shared):Prop:=
 match r with
 | .ok (.ret u)=>CE outer P w H s Q u a
 | .ok _=>False
 | .error e=>CX outer H s E e a
structure Bb (P:Program) (w:World) (K:AAE) (mg:Str->Option Value) (base:Heap) (CX:NV) (k:Nat) (f:Addr) (fd:FuncData) (ps:List Str) (sp:Sp):Prop where
 len:∀vs H Q E,sp vs H Q E->vs.length=ps.length
 run:∀(A:Around) (outer:List Env) (s:Shared) (H:Hp) (args:Args) (us:List Value) (vs:List V) (Q:VK) (E:XK),Am k A->TQ P w K mg base A outer s H->BindsTo s fd args (ps.zip us)->Vals vs us->sp vs H Q E->
  codeAny (model P w) A (.call (.ref f) args) (CR CX outer P w H s Q E) s
theorem Bb.imp {P:Program} {w:World} {K:AAE} {mg:Str->Option Value} {base:Heap} {CX:NV} {k:Nat} {f:Addr} {c:FuncData} {ps:List Str} {sp b:Sp} (F:Bb P w K mg base CX k f c ps sp)
  (h:∀a H Q E,b a H Q E->sp a H Q E):Bb P w K mg base CX k f c ps b:=
 ⟨fun a H Q E q=>F.len a H Q E (h _ _ _ _ q),fun A outer s H args d a Q E e g i j l=>F.run A outer s H args d a Q E e g i j (h _ _ _ _ l)⟩
section
variable{X:Cx} {pins:List (Addr×Obj)} {σ:St} {H:Hp} {s s':Shared}
theorem Inv.jS (I:Inv X pins σ H s):TQ X.prog X.w X.K X.mg X.base X.A X.stack s H:=
 ⟨I.ok.frames,I.ok.mod,I.bs,Nat.le_trans I.ok.Sx I.sz,I.stack,I.Lz,I.BV,I.bare⟩
theorem Inv.after {Q:VK} {u:Value} (I:Inv X pins σ H s) (h:CE X.stack X.prog X.w H s Q u s'):EP X pins σ Q u s':=by
 obtain⟨v,e,os,bare,un,a,r,q⟩:=h
 obtain⟨f,g,d,t,c⟩:=s'
 obtain rfl:c=s.os:=os
 exact⟨v,e,I.call (h':=f) (g':=g) (d':=d) (t':=t) (ch:=[]) un a bare (fun b z=>absurd z (by simp)),r,q⟩
end
def Yk (sp:Sp) (a:List V) (E:XK) (t:TA):TE:=fun b H Q=>t b H fun c d=>sp (c++a) d Q E
def Binds (K:AAE) (c:FuncData) (ps:List Str) (b:List Value):Prop:=
 ∀(s:Shared) (a:List Value),K.In s.heap->(a++b).length=ps.length->BindsTo s c ⟨a,[]⟩ (ps.zip (a++b))
theorem Binds.all {K:AAE} {b:FuncData} {ps:List Str} (h:∀a:List Value,a.length=ps.length->bindArgs b ⟨a,[]⟩=pure (ps.zip a)):Binds K b ps []:=fun s a _ c=>by
 rw[List.append_nil]at c⊢
 exact .of_eq (h a c)
def Passes (CX:NV) (X:Cx) (E:XK):Prop:=∀(pins:List (Addr×Obj)) (b:St) (H:Hp) (s:Shared) (e:Value) (a:Shared),Inv X pins b H s->CX X.stack H s E e a->X.xe e a
section
variable{X:Cx} {CX:NV} {k:Nat} {f C:Addr} {fd:FuncData} {ps:List Str} {sp:Sp} {Yl:List V} {ds:List Value} {E:XK} {x m:Str} {p pos apos:Pos} {e o:Expr} {es:List Expr} {ta:TE} {t:TA}
theorem Zv {pins:List (Addr×Obj)} {σ:St} {H:Hp} {s:Shared} {Q:VK} {a:List Value} {c:List V} (F:Bb X.prog X.w X.K X.mg X.base CX k f fd ps sp) (g:Am k X.A) (i:Binds X.K fd ps ds) (j:Vals Yl ds) (l:Passes CX X E)
  (I:Inv X pins σ H s) (r:Vals c a) (h:sp (c++Yl) H Q E):wpAny (model X.prog X.w) X.A (call (.ref f) a) (EP X pins σ Q) X.xe s:=by
 have d:Vals (c++Yl) (a++ds):=r.append j
 have n:(a++ds).length=ps.length:=by rw[<-d.length];exact F.len _ _ _ _ h
 refine wpAny_call (codeAny_mono (F.run X.A X.stack s H ⟨a,[]⟩ (a++ds) (c++Yl) Q E g I.jS (i s a I.IU n) d h) fun r q b=>?_)
 cases r with
 |error e=>exact l pins σ H s e q I b
 |ok v=>
  cases v with
  |ret u=>exact I.after b
  |next=>exact False.elim b
  |brk=>exact False.elim b
  |cont=>exact False.elim b
theorem AJ (F:Bb X.prog X.w X.K X.mg X.base CX k f fd ps sp) (d:Am k X.A) (g:Gl X x) (i:X.mg x=some (.ref f)) (j:PySem.W.keepIn X.K (.ref f)=true) (l:Binds X.K fd ps ds) (n:Vals Yl ds) (u:Passes CX X E)
  (v:PA X (e::es) t) (a:(x==("__debug__":Str))=false:=by decide) (y:starEach (e::es) X.env=(false,eval e X.env)::starEach es X.env:=by rfl) (b:(backTo pos (starEach es X.env)).any (·.1)=false:=by rfl):
  PE X (.Call (.Name x p) (e::es) [] pos) (Yk sp Yl E t):=by
 intro pins s z H Q I h
 refine wpAny_Call_Name_kw (QO I g i ?_ a)
 refine PySem.W.callWith_K (h₀:=X.base) I.ok.mod.iw j (Bl (v pos pins s z H _ I h) fun D G B=>B.elim fun J L c r q=>⟨c.IU,?_⟩) y b
 exact Zv F d l n u c r q
structure Mk (K:AAE) (C f:Addr):Prop where
 makes:PySem.W.makesIn K C=true
 init:PySem.W.findIn K (.ref C) "__init__"=some (some (.ref f))
 fn:PySem.W.isFn K (.ref f)=true
 kp:PySem.W.keepIn K (.ref C)=true
end
section
variable{X:Cx} {CX:NV} {k:Nat} {f C:Addr} {fd:FuncData} {ps ks:List Str} {sp:Sp} {E:XK} {x m:Str} {p pos apos vA:Pos} {e o:Expr} {es:List Expr} {vB:List Keyword} {te ta:TE} {t tk:TA} {nm:Option Str}
structure jT (K:AAE) (fd:FuncData) (ps ks:List Str) (g:List Value->List Value->List Value) (gV:List V->List V->List V):Prop where
 to:∀(s:Shared) (us ws:List Value),K.In s.heap->(g us ws).length=ps.length->BindsTo s fd ⟨us,ks.zip ws⟩ (ps.zip (g us ws))
 rel:∀{vs:List V} {us:List Value} {zs:List V} {ws:List Value},Vals vs us->Vals zs ws->Vals (gV vs zs) (g us ws)
variable{g:List Value->List Value->List Value} {gV:List V->List V->List V}
end
structure An (N P:List Str) (sc:Scope):Prop where
 kind:sc.kind=.function
 co:sc.isCoroutine=false
 gen:sc.isGenerator=false
 nd:N.Nodup
 pre:N.take P.length=P
 par:∀x∈P,sc.names.lookup x=some .local∨sc.names.lookup x=some .cell
 Zw:∀y∈sc.names,y.2≠.free
theorem Kz {kindOf:Str->Option NameKind} {x:Str}:∀{binds:List (Str×Value)} {m:Str->Option Value},(∀v,(x,v)∉binds)->bindL kindOf binds m x=m x
 |[],_,_=>rfl
 |(n,v)::r,m,h=>by
  unfold bindL
  rw[Kz fun w hw=>h w (List.mem_cons_of_mem _ hw)]
  split
  ·have:x≠n:=by rintro rfl;exact h v List.mem_cons_self
   simp[this]
  ·rfl
theorem K_ {kindOf:Str->Option NameKind} {x:Str}:∀{binds:List (Str×Value)} {m:Str->Option Value},(∀v,(x,v)∉binds)->bindC kindOf binds m x=m x
 |[],_,_=>rfl
 |(n,v)::r,m,h=>by
  unfold bindC
  rw[K_ fun w hw=>h w (List.mem_cons_of_mem _ hw)]
  split
  ·rfl
  ·have:x≠n:=by rintro rfl;exact h v List.mem_cons_self
   simp[this]
theorem K' {kindOf:Str->Option NameKind} {x:Str} {v:Value}:∀{P:List Str} {a:List Value} {i:Nat} {m:Str->Option Value},P.Nodup->P[i]?=some x->a[i]?=some v->kindOf x=some .local->
  bindL kindOf (P.zip a) m x=some v
 |[],_,_,_,_,h,_,_=>by simp at h
 |_::_,[],_,_,_,_,h,_=>by simp at h
 |p::P,w::a,0,m,d,b,c,e=>by
  simp at b c;subst b;subst c
  show bindL kindOf ((p,w)::P.zip a) m p=_
  unfold bindL
  rw[Kz fun v f=>(List.nodup_cons.mp d).1 (List.of_mem_zip f).1,if_pos e]
  simp
 |p::P,w::a,i+1,m,d,b,c,e=>by
  show bindL kindOf ((p,w)::P.zip a) m x=_
  unfold bindL
  exact K' (i:=i) (List.nodup_cons.mp d).2 (by simpa using b) (by simpa using c) e
theorem LA {kindOf:Str->Option NameKind} {x:Str} {v:Value}:∀{P:List Str} {a:List Value} {i:Nat} {m:Str->Option Value},P.Nodup->P[i]?=some x->a[i]?=some v->kindOf x≠some .local->
  bindC kindOf (P.zip a) m x=some v
 |[],_,_,_,_,h,_,_=>by simp at h
 |_::_,[],_,_,_,_,h,_=>by simp at h
 |p::P,w::a,0,m,d,b,c,e=>by
  simp at b c;subst b;subst c
  show bindC kindOf ((p,w)::P.zip a) m p=_
  unfold bindC
  rw[K_ fun v f=>(List.nodup_cons.mp d).1 (List.of_mem_zip f).1,if_neg e]
  simp
 |p::P,w::a,i+1,m,d,b,c,e=>by
  show bindC kindOf ((p,w)::P.zip a) m x=_
  unfold bindC
  exact LA (i:=i) (List.nodup_cons.mp d).2 (by simpa using b) (by simpa using c) e
def start (N:List Str) (a:List V):St:=a.map some++List.replicate (N.length-a.length) none
def RM (CX:NV) (P:Program) (w:World) (K:AAE) (mg:Str->Option Value) (base:Heap) (N:List Str) (qual:Str) (scope:Scope) (f:Addr) (cd:Value) (A:Around) (outer:List Env) (s:Shared) (H:Hp) (E:XK):Cx where
 prog:=P
 w:=w
 K:=K
 mg:=mg
 base:=base
 A:=A.deeper (envOfC qual scope s.heap.objs.size f cd)
 N:=N
 s₀:=s
 H₀:=H
 env:=envOfC qual scope s.heap.objs.size f cd
 outer:=outer
 stack:=envOfC qual scope s.heap.objs.size f cd::outer
 ex:=[]
 calm:=true
 fn:=fun _=>true
 pn:=[]
 xe:=fun e s'=>wpAny (model P w) (A.deeper (envOfC qual scope s.heap.objs.size f cd)) (leaving (envOfC qual scope s.heap.objs.size f cd) e) (fun _ iA=>CX outer H s E e iA) (fun e' iA=>CX outer H s E e' iA) s'
theorem NW {a:Scope} {n:Nat} {x:Str} (h:a.names.lookup x=some .cell):∃c,(cellsFrom n a.names []).lookup x=some c:=by
 have q:=PySem.W.cellsFrom_some a.names n [] (.inl h)
 exact Option.isSome_iff_exists.mp q
theorem RN {CX:NV} {P:Program} {w:World} {K:AAE} {mg:Str->Option Value} {base:Heap} {N ps:List Str} {qual:Str} {scope:Scope} {f:Addr} {B:Value} {A:Around} {outer:List Env} {s G:Shared} {H:Hp} {E:XK} {F:List Value} {j:List V}
  (S:An N ps scope) (L:A.handled=none) (g:TQ P w K mg base A outer s H) (R:j.length=ps.length) (r:Vals j F)
  (x:InCallC s s.heap.objs.size (bindL (envOfC qual scope s.heap.objs.size f B).kindOf (ps.zip F) fun _=>none) (cellsFrom (s.heap.objs.size+1) scope.names []) (bindC (envOfC qual scope s.heap.objs.size f B).kindOf (ps.zip F) fun _=>none) G):
  Inv (RM CX P w K mg base N qual scope f B A outer s H E) [] (start N j) H G:=by
 have M:ps.length<=N.length:=by have:=congrArg List.length S.pre;rw[List.length_take]at this;lia
 obtain⟨C,T,rfl,I⟩:=x.done
 have l:∀b:Addr,b∉(RM CX P w K mg base N qual scope f B A outer s H E).ex:=fun b z=>absurd (show b∈([]:List Addr)from z) (by simp)
 refine⟨⟨g.mod,S.kind,rfl,rfl,Nat.le_refl _,fun y z c C d=>?_,fun y m=>?_,fun y c _ h=>?_,fun _=>L,Around.frames_deeper g.frames,.inr ⟨rfl,rfl⟩,fun b z=>absurd z (l b),g.bs,g.Sx,fun b _ _=>l b,fun b z=>absurd z (l b),g.JV,g.cU⟩,
  rfl,g.bare,Un.kept I,⟨_,x.toInCall.ns,fun i y v C d U=>?_⟩,fun y c h=>⟨_,x.cell y c h⟩,g.BV.fresh (Nat.le_refl _),fun y c h=>?_,fun p o=>absurd (show p∈([]:List (Addr×Obj))from o) (by simp),g.BV.kept I,?_⟩
 ·exact name_of_addr x.apart (PySem.mem_of_lookup C) (PySem.mem_of_lookup d)
 ·have m:scope.names.lookup y=some .cell∨scope.names.lookup y=some .free:=m
  rcases m with m|m
  ·exact NW m
  ·exact absurd rfl (S.Zw _ (PySem.mem_of_lookup m))
 ·exact Nat.le_of_lt (x.above y c (PySem.mem_of_lookup h))
 ·have D:i<j.length:=by
   unfold start at d
   by_cases D:i<j.length
   ·exact D
   ·rw[List.getElem?_append_right (by simpa using D)]at d
    rw[List.getElem?_replicate]at d
    split at d<;>cases d
  have O:j[i]?=some v:=by
   unfold start at d
   rw[List.getElem?_append_left (by simpa using D),List.getElem?_map]at d
   cases e:j[i]? with
   |none=>rw[e]at d;cases d
   |some a=>rw[e]at d;cases d;rfl
  obtain⟨u,J,Q⟩:=r.get O
  have o:ps[i]?=some y:=by
   rw[<-S.pre,List.getElem?_take_of_lt (by lia)];exact C
  have t:ps.Nodup:=by rw[<-S.pre];exact S.nd.sublist (List.take_sublist _ _)
  refine⟨u,Q,?_⟩
  rcases S.par y (AAD o)with k|k
  ·exact .inl ⟨k,K' t o J k⟩
  ·obtain⟨c,e⟩:=NW (n:=s.heap.objs.size+1) k
   refine .inr ⟨.inl k,c,e,?_⟩
   have q:=x.cell y c e
   rw[LA t o J (by show scope.names.lookup y≠_;rw[k];decide)]at q
   exact q
 ·exact g.BV.fresh (Nat.le_of_lt (x.above y c (PySem.mem_of_lookup h)))
 ·unfold start
  show _=N.length
  rw[List.length_append,List.length_map,List.length_replicate]
  lia
theorem dg {CX:NV} {P:Program} {w:World} {K:AAE} {mg:Str->Option Value} {base:Heap} {k:Nat} {f:Addr} {name qual:Str} {params:Arguments} {body:List Stmt} {scope:Scope} {G kV doc L a ct T:Value} {M U:Option Addr}
  {p:Array (Option Value)} {N ps:List Str} {sp:Sp} (lk:K.lookup f=some ⟨T,U,.func (PySem.W.fnOf name qual params body scope G kV doc L M a ct),p⟩) (z:PySem.W.codeIn K a qual=true) (S:An N ps scope)
  (len:∀c H Q E,sp c H Q E->c.length=ps.length)
  (h:∀(A:Around) (outer:List Env) (s:Shared) (H:Hp) (c:List V) (Q:VK) (E:XK),Am k (A.deeper (envOfC qual scope s.heap.objs.size f a))->sp c H Q E->
   ∃t,QN (RM CX P w K mg base N qual scope f a A outer s H E) body t/\t {nx:=fun _ g=>Q .BL g,rt:=Q} (start N c) H):
  Bb P w K mg base CX (k+1) f (PySem.W.fnOf name qual params body scope G kV doc L M a ct) ps sp:=by
 refine⟨len,fun A outer s H args X c Q E B l Y r m=>?_⟩
 have Z:=len _ _ _ _ m
 have O:K.In s.heap:=l.mod.iw.keeps fun b o e=>(l.bs b o e).1
 have C:s.heap.NoLimit:=l.mod.nolimit.keeps fun b o e=>(l.bs b o e).1
 have i:∀y∈ps.zip X,scope.names.lookup y.1=some .local∨(scope.names.lookup y.1=some .cell/\((cellsFrom (s.heap.objs.size+1) scope.names []).lookup y.1).isSome=true):=fun⟨n,v⟩ hy=>by
  rcases S.par n (List.of_mem_zip hy).1 with q|q
  ·exact .inl q
  ·exact .inr ⟨q,PySem.W.cellsFrom_some _ _ _ (.inl q)⟩
 refine codeAny_call_function B.depth (O _ _ lk) rfl S.co S.gen rfl (PySem.W.codeRec_of O z) (Y _ _ _ _ ?_)
 refine wpAny_newFunctionEnv_cells S.kind i fun env he R x=>?_
 subst he
 refine⟨C.keeps x.toInCall.keep,codeAny_func ?_⟩
 obtain⟨t,ht,hq⟩:=h A outer s H c Q E (B.deeper _) m
 have I:Inv (RM CX P w K mg base N qual scope f a A outer s H E) [] (start N c) H R:=RN S B.hd l Z r x
 refine wpAny_mono (ht [] R (start N c) H _ I hq) (fun fl D j=>?_) fun e D j=>j
 have fin:∀{d:St} {g:Hp} {v:V} {u:Value},Inv (RM CX P w K mg base N qual scope f a A outer s H E) [] d g D->RelV v u->Q v g->CE outer P w H s Q u D:=
  fun{d g v u} J F q=>⟨v,g,J.os,J.bare,J.base,J.BV,F,q⟩
 cases fl with
 |ret u=>
  obtain⟨v,d,g,J,F,q⟩:=j
  exact fin J F q
 |next=>
  obtain⟨d,g,J,q⟩:=j
  exact fin (v:=V.BL) (u:=Value.none) J rfl q
 |brk=>
  obtain⟨_,_,_,q⟩:=j
  exact False.elim q
 |cont=>
  obtain⟨_,_,_,q⟩:=j
  exact False.elim q
section
variable{X:Cx} {x:Str} {p pos:Pos} {e:Expr} {es:List Expr} {t:TA} {id T:String} {r:List V->Hp->VK->Prop}
def jU (r:List V->Hp->VK->Prop) (t:TA):TE:=fun a H Q=>t a H fun b c=>r b c Q
theorem AL (d:EX X (.builtin id) r) (f:Gl X x) (g:X.mg x=none) (i:bootBuiltins x=some (.builtin id)) (j:PA X (e::es) t) (k:x≠"__name__":=by decide) (a:(x==("__debug__":Str))=false:=by decide)
  (l:starEach (e::es) X.env=(false,eval e X.env)::starEach es X.env:=by rfl) (b:(backTo pos (starEach es X.env)).any (·.1)=false:=by rfl):PE X (.Call (.Name x p) (e::es) [] pos) (jU r t):=by
 intro pins s c H Q I h
 refine wpAny_Call_Name_kw (FN I f g i ?_ k a)
 exact PyProof.Rows.callWith_builtin1 (Bl (j pos pins s c H _ I h) fun m n o=>o.elim fun q u v w y=>d pins n c u q m Q v w y) l b
theorem EZ (d:EX X (.type T) r) (f:Gl X x) (g:X.mg x=none) (i:bootBuiltins x=some (.type T)) (j:PA X (e::es) t) (k:x≠"__name__":=by decide) (a:(x==("__debug__":Str))=false:=by decide)
  (l:starEach (e::es) X.env=(false,eval e X.env)::starEach es X.env:=by rfl) (b:(backTo pos (starEach es X.env)).any (·.1)=false:=by rfl):PE X (.Call (.Name x p) (e::es) [] pos) (jU r t):=by
 intro pins s c H Q I h
 refine wpAny_Call_Name_kw (FN I f g i ?_ k a)
 exact PyProof.Rows.callWith_type1 (Bl (j pos pins s c H _ I h) fun m n o=>o.elim fun q u v w y=>d pins n c u q m Q v w y) l b
end
end L2
namespace HT
open PySem PyProof.Rows
def lexLt:List Int->List Int->Bool
 |[],[]=>false
 |[],_::_=>true
 |_::_,[]=>false
 |x::xs,y::ys=>if x=y then lexLt xs ys else decide (x<y)
section
open PySem.SeqAt
open PySem.AutoSeq1 (wpAny_loadPart')
open PySem.MeetsSeq PySem.MeetsSeq2 PySem.MeetsSeq3
end
section
variable{prog:Program} {w:World} {A:Around} {E:Value->Shared->Prop} {s:Shared}
theorem Wd {t b:Addr} {c ws:List Value} {Q:Value->Shared->Prop} (u:IsTup s.heap t c.toArray) (v:IsTup s.heap b ws.toArray) (k:c≠[])
  (x:ws=[]->Q (.ref t) s) (y:ws≠[]->Q (.ref s.heap.objs.size) {s with heap:=s.heap.push {cls:=.type "tuple",data:=.seq (c++ws).toArray}})
  (j:c.length+ws.length<=sizeLine):wpAny (model prog w) A (binaryOp .Add (.ref t) (.ref b)) Q E s:=by
 obtain⟨⟨cls,l,data,m⟩,i,o,n,p⟩:=id u
 obtain⟨⟨q,d,data2,f⟩,a,g,r,h⟩:=id v
 simp only at o p g h
 subst o p g h
 have e:c.toArray++ws.toArray=(c++ws).toArray:=by simp
 by_cases hw:ws=[]
 ·exact concat_meets ⟨_,i,rfl⟩ ⟨_,a,rfl⟩ noFill_tuple_add seq_tuple_add PySem.F.slot_tuple_add PySem.F.entry_tuple_add (PySem.F.args_tuple_add_2 _ _)
   (tuple_addW1 t b c.toArray ws.toArray n r l d m f (by simpa using k) (by simp[hw])) ⟨i,a,x hw⟩
 ·refine concat_meets ⟨_,i,rfl⟩ ⟨_,a,rfl⟩ noFill_tuple_add seq_tuple_add PySem.F.slot_tuple_add PySem.F.entry_tuple_add (PySem.F.args_tuple_add_2 _ _)
   (tuple_addW2 t b c.toArray ws.toArray n r l d m f (by simpa using k) (by simpa using hw) (by rw[List.size_toArray,List.size_toArray];exact j)) ⟨i,a,?_⟩
  rw[e]
  exact y hw
def CF (n d:Nat):Option Int->Nat
 |none=>d
 |some v=>if v<0 then(v+(n:Int)).toNat else min v.toNat n
theorem TR (n d:Nat):CF n d none=d:=rfl
theorem QQ (n d k:Nat):CF n d (some (k:Int))=min k n:=by
 show(if(k:Int)<0 then((k:Int)+(n:Int)).toNat else min (k:Int).toNat n)=min k n
 rw[if_neg (by lia),Int.toNat_natCast]
theorem Zx (n d:Nat) (b:d<=n) (o:Option Int):CF n d o<=n:=by
 cases o with
 |none=>exact b
 |some v=>
  show(if v<0 then(v+(n:Int)).toNat else min v.toNat n)<=n
  by_cases a:v<0
  ·rw[if_pos a];lia
  ·rw[if_neg a];exact Nat.min_le_right _ _
theorem QR (v:Int) (n d:Nat):(if v<0 then max (v+(n:Int)) 0 else min v (n:Int))=((CF n d (some v):Nat):Int):=by
 show(if v<0 then max (v+(n:Int)) 0 else min v (n:Int))=(((if v<0 then(v+(n:Int)).toNat else min v.toNat n):Nat):Int)
 by_cases a:v<0
 ·simp only[if_pos a];exact(Int.toNat_eq_max _).symm
 ·simp only[if_neg a]
  obtain⟨m,rfl⟩:=Int.eq_ofNat_of_zero_le (Int.not_lt.mp a)
  show min (m:Int) (n:Int)=((min m n:Nat):Int)
  by_cases h:m<=n
  ·rw[Nat.min_eq_left h,Int.min_eq_left (Int.ofNat_le.mpr h)]
  ·rw[Nat.min_eq_right (Nat.le_of_not_le h),Int.min_eq_right (Int.ofNat_le.mpr (Nat.le_of_not_le h))]
theorem Oz (lo a:Option Int) (n:Nat):Builtin.Slice.sliceAdjust lo a 1 (n:Int)=(((CF n 0 lo:Nat):Int),((CF n n a:Nat):Int)):=by
 have b:¬((1:Int)<0):=by lia
 unfold Builtin.Slice.sliceAdjust
 simp only[b,if_false]
 refine Prod.ext ?_ ?_
 ·cases lo with
  |none=>rfl
  |some v=>exact QR v n 0
 ·cases a with
  |none=>rfl
  |some v=>exact QR v n n
theorem O_ (i j:Nat):Builtin.Slice.slicePlaces (i:Int) (j:Int) 1=j-i:=by
 unfold Builtin.Slice.slicePlaces
 have a:(1:Int)>0:=by lia
 simp only[a,if_true,Int.ediv_one]
 split<;>lia
theorem Jc {v:Value} {o:Option Int} {Q:Option Int->Shared->Prop} (p:IsPart v o) (h:Q o s):wpAny (model prog w) A (Builtin.Slice.slicePartIndex v) Q E s:=by
 cases p with
 |none=>exact slicePart_none h
 |int i t=>exact slicePart_int h
theorem Ea {f:Addr} {d e:Value} {lo a:Option Int} {n:Nat} {Q:Int×Int×Nat->Shared->Prop} (g:s.heap.IsSliceOf f d e .none) (i:IsPart d lo) (j:IsPart e a)
  (h:Q (((CF n 0 lo:Nat):Int),1,CF n n a-CF n 0 lo) s):wpAny (model prog w) A (Builtin.Slice.sliceApplied (.ref f) (pure (n:Int))) Q E s:=by
 obtain⟨os,b,k,c⟩:=id g
 unfold Builtin.Slice.sliceApplied Builtin.Slice.sliceFields
 refine wpAny_bind (wpAny_bind (wpAny_field b c (x:=d) rfl (wpAny_bind (wpAny_field b c (x:=e) rfl (wpAny_bind (wpAny_field b c (x:=.none) rfl (wpAny_pure ?_)))))))
 refine wpAny_bind (slicePart_none ?_)
 show wpAny _ _ (if((1:Int)==0)=true then _ else _) _ _ s
 rw[if_neg (by decide)]
 refine wpAny_bind (Jc i (wpAny_bind (Jc j (wpAny_bind (wpAny_pure ?_)))))
 show wpAny _ _ (match Builtin.Slice.sliceAdjust lo a 1 (n:Int)with|(lo,a)=>pure (lo,(1:Int),Builtin.Slice.slicePlaces lo a 1)) _ _ s
 rw[Oz lo a n]
 show wpAny _ _ (pure (((CF n 0 lo:Nat):Int),(1:Int),Builtin.Slice.slicePlaces ((CF n 0 lo:Nat):Int) ((CF n n a:Nat):Int) 1)) _ _ s
 rw[O_]
 exact wpAny_pure h
theorem TU (xs:Array Value) (i k:Nat):((List.range k).filterMap fun(m:Nat)=>xs[((i:Int)+(m:Int)*1).toNat]?).toArray=((xs.toList.drop i).take k).toArray:=by
 have e:(fun(m:Nat)=>xs[((i:Int)+(m:Int)*1).toNat]?)=fun m=>xs[i+m]?:=by
  funext m
  have:((i:Int)+(m:Int)*1).toNat=i+m:=by lia
  rw[this]
 rw[e]
 have:=pick_run xs i k
 rw[List.filterMap_map]at this
 have a:((fun x=>xs[x]?)∘fun x=>i+x)=fun m=>xs[i+m]?:=rfl
 rw[a]at this
 rw[this]
theorem Gk {t d:Addr} {items:Array Value} {j k:Value} {lo b:Option Int} {Q:Value->Shared->Prop} (c:IsTup s.heap t items) (l:s.heap.IsSliceOf d j k .none) (n:IsPart j lo) (o:IsPart k b)
  (hw:¬(CF items.size 0 lo=0/\CF items.size items.size b=items.size))
  (h:Q (.ref s.heap.objs.size) {s with heap:=s.heap.push {cls:=.type "tuple",data:=.seq ((items.toList.drop (CF items.size 0 lo)).take (CF items.size items.size b-CF items.size 0 lo)).toArray}})
  (p:items.size<=sizeLine):wpAny (model prog w) A (getItem (.ref t) (.ref d)) Q E s:=by
 have a:sizeOk (.seq ((items.toList.drop (CF items.size 0 lo)).take (CF items.size items.size b-CF items.size 0 lo)).toArray):=by
  show((items.toList.drop (CF items.size 0 lo)).take (CF items.size items.size b-CF items.size 0 lo)).toArray.size<=sizeLine
  rw[List.size_toArray,List.length_take,List.length_drop,Array.length_toList]
  lia
 have u:CF items.size items.size b<=items.size:=Zx _ _ (Nat.le_refl _) b
 obtain⟨os,e,f,r⟩:=id l
 have g:s.TypeIs (.ref d) "slice":=⟨os,e,f⟩
 unfold getItem
 try with_reducible refine wpAny_holding ?_
 first|refine wpAny_bind (wpAny_pure ?_)|skip
 refine wpAny_bind (wpAny_sequenceKey c.typeIs (by decide) ?_)
 refine wpAny_bind (wpAny_callSpecial?_slot (name:=Str.ofString "__getitem__") c.typeIs PyProof.Rows.slot_tuple_getitem
  (wpAny_call_entry PyProof.Rows.slot_tuple_getitem c.typeIs entry_tuple_getitem ?_ (args_tuple_getitem _ _)))
 show wpAny _ _ (Builtin.Tuple.tupleItemsOf (.ref t)>>=_) _ _ s
 refine wpAny_bind (tupleItemsOf_ c ?_)
 refine wpAny_bind (wpAny_typeOf g ?_)
 rw[if_pos (by decide)]
 refine wpAny_bind (Ea l n o ?_)
 have i:¬((((CF items.size 0 lo:Nat):Int)==0&&(1:Int)==1&&(CF items.size items.size b-CF items.size 0 lo)==items.size)=true):=by
  intro q
  rw[Bool.and_eq_true,Bool.and_eq_true]at q
  have v:((CF items.size 0 lo:Nat):Int)=0:=eq_of_beq q.1.1
  have x:CF items.size items.size b-CF items.size 0 lo=items.size:=eq_of_beq q.2
  exact hw ⟨by lia,by lia⟩
 show wpAny _ _ (if(((CF items.size 0 lo:Nat):Int)==0&&(1:Int)==1&&(CF items.size items.size b-CF items.size 0 lo)==items.size)=true then _ else _) _ _ s
 rw[if_neg i,TU]
 first
  |exact wpAny_bind (m:=Builtin.Tuple.tupleExact _) (wpAny_newObj_type (wpAny_pure ⟨_,rfl,wpAny_pure h⟩) a)
  |exact wpAny_bind (m:=Builtin.Tuple.tupleExact _) (wpAny_newObj_type (wpAny_bind (wpAny_pure (wpAny_pure ⟨_,rfl,wpAny_pure h⟩))) a)
  |exact wpAny_bind (wpAny_bind (m:=Builtin.Tuple.tupleExact _) (wpAny_newObj_type (wpAny_pure (wpAny_pure ⟨_,rfl,wpAny_pure h⟩)) a))
  |exact wpAny_bind (wpAny_bind (m:=Builtin.Tuple.tupleExact _) (wpAny_newObj_type (wpAny_pure ⟨_,rfl,wpAny_pure h⟩) a))
end
end HT
namespace L2
open PySem PySem.Spec PyProof.Rows
abbrev TO:=St->Hp->(Option Int->Hp->Prop)->Prop
def PO (X:Cx) (e:Option Expr) (t:TO):Prop:=
 ∀(pins:List (Addr×Obj)) (s:Shared) (a:St) (H:Hp) (Q:Option Int->Hp->Prop),Inv X pins a H s->t a H Q->
  wpAny (model X.prog X.w) X.A (evalPart e X.env) (fun u c=>∃o b,Inv X pins a b c/\IsPart u o/\Q o b) X.xe s
def We:TO:=fun _ H Q=>Q none H
def dh (t:TE):TO:=fun a H Q=>t a H fun x b=>sP x b Q
section
variable{X:Cx} {e:Expr} {te:TE} {lo hi:Option Expr} {tl th:TO} {pos p2:Pos}
theorem Bv:PO X none We:=by
 intro pins s a H Q I h
 rw[evalPart_none]
 exact wpAny_pure ⟨none,H,I,.none,h⟩
theorem Bd (h:PE X e te):PO X (some e) (dh te):=by
 intro pins s a H Q I hw
 rw[evalPart_some]
 refine Bl (h pins s a H _ I hw) fun u j b=>b.elim fun x c d f g=>?_
 obtain⟨i,rfl,q⟩:=g
 obtain⟨t,rfl⟩:=f
 exact⟨some i,c,d,.int i t,q⟩
def di (X:Cx) (r:V->Option Int->Option Int->Hp->VK->Prop):Prop:=
 ∀(pins:List (Addr×Obj)) (s:Shared) (a:St) (H:Hp) (x:V) (v b c:Value) (lo hi:Option Int) (d:Addr) (Q:VK),Inv X pins a H s->RelV x v->s.heap.IsSliceOf d b c .none->IsPart b lo->IsPart c hi->r x lo hi H Q->
  ∃T id,typeLookup (.type T) "__getitem__"=pure (some (.builtin id))/\s.TypeIs v T/\wpAny (model X.prog X.w) X.A (getItem v (.ref d)) (EP X pins a Q) X.xe s
def vC (r:V->Option Int->Option Int->Hp->VK->Prop) (te:TE) (tl th:TO):TE:=fun a H Q=>te a H fun x b=>tl a b fun l c=>th a c fun u d=>r x l u d Q
theorem BN {r:V->Option Int->Option Int->Hp->VK->Prop} (i:di X r) (j:PE X e te) (k:PO X lo tl) (m:PO X hi th):PE X (.Subscript e (.Slice lo hi none p2) pos) (vC r te tl th):=by
 intro pins s c H Q I h
 refine Subscript_ (Bl (j pins s c H _ I h) fun v n o=>o.elim fun x p t y z=>?_)
 refine wpAny_Slice (Bl (k pins n c p _ t z) fun d B ⟨l,C,D,E,F⟩=>Bl (m pins B c C _ D F) fun f a ⟨u,g,G,J,K⟩=>?_)
 rw[evalPart_none]
 refine wpAny_pure ?_
 have L:Inv X pins c g {a with heap:=a.heap.push {cls:=.type "slice",data:=.fields #[d,f,.none]}}:=G.kept (t':=a.toks) fun b P q=>Heap.get?_push_of_some _ q
 obtain⟨T,id,M,N,O⟩:=i pins {a with heap:=a.heap.push {cls:=.type "slice",data:=.fields #[d,f,.none]}} c g x v d f l u a.heap.objs.size Q L y (Heap.IsSliceOf.new ..) E J K
 show wpAny (model X.prog X.w) X.A (subscriptTail e (.Slice lo hi none p2) v (.ref a.heap.objs.size)) (EP X pins c Q) X.xe {a with heap:=a.heap.push {cls:=.type "slice",data:=.fields #[d,f,.none]}}
 exact tail_any (ops:=[.ref a.heap.objs.size,v]) N M O (by with_unfolding_all rfl)
def GA (xs:List V) (lo hi:Option Int):List V:=(xs.drop (HT.CF xs.length 0 lo)).take (HT.CF xs.length xs.length hi-HT.CF xs.length 0 lo)
theorem IV (xs:List V) (lo hi:Option Int):(GA xs lo hi).length<=xs.length:=by
 unfold GA
 rw[List.length_take,List.length_drop]
 lia
inductive Ym (K:AAE) (x:V) (lo:Option Int) (hi:Option Int) (H:Hp) (Q:VK):Prop
 |mk (a:_) (xs:_) (b:x=.ref a) (c:Ap K H a xs) (d:¬(HT.CF xs.length 0 lo=0/\HT.CF xs.length xs.length hi=xs.length)) (f:∀p,H p=none->Q (.ref p) (upd H p (.tup (GA xs lo hi)))):Ym K x lo hi H Q
def jV (K:AAE):V->Option Int->Option Int->Hp->VK->Prop:=fun x lo hi H Q=>Ym K x lo hi H Q
theorem Zy:di X (jV X.K):=by
 intro pins s n H x v p t lo hi u Q I i j k l h
 obtain⟨a,c,rfl,m,hw,q⟩:=h
 cases i
 obtain⟨d,r,f,g⟩:=I.tuple m
 have hlen:d.toArray.size=c.length:=by rw[List.size_toArray];exact r.length.symm
 refine⟨"tuple",_,PyProof.Rows.slot_tuple_getitem.lookup,f.typeIs,?_⟩
 refine HT.Gk f j k l (by rw[hlen];exact hw) ?_ (by rw[hlen];exact g)
 rw[hlen]
 refine⟨.ref s.heap.objs.size,_,I.laid (t':=s.toks) (o:=.tup (GA c lo hi)) (fun b w q=>Heap.get?_push_of_some _ q) (Nat.le_refl _) ?_,rfl,q _ (I.BV.fresh (Nat.le_refl _))⟩
 exact⟨Nat.le_trans (IV c lo hi) g,_,(r.drop (HT.CF c.length 0 lo)).take (HT.CF c.length c.length hi-HT.CF c.length 0 lo),IsTup.new _ _⟩
inductive dk (K:AAE) (x:V) (y:V) (H:Hp) (Q:VK):Prop
 |mk (a:_) (b:_) (c:_) (d:_) (f:x=.ref a) (g:y=.ref b) (h:Ap K H a (c.map V.int)) (i:Ap K H b (d.map V.int)) (j:Q (.bl (HT.lexLt c d)) H):dk K x y H Q
inductive TV (K:AAE) (x:V) (y:V) (H:Hp) (Q:VK):Prop
 |mk (a:_) (b:_) (xs:_) (ys:_) (c:x=.ref a) (d:y=.ref b) (f:Ap K H a xs) (g:Ap K H b ys) (h:xs≠[]) (i:xs.length+ys.length<=sizeLine) (j:(ys=[]->Q (.ref a) H)) (k:(ys≠[]->∀p,H p=none->Q (.ref p) (upd H p (.tup (xs++ys))))):TV K x y H Q
def dq (K:AAE):R2:=fun x y H Q=>TV K x y H Q
theorem Vals.JD {xs:List V} {a:List Value} (r:Vals xs a):a=[]↔xs=[]:=by
 cases r with
 |nil=>simp
 |cons _ _=>simp
theorem Wg:Ep X (binaryOp .Add) (dq X.K):=by
 intro pins s C H x y v u Q I i j h
 obtain⟨a,b,k,l,rfl,rfl,m,n,p,f,r,t⟩:=h
 cases i
 cases j
 obtain⟨A,d,B,_⟩:=I.tuple m
 obtain⟨g,c,p2,_⟩:=I.tuple n
 refine HT.Wd B p2 (fun z=>p (d.JD.mp z)) (fun z=>⟨.ref a,H,I,rfl,r (c.JD.mp z)⟩) (fun z=>?_) (by rw[<-d.length,<-c.length];exact f)
 refine⟨.ref s.heap.objs.size,_,I.laid (t':=s.toks) (o:=.tup (k++l)) (fun b D q=>Heap.get?_push_of_some _ q) (Nat.le_refl _) ?_,rfl,t (fun w=>z (c.JD.mpr w)) _ (I.BV.fresh (Nat.le_refl _))⟩
 exact⟨by rw[List.length_append];exact f,_,d.append c,IsTup.new _ _⟩
inductive Jd (K:AAE) (xs:List V) (H:Hp) (Q:VK):Prop
 |mk (a:_) (ys:_) (b:xs=[.ref a]) (c:Ap K H a ys) (d:Q (.ref a) H):Jd K xs H Q
end
def Oo (n:Nat) (i:Int):Option Nat:=if 0<=i then(if i<n then some i.toNat else none)else if-(n:Int)<=i then some (i+n).toNat else none
def NX {a:Type} (xs:List a) (i:Int):Option a:=(Oo xs.length i).bind fun j=>xs[j]?
theorem JE {n:Nat} {i:Int} {j:Nat} (h:Oo n i=some j):seqIndex? i n=some j/\j<n/\ -(n:Int)<=i/\i<n:=by
 unfold Oo at h
 by_cases b:0<=i
 ·rw[if_pos b]at h
  by_cases a:i<n
  ·rw[if_pos a]at h
   have e:i.toNat=j:=AAC h
   exact⟨by rw[seqIndex_of b a,e],by lia,by lia,a⟩
  ·rw[if_neg a]at h;cases h
 ·rw[if_neg b]at h
  by_cases a: -(n:Int)<=i
  ·rw[if_pos a]at h
   have e:(i+n).toNat=j:=AAC h
   exact⟨by rw[seqIndex_neg (by lia) a,e],by lia,a,by lia⟩
  ·rw[if_neg a]at h;cases h
theorem Gm {a:Type} {xs:List a} {i:Int} {v:a} (h:NX xs i=some v):∃j,seqIndex? i xs.length=some j/\xs[j]?=some v/\j<xs.length/\ -(xs.length:Int)<=i/\i<xs.length:=by
 unfold NX at h
 cases e:Oo xs.length i with
 |none=>rw[e]at h;cases h
 |some j=>
  rw[e]at h
  obtain⟨b,c,d,f⟩:=JE e
  exact⟨j,b,h,c,d,f⟩
theorem Cb {a:Type} {xs:List a} {j:Nat} {v:a} (h:xs[j]?=some v):NX xs (j:Int)=some v:=by
 have b:j<xs.length:=(AAB h).1
 have e:Oo xs.length (j:Int)=some j:=by
  unfold Oo
  rw[if_pos (by lia),if_pos (by lia)];simp
 unfold NX;rw[e];exact h
theorem Br {a:Type} (xs:List a) (v:a):NX (xs++[v]) (-1)=some v:=by
 have b:(xs++[v]).length=xs.length+1:=by simp
 have e:Oo (xs++[v]).length (-1)=some xs.length:=by
  unfold Oo
  rw[b,if_neg (by decide),if_pos (by lia)]
  congr 1
  lia
 unfold NX
 rw[e]
 show(xs++[v])[xs.length]?=some v
 simp
def Wh (b:Expr):Prop:=∀o i,subscripted b false o i=operate [o,i] (getItem o i)
def iB (X:Cx) (r:R2):Prop:=
 ∀(value slice:Expr) (pins:List (Addr×Obj)) (s:Shared) (a:St) (H:Hp) (x y:V) (v u:Value) (Q:VK),Inv X pins a H s->RelV x v->RelV y u->r x y H Q->
  subscripted slice false v u=operate [v,u] (getItem v u)->wpAny (model X.prog X.w) X.A (subscriptTail value slice v u) (EP X pins a Q) X.xe s
def sU (X:Cx) (id:String) (r:V->List V->Hp->VK->Prop):Prop:=
 ∀(pins:List (Addr×Obj)) (s:Shared) (a:St) (H:Hp) (x:V) (b:List V) (v:Value) (c:List Value) (Q:VK),Inv X pins a H s->RelV x v->Vals b c->r x b H Q->
  wpAny (model X.prog X.w) X.A (call (.builtin id) (v::c)) (EP X pins a Q) X.xe s
section
variable{X:Cx} {a b:Expr} {ta tb:TE} {pos:Pos}
theorem AY {r:R2} (c:iB X r) (d:PE X a ta) (e:PE X b tb) (f:Wh b):PE X (.Subscript a b pos) (WJ r ta tb):=by
 intro pins s g H Q I h
 exact Subscript_ (Zq d e I h fun v u i x y j k l m q=>c a b pins i g j x y v u Q k l m q (f _ _))
inductive Yn (K:AAE) (x:V) (y:V) (H:Hp) (Q:VK):Prop
 |mk (p:_) (xs:_) (i:_) (v:_) (c:x=.ref p) (d:y=.int i) (e:A_ K H p xs) (f:NX xs i=some v) (g:Q v H):Yn K x y H Q
def Hn (K:AAE):R2:=fun x y H Q=>Yn K x y H Q
inductive Yo (K:AAE) (x:V) (y:V) (H:Hp) (Q:VK):Prop
 |mk (p:_) (xs:_) (i:_) (v:_) (c:x=.ref p) (d:y=.int i) (e:Ap K H p xs) (f:NX xs i=some v) (g:Q v H):Yo K x y H Q
def Ax (K:AAE):R2:=fun x y H Q=>Yo K x y H Q
inductive Yp (x:V) (y:V) (H:Hp) (Q:VK):Prop
 |mk (z:_) (i:_) (c:_) (d:x=.str z) (e:y=.int i) (f:z.length<=sizeLine) (g:NX z.cps.toList i=some c) (h:Q (.str ⟨#[c]⟩) H):Yp x y H Q
def jW:R2:=fun x y H Q=>Yp x y H Q
theorem Cc:iB X (Hn X.K):=by
 intro value slice pins s k H x y v u Q I o A h l
 obtain⟨p,L,i,z,rfl,rfl,B,C,q⟩:=h
 cases o
 obtain⟨t,rfl⟩:=A
 obtain⟨d,r,e,M⟩:=I.list B
 obtain⟨j,c,D,N,E,F⟩:=Gm C
 obtain⟨w,m,f⟩:=r.get D
 have G:=r.length
 have O:=Hh
 have fin:EP X pins k Q w s:=⟨z,H,I,f,q⟩
 by_cases n:0<=i
 ·have g:i.toNat=j:=by
   rw[seqIndex_of n F]at c
   exact AAC c
  exact item_listR e.isList n (by lia) (by rw[g];simpa using m) fin l
 ·have g:(i+(d.toArray.size:Int)).toNat=j:=by
   rw[seqIndex_neg (by lia) E]at c
   rw[List.size_toArray,<-G]
   exact AAC c
  exact subscriptTail_builtinR (x:=w) e.isList.typeIs slot_list_getitem.lookup
   (wpAny_getItem_list_neg (Q:=fun r J=>r=w/\EP X pins k Q r J) e.isList (by lia) (by rw[List.size_toArray]<;>lia) (by lia) (by rw[g];simpa using m) ⟨rfl,fin⟩) l
theorem AW:iB X (Ax X.K):=by
 intro value slice pins s d H x y v u Q I f g h k
 obtain⟨p,E,i,z,rfl,rfl,l,m,q⟩:=h
 cases f
 obtain⟨t,rfl⟩:=g
 obtain⟨n,r,e,F⟩:=I.tuple l
 obtain⟨j,o,A,G,J,L⟩:=Gm m
 obtain⟨w,B,c⟩:=r.get A
 have C:=r.length
 have M:=Hh
 have fin:EP X pins d Q w s:=⟨z,H,I,c,q⟩
 exact subscriptTail_builtinR (x:=w) e.typeIs slot_tuple_getitem.lookup
  (getItem_tuple (j:=j) (Q:=fun r D=>r=w/\EP X pins d Q r D) e (by lia) (by lia) (by rw[List.size_toArray,<-C];exact o) (by simpa using B) ⟨rfl,fin⟩) k
theorem TX:iB X jW:=by
 intro value slice pins s w H x y v u Q I e f h g
 obtain⟨z,i,c,rfl,rfl,A,k,q⟩:=h
 obtain⟨t,rfl⟩:=e
 obtain⟨B,rfl⟩:=f
 obtain⟨j,d,l,C,m,n⟩:=Gm k
 have o:z.cps.toList.length=z.length:=by simp[Str.length]
 rw[o]at d m n
 have D:=Hh
 exact tail_any (typeIs_str s z t) slot_str_getitem.lookup (getItem_str (c:=c) (by
  have p:decide (i< -(2 ^ 63:Int))=false:=decide_eq_false (by lia)
  have r:decide (i≥2 ^ 63)=false:=decide_eq_false (by lia)
  rw[p,r,Bool.or_false]) (by rw[d];simpa using l) ⟨.str ⟨#[c]⟩,H,I.tok _,⟨_,rfl⟩,q⟩) g
theorem O' (its:List Value) (n j:Nat) (u:Value):Obj.mapSeq (·.setIfInBounds j u) {cls:=.type "list",data:=.seq its.toArray n}={cls:=.type "list",data:=.seq (its.set j u).toArray n}:=by
 simp[Obj.mapSeq]
theorem Inv.lst {pins:List (Addr×Obj)} {σ:St} {H:Hp} {s:Shared} {p:Addr} {xs:List V} (I:Inv X pins σ H s) (h:H p=some (.lst xs)):
  ∃(its:List Value) (n:Nat),Vals xs its/\s.heap.get? p=some {cls:=.type "list",data:=.seq its.toArray n}/\xs.length<=sizeLine:=by
 obtain⟨z,its,n,r,e⟩:=I.BV p _ h
 exact⟨its,n,r,e,z⟩
theorem Inv.Zz {pins:List (Addr×Obj)} {σ:St} {H:Hp} {s:Shared} {p:Addr} {xs ys:List V} {its its':List Value} {n c:Nat} {f:Obj->Obj} (I:Inv X pins σ H s) (h:H p=some (.lst xs))
  (g:s.heap.get? p=some {cls:=.type "list",data:=.seq its.toArray n}) (d:f {cls:=.type "list",data:=.seq its.toArray n}={cls:=.type "list",data:=.seq its'.toArray c}) (r:Vals ys its') (i:ys.length<=sizeLine) (t:Nat):
  Inv X pins σ (upd H p (.lst ys)) {s with heap:=s.heap.update p f,toks:=t}:=by
 have e:(s.heap.update p f).get? p=some {cls:=.type "list",data:=.seq its'.toArray c}:=by
  rw[Heap.get?_update_self f g (by rw[d]<;>rfl),d]
 refine I.write (x:=p) (e:=p) (by rw[h];trivial) (.inl rfl) (fun b u j q=>(Heap.get?_update_other _ _ (Ne.symm j)).trans q) ⟨_,e⟩ ?_
 exact⟨i,its',c,r,e⟩
inductive TY (o:V) (i:V) (v:V) (H:Hp) (Q:(Hp->Prop)):Prop
 |mk (p:_) (xs:_) (k:_) (j:_) (c:o=.ref p) (d:i=.int k) (e:H p=some (.lst xs)) (f:Oo xs.length k=some j) (g:Q (upd H p (.lst (xs.set j v)))):TY o i v H Q
def dr:V->V->V->Hp->(Hp->Prop)->Prop:=fun o i v H Q=>TY o i v H Q
theorem set_list:dM X dr:=by
 intro pins s z H o i v ov G u Q I A B C h
 obtain⟨p,D,k,j,rfl,rfl,l,E,q⟩:=h
 cases A
 obtain⟨t,rfl⟩:=B
 obtain⟨c,n,r,e,F⟩:=I.lst l
 obtain⟨d,J,m,w⟩:=JE E
 have f:=r.length
 have K:=Hh
 have x:Inv X pins z (upd H p (.lst (D.set j v))) {s with heap:=s.heap.update p (Obj.mapSeq (·.setIfInBounds j u))}:=
  I.Zz l e (O' c n j u) (r.set C j) (by rw[List.length_set];exact F) s.toks
 by_cases y:0<=k
 ·have g:k.toNat=j:=by
   rw[seqIndex_of y w]at d
   exact AAC d
  exact PySem.W.ki_setAt e y (by lia) (by rw[List.size_toArray,<-f];exact w) (by rw[g];exact⟨_,x,q⟩)
 ·have g:(k+(c.toArray.size:Int)).toNat=j:=by
   rw[seqIndex_neg (by lia) m]at d
   rw[List.size_toArray,<-f]
   exact AAC d
  exact PySem.W.ki_setBack e (by lia) (by rw[List.size_toArray,<-f];exact m) (by lia) (by rw[g];exact⟨_,x,q⟩)
theorem MF (lo c:Option Int) (n:Nat):(sliceBounds lo c none n).1=((HT.CF n 0 lo:Nat):Int)/\(sliceBounds lo c none n).2.1=((HT.CF n n c:Nat):Int)/\(sliceBounds lo c none n).2.2=1:=by
 refine⟨?_,?_,rfl⟩
 ·cases lo with
  |none=>simp[sliceBounds,HT.CF]
  |some i=>
   simp only[sliceBounds,HT.CF,Option.getD_none,show(1:Int)>0 by decide,if_true]
   by_cases h:i<0
   ·simp only[h,if_true]<;>lia
   ·simp only[h,if_false]<;>lia
 ·cases c with
  |none=>simp[sliceBounds,HT.CF]
  |some i=>
   simp only[sliceBounds,HT.CF,Option.getD_none,show(1:Int)>0 by decide,if_true]
   by_cases h:i<0
   ·simp only[h,if_true]<;>lia
   ·simp only[h,if_false]<;>lia
theorem Kq (its:List Value) (lo c:Option Int):slicePick its.toArray lo c none=((its.drop (HT.CF its.length 0 lo)).take (HT.CF its.length its.length c-HT.CF its.length 0 lo)).toArray:=by
 obtain⟨d,e,f⟩:=MF lo c its.toArray.size
 unfold slicePick
 rw[d,e,f]
 simp only[sliceRange_one,pick_run,List.size_toArray]<;>rfl
inductive Yq (K:AAE) (x:V) (lo:Option Int) (c:Option Int) (H:Hp) (Q:VK):Prop
 |mk (a:_) (xs:_) (d:x=.ref a) (e:A_ K H a xs) (f:∀p,H p=none->Q (.ref p) (upd H p (.lst (GA xs lo c)))):Yq K x lo c H Q
def du (K:AAE):V->Option Int->Option Int->Hp->VK->Prop:=fun x lo c H Q=>Yq K x lo c H Q
theorem Wi:di X (du X.K):=by
 intro pins s n H x v p t lo d u Q I f g i j h
 obtain⟨a,c,rfl,k,q⟩:=h
 cases f
 obtain⟨l,r,e,m⟩:=I.list k
 have hlen:=r.length
 refine⟨"list",_,slot_list_getitem.lookup,e.isList.typeIs,?_⟩
 refine wpAny_getItem_list_slice e.isList g i j .none (by simp) ?_ (by rw[List.size_toArray]<;>lia)
 rw[Kq,<-hlen]
 refine⟨.ref s.heap.objs.size,_,I.laid (t':=s.toks) (o:=.lst (GA c lo d)) (fun b w q=>Heap.get?_push_of_some _ q) (Nat.le_refl _) ?_,rfl,q _ (I.BV.fresh (Nat.le_refl _))⟩
 exact⟨Nat.le_trans (IV c lo d) m,_,0,(r.drop (HT.CF c.length 0 lo)).take (HT.CF c.length c.length d-HT.CF c.length 0 lo),Heap.get?_push_size _ rfl⟩
def BR:V->Bool
 | .BL=>true
 | .bl _=>true
 | .int _=>true
 | .str _=>true
 |_=>false
def Kk:V->V->Bool
 | .BL,.BL=>true
 | .bl a,.bl b=>a==b
 | .bl a,.int b=>(if a then 1 else 0)==b
 | .int a,.bl b=>a==(if b then 1 else 0)
 | .int a,.int b=>a==b
 | .str a,.str b=>a==b
 |_,_=>false
theorem MG {A:Around} {s:Shared} {y x:V} {u v:Value} (e:RelV y u) (c:RelV x v) (g:BR y=true) (f:BR x=true):SeqAt.EqAt A s u v (Kk y x):=by
 cases y with
 |BL=>
  cases e
  cases x with
  |BL=>cases c;exact SeqAt.EqAt.same _
  |bl b=>cases c;exact SeqAt.EqAt.none_bool b
  |int b=>obtain⟨t,rfl⟩:=c;exact SeqAt.EqAt.none_int b t
  |str b=>obtain⟨t,rfl⟩:=c;exact SeqAt.EqAt.none_str b t
  |_=>exact absurd (show false=true from f) Bool.false_ne_true
 |bl a=>
  cases e
  cases x with
  |BL=>cases c;exact SeqAt.EqAt.bool_none a
  |bl b=>cases c;exact SeqAt.EqAt.bool_bool a b
  |int b=>obtain⟨t,rfl⟩:=c;exact SeqAt.EqAt.bool_int a b t
  |str b=>obtain⟨t,rfl⟩:=c;exact SeqAt.EqAt.bool_str a b t
  |_=>exact absurd (show false=true from f) Bool.false_ne_true
 |int a=>
  obtain⟨d,rfl⟩:=e
  cases x with
  |BL=>cases c;exact SeqAt.EqAt.int_none a d
  |bl b=>cases c;exact SeqAt.EqAt.int_bool a d b
  |int b=>obtain⟨t,rfl⟩:=c;exact SeqAt.EqAt.int_int a d b t
  |str b=>obtain⟨t,rfl⟩:=c;exact SeqAt.EqAt.int_str a d b t
  |_=>exact absurd (show false=true from f) Bool.false_ne_true
 |str a=>
  obtain⟨d,rfl⟩:=e
  cases x with
  |BL=>cases c;exact SeqAt.EqAt.str_none a d
  |bl b=>cases c;exact SeqAt.EqAt.str_bool a d b
  |int b=>obtain⟨t,rfl⟩:=c;exact SeqAt.EqAt.str_int a d b t
  |str b=>obtain⟨t,rfl⟩:=c;exact SeqAt.EqAt.str_str a d b t
  |_=>exact absurd (show false=true from f) Bool.false_ne_true
 |_=>exact absurd (show false=true from g) Bool.false_ne_true
def PB (x:V) (u:Value):Bool:=match u with
 | .none=>Kk .BL x
 | .bool b=>Kk (.bl b) x
 | .int i _=>Kk (.int i) x
 | .str z _=>Kk (.str z) x
 |_=>false
theorem TZ {x y:V} {u:Value} (r:RelV y u) (f:BR y=true):PB x u=Kk y x:=by
 cases y with
 |BL=>cases r;rfl
 |bl b=>cases r;rfl
 |int i=>obtain⟨t,rfl⟩:=r;rfl
 |str z=>obtain⟨t,rfl⟩:=r;rfl
 |_=>exact absurd (show false=true from f) Bool.false_ne_true
theorem Gn {x:V}:∀{xs:List V} {c:List Value},Vals xs c->xs.all BR=true->c.any (PB x)=xs.any fun y=>Kk y x
 |_,_,.nil,_=>rfl
 |y::xs,u::c,.cons r t,f=>by
  rw[List.all_cons,Bool.and_eq_true]at f
  rw[List.any_cons,List.any_cons,TZ r f.1,Gn t f.2]
theorem FP {A:Around} {s:Shared} {x:V} {v:Value} (e:RelV x v) (g:BR x=true):∀{xs:List V} {d:List Value},Vals xs d->xs.all BR=true->∀u∈d,SeqAt.EqAt A s u v (PB x u)
 |_,_,.nil,_=>fun u c=>by cases c
 |y::xs,u::d,.cons r t,f=>fun h c=>by
  rw[List.all_cons,Bool.and_eq_true]at f
  rcases List.mem_cons.mp c with rfl|c
  ·rw[TZ r f.1];exact MG r e f.1 g
  ·exact FP e g t f.2 h c
def FA (x:V) (xs:List V):Bool:=xs.any fun y=>Kk y x
inductive dw (K:AAE) (c:Bool) (x:V) (y:V) (H:Hp) (Q:VK):Prop
 |mk (p:_) (xs:_) (d:y=.ref p) (e:(A_ K H p xs∨Ap K H p xs)) (f:BR x=true) (g:xs.all BR=true) (h:Q (.bl (if c then !FA x xs else FA x xs)) H):dw K c x y H Q
def WK (K:AAE) (c:Bool):R2:=fun x y H Q=>dw K c x y H Q
theorem DE:Ep X (compareOp .In) (WK X.K false):=by
 intro pins s k H x y v u Q I f i h
 obtain⟨p,l,rfl,d,g,fs,q⟩:=h
 cases i
 rcases d with d|d
 ·obtain⟨c,r,e,j⟩:=I.list d
  refine SeqAt.in_listAt (PB x) e.isList (fun w hw=>FP f g r fs w (by simpa using hw)) ⟨.bl _,H,I,rfl,?_⟩
  rw[show c.toArray.any (PB x)=c.any (PB x)by simp,Gn r fs]
  exact q
 ·obtain⟨c,r,e,j⟩:=I.tuple d
  refine SeqAt.in_tupleAt (PB x) e (fun w hw=>FP f g r fs w (by simpa using hw)) ⟨.bl _,H,I,rfl,?_⟩
  rw[show c.toArray.any (PB x)=c.any (PB x)by simp,Gn r fs]
  exact q
theorem MH:Ep X (compareOp .NotIn) (WK X.K true):=by
 intro pins s k H x y v u Q I f i h
 obtain⟨p,l,rfl,d,g,fs,q⟩:=h
 cases i
 rcases d with d|d
 ·obtain⟨c,r,e,j⟩:=I.list d
  refine SeqAt.notIn_listAt (PB x) e.isList (fun w hw=>FP f g r fs w (by simpa using hw)) ⟨.bl _,H,I,rfl,?_⟩
  rw[show c.toArray.any (PB x)=c.any (PB x)by simp,Gn r fs]
  exact q
 ·obtain⟨c,r,e,j⟩:=I.tuple d
  refine SeqAt.notIn_tupleAt (PB x) e (fun w hw=>FP f g r fs w (by simpa using hw)) ⟨.bl _,H,I,rfl,?_⟩
  rw[show c.toArray.any (PB x)=c.any (PB x)by simp,Gn r fs]
  exact q
inductive Io (x:V) (y:V) (H:Hp) (Q:VK):Prop
 |mk (i:_) (j:_) (c:x=.str i) (d:y=.str j) (e:Q (.bl (!(!(Builtin.Str.occurrences j i 0 j.length 1).isEmpty))) H):Io x y H Q
inductive FC (K:AAE) (xs:List V) (H:Hp) (Q:VK):Prop
 |mk (p:_) (ys:_) (c:xs=[.ref p]) (d:(A_ K H p ys∨Ap K H p ys)) (e:Q (.int ys.length) H):FC K xs H Q
def FQ (K:AAE):List V->Hp->VK->Prop:=fun c H Q=>FC K c H Q
theorem AZ:EX X (.builtin "len") (FQ X.K):=by
 intro pins s k H l m Q I r h
 obtain⟨p,g,rfl,c,q⟩:=h
 obtain⟨u,rfl,i⟩:=vals1 r
 cases i
 have n:=Hh
 rcases c with c|c
 ·obtain⟨d,e,f,j⟩:=I.list c
  have hlen:=e.length
  exact Calls.call_len_list f.isList (by simp only[List.size_toArray]<;>lia) ⟨.int g.length,H,I.tok _,⟨s.toks+1,by rw[List.size_toArray,hlen]⟩,q⟩
 ·obtain⟨d,e,f,j⟩:=I.tuple c
  have hlen:=e.length
  exact len_tuple f (by simp only[List.size_toArray]<;>lia) ⟨.int g.length,H,I.tok _,⟨s.toks+1,by rw[List.size_toArray,hlen]⟩,q⟩
inductive Ip (xs:List V) (H:Hp) (Q:VK):Prop
 |mk (z:_) (c:xs=[.str z]) (d:z.length<=sizeLine) (e:Q (.int z.length) H):Ip xs H Q
inductive Iq (K:AAE) (xs:List V) (H:Hp) (Q:VK):Prop
 |mk (p:_) (ys:_) (c:xs=[.ref p]) (d:(A_ K H p ys∨Ap K H p ys)) (e:∀l,H l=none->Q (.ref l) (upd H l (.lst ys))):Iq K xs H Q
inductive Eb (K:AAE) (xs:List V) (H:Hp) (Q:VK):Prop
 |mk (p:_) (ys:_) (c:xs=[.ref p]) (d:((A_ K H p ys/\∀l,H l=none->Q (.ref l) (upd H l (.tup ys)))∨(Ap K H p ys/\Q (.ref p) H))):Eb K xs H Q
def Ir (K:AAE):List V->Hp->VK->Prop:=fun c H Q=>Eb K c H Q
theorem Kr:EX X (.type "tuple") (Ir X.K):=by
 intro pins s j H x y Q I r h
 obtain⟨p,k,rfl,h⟩:=h
 obtain⟨u,rfl,n⟩:=vals1 r
 cases n
 rcases h with⟨f,q⟩|⟨f,q⟩
 ·obtain⟨c,g,i,l⟩:=I.list f
  have hlen:=g.length
  refine call_tuple_list i.isList (fun d t=>?_) (by simp only[List.size_toArray]<;>lia)
  have m:Inv X pins j H {s with heap:=d}:=I.kept (t':=s.toks) t
  have v:Inv X pins j (upd H d.objs.size (.tup k)) {s with heap:=d.push {cls:=.type "tuple",data:=.seq c.toArray}}:=
   m.laid (t':=s.toks) (fun b o e=>Heap.get?_push_of_some _ e) (Nat.le_refl _) (show BM X.prog X.w _ _ _ (.tup k)from⟨l,c,g,IsTup.new _ _⟩)
  exact⟨.ref d.objs.size,_,v,rfl,q _ (m.BV.fresh (Nat.le_refl _))⟩
 ·obtain⟨c,g,i,l⟩:=I.tuple f
  exact call_tuple_same i ⟨.ref p,H,I,rfl,q⟩
def sV (K:AAE) (T:String) (x:V) (H:Hp):Prop:=match x with
 | .str _=>T="str"
 | .int _=>T="int"
 | .ref p=>(T="list"/\∃c,A_ K H p c)∨(T="tuple"/\∃o,K.lookup p=some o/\o.cls=.type "tuple"/\o.dict=none)∨
   (T="dict"/\((∃kvs,H p=some (.dK kvs))∨∃kvs,H p=some (.dT kvs)))∨(T="set"/\∃S n,H p=some (.set S n))
 |_=>False
theorem Z_ {pins:List (Addr×Obj)} {σ:St} {H:Hp} {s:Shared} {T:String} {x:V} {v:Value} (I:Inv X pins σ H s) (r:RelV x v) (ty:sV X.K T x H):
  s.TypeIs v T/\∀a,v=.ref a->∃j,s.heap.get? a=some j/\j.dict=none:=by
 cases x with
 |str z=>
  obtain⟨t,rfl⟩:=r
  cases(show T="str"from ty)
  exact⟨typeIs_str s z t,fun _ e=>nomatch e⟩
 |int i=>
  obtain⟨t,rfl⟩:=r
  cases(show T="int"from ty)
  exact⟨typeIs_int s i t,fun _ e=>nomatch e⟩
 |ref p=>
  cases r
  rcases ty with⟨rfl,u,l⟩|⟨rfl,o,d,m,g⟩|⟨rfl,d⟩|⟨rfl,S,n,d⟩
  ·obtain⟨q,_,k,_⟩:=I.list l
   refine⟨k.isList.typeIs,fun a e=>?_⟩
   cases e
   obtain⟨o,n,e,c,g,_⟩:=k
   exact⟨o,e,g⟩
  ·refine⟨⟨o,I.IU p o d,m⟩,fun a e=>?_⟩
   cases e
   exact⟨o,I.IU _ o d,g⟩
  ·have z:∃o,s.heap.get? p=some o/\o.ExactDict:=by
    rcases d with⟨kvs,d⟩|⟨kvs,d⟩
    ·obtain⟨_,_,_,_,o,_,_,e,f,_⟩:=I.BV p _ d
     exact⟨o,e,f⟩
    ·obtain⟨_,_,_,_,o,_,_,e,f,_⟩:=I.BV p _ d
     exact⟨o,e,f⟩
   obtain⟨o,e,f⟩:=z
   refine⟨⟨o,e,f.1⟩,fun a h=>?_⟩
   cases h
   exact⟨o,e,f.2.1⟩
  ·obtain⟨o,_,_,_,e,f,_⟩:=I.BV p _ d
   refine⟨⟨o,e,f.1⟩,fun a h=>?_⟩
   cases h
   exact⟨o,e,f.2.1⟩
 |_=>exact False.elim ty
def vD (K:AAE) (T:String) (r:V->List V->Hp->VK->Prop) (e:TE) (t:TA):TE:=fun c H Q=>e c H fun x d=>sV K T x d/\t c d fun f g=>r x f g Q
variable{o e:Expr} {es:List Expr} {to:TE} {t:TA} {name:Str} {apos ED:Pos} {T id:String} {r:V->List V->Hp->VK->Prop}
theorem FD (n:PlainAttrs T) (slot:Slot T name id) (i:typeOf (.builtin id)=pure (.type "method_descriptor")) (p:sU X id r) (q:PE X o to) (u:PA X (e::es) t)
  (d:attributeBase o name X.env (eval o X.env)=eval o X.env:=by rfl)
  (g:((backTo ED (starEach (e::es) X.env)).all (fun x=> !x.1)&&(backToKw ED (keywordEach [] X.env)).all (fun x=>x.1.isSome)
   &&decide ((e::es).length+([]:List Keyword).length+(if([]:List Keyword).isEmpty then 0 else 1)<30))=true:=by rfl)
  (f:(apos.endLine==ED.line)=true:=by rfl) (w:starEach (e::es) X.env=(false,eval e X.env)::starEach es X.env:=by rfl) (c:(backTo ED (starEach es X.env)).any (·.1)=false:=by rfl):
  PE X (.Call (.Attribute o name apos) (e::es) [] ED) (vD X.K T r to t):=by
 intro pins s j H Q I h
 refine wpAny_Call_method_late d g f rfl (Bl (q pins s j H _ I h) fun v y ⟨x,z,k,l,ty,A⟩=>?_)
 obtain⟨B,C⟩:=Z_ k l ty
 refine⟨T,id,n,slot,i,B,C,?_⟩
 have m:=u ED pins y j z _ k A
 rw[w]at m⊢
 refine Calls.callWith_builtin (by show(false||(backTo ED (starEach es X.env)).any (·.1))=false;rw[c]<;>rfl) (Calls.evalArgs_plain ?_)
 exact Bl m fun D E F=>F.elim fun G J L M N=>p pins E j J x G v D Q L l M N
end
def iC (X:Cx) (id:String) (r:V->List V->Hp->VK->Prop):Prop:=
 ∀(pins:List (Addr×Obj)) (s:Shared) (a:St) (H:Hp) (x:V) (b:List V) (v:Value) (c:List Value) (Q:VK),Inv X pins a H s->RelV x v->Vals b c->r x b H Q->
  wpAny (model X.prog X.w) X.A (call (.builtin id) (v::c)) (EP X pins a Q) X.xe s
theorem Vals.zero {a:List Value} (r:Vals [] a):a=[]:=List.eq_nil_of_length_eq_zero (Paired.length r).symm
theorem Vals.one {x:V} {a:List Value} (r:Vals [x] a):∃u,a=[u]/\RelV x u:=by
 obtain⟨u,b,rfl,h,t⟩:=r.inv
 rw[t.zero]
 exact⟨u,rfl,h⟩
theorem Vals.two {x y:V} {a:List Value} (r:Vals [x,y] a):∃u v,a=[u,v]/\RelV x u/\RelV y v:=by
 obtain⟨u,c,rfl,h,t⟩:=r.inv
 obtain⟨v,rfl,b⟩:=t.one
 exact⟨u,v,rfl,h,b⟩
theorem Vals.eraseIdx:∀{xs:List V} {a:List Value} (i:Nat),Vals xs a->Vals (xs.eraseIdx i) (a.eraseIdx i)
 |_,_,_,.nil=>.nil
 |_,_,0,.cons _ t=>t
 |_,_,i+1,.cons r t=>.cons r (Vals.eraseIdx i t)
theorem LB {a:Type}:∀(l:List a) (i:Nat),(l.eraseIdx i).length<=l.length
 |[],_=>Nat.le_refl _
 |_::_,0=>Nat.le_succ _
 |_::r,i+1=>Nat.succ_le_succ (LB r i)
section
variable{X:Cx} {pins:List (Addr×Obj)} {σ:St} {H:Hp} {s:Shared} {l b:Addr} {xs ys zs:List V}
theorem Inv.Wj {its its':List Value} {n:Nat} {f:Array Value->Array Value} {t':Nat} (I:Inv X pins σ H s) (a:H l=some (.lst xs))
  (e:s.heap.get? l=some {cls:=.type "list",data:=.seq its.toArray n}) (c:f its.toArray=its'.toArray) (d:Vals ys its') (g:ys.length<=sizeLine):
  Inv X pins σ (upd H l (.lst ys)) {s with heap:=s.heap.update l (Obj.mapSeq f),toks:=t'}:=by
 have q:=PySem.IsL.update e f
 rw[c]at q
 refine I.write (x:=l) (e:=l) (by rw[a];exact trivial) (.inl rfl) (fun j u h i=>(Heap.get?_update_other s.heap (Obj.mapSeq f) (Ne.symm h)).trans i) ⟨_,q⟩ ?_
 exact⟨g,its',_,d,q⟩
theorem Inv.Z' {its:List Value} {t':Nat} (I:Inv X pins σ H s) (a:Vals ys its) (c:ys.length<=sizeLine):
  Inv X pins σ (upd H s.heap.objs.size (.lst ys)) {s with heap:=s.heap.push {cls:=.type "list",data:=.seq its.toArray},toks:=t'}:=
 I.laid (fun _ _ q=>Heap.get?_push_of_some _ q) (Nat.le_refl _) ⟨c,its,0,a,Heap.get?_push_size _ rfl⟩
theorem Inv.fresh (I:Inv X pins σ H s):H s.heap.objs.size=none:=I.BV.fresh (Nat.le_refl _)
theorem Inv.PD (I:Inv X pins σ H s) (a:H l=some (.lst xs)):xs.length<=sizeLine/\∃(its:List Value) (n:Nat),Vals xs its/\xs.length=its.length/\s.heap.get? l=some {cls:=.type "list",data:=.seq its.toArray n}:=by
 obtain⟨z,its,n,r,e⟩:=I.BV l _ a
 exact⟨z,its,n,r,r.length,e⟩
theorem Ta {n:Nat} (h:n<=sizeLine):Builtin.List.listTooLong n=false:=by
 unfold Builtin.List.listTooLong
 exact decide_eq_false (by lia)
end
section
variable{X:Cx}
inductive NY (x:V) (a:List V) (H:Hp) (Q:VK):Prop
 |mk (l:_) (xs:_) (y:_) (b:x=.ref l) (c:a=[y]) (d:H l=some (.lst xs)) (e:xs.length<sizeLine) (f:Q .BL (upd H l (.lst (xs++[y])))):NY x a H Q
def Wk:V->List V->Hp->VK->Prop:=fun x a H Q=>NY x a H Q
theorem Ds:iC X "list.append" Wk:=by
 intro pins s g H x i v j Q I c d h
 obtain⟨l,k,y,rfl,rfl,b,m,q⟩:=h
 cases c
 obtain⟨u,rfl,f⟩:=d.one
 obtain⟨z,a,n,r,o,e⟩:=I.PD b
 refine call_meets F.slot_list_append ⟨_,e,rfl⟩ F.entry_list_append (F.args_list_append_2 _ _) (PySem.list_append l a.toArray n u (by rw[List.size_toArray];lia)) ⟨e,?_⟩
 refine⟨.BL,_,I.Wj (its':=a++[u]) b e (by simp) (r.append (.cons f .nil)) ?_,rfl,q⟩
 rw[List.length_append,List.length_singleton]
 lia
inductive NZ (x:V) (a:List V) (H:Hp) (Q:VK):Prop
 |mk (l:_) (b:_) (xs:_) (zs:_) (c:x=.ref l) (d:a=[.ref b]) (e:H l=some (.lst xs)) (f:H b=some (.lst zs)) (g:xs.length+zs.length<=sizeLine) (h:Q .BL (upd H l (.lst (xs++zs)))):NZ x a H Q
def Wl:V->List V->Hp->VK->Prop:=fun x a H Q=>NZ x a H Q
theorem Fm:iC X "list.extend" Wl:=by
 intro pins s y H x A v B Q I i j h
 obtain⟨l,b,C,D,rfl,rfl,g,k,E,q⟩:=h
 cases i
 obtain⟨u,rfl,m⟩:=j.one
 cases m
 obtain⟨z,c,n,r,G,e⟩:=I.PD g
 obtain⟨z2,a,o,p,t,w⟩:=I.PD k
 have f:c.toArray.size+a.toArray.size<=sizeLine:=by rw[List.size_toArray,List.size_toArray];lia
 have d:¬(!c.toArray.isEmpty&&Builtin.List.listTooLong (c.toArray.size+a.toArray.size))=true:=by
  rw[Ta f,Bool.and_false]
  exact Bool.false_ne_true
 refine call_meets F.slot_list_extend ⟨_,e,rfl⟩ F.entry_list_extend (F.args_list_extend_2 _ _)
  (AutoSeq1.list_extend_list_list_0 l c.toArray n b a.toArray o d (by rw[List.size_toArray];lia) (by lia)) ⟨e,w,?_⟩
 refine⟨.BL,_,I.Wj (its':=c++a) g e (by simp) (r.append p) ?_,rfl,q⟩
 rw[List.length_append]
 lia
inductive dy (x:V) (a:List V) (H:Hp) (Q:VK):Prop
 |mk (l:_) (xs:_) (y:_) (b:x=.ref l) (c:a=[]) (d:H l=some (.lst xs)) (e:xs[xs.length-1]?=some y) (f:Q y (upd H l (.lst xs.dropLast))):dy x a H Q
inductive QS (x:V) (a:List V) (H:Hp) (Q:VK):Prop
 |mk (l:_) (xs:_) (i:_) (k:_) (y:_) (b:x=.ref l) (c:a=[.int i]) (d:H l=some (.lst xs)) (e: -(2 ^ 63)<=i) (f:i<2 ^ 63) (g:seqIndex? i xs.length=some k) (h:xs[k]?=some y) (j:Q y (upd H l (.lst (xs.eraseIdx k)))):QS x a H Q
def aA:V->List V->Hp->VK->Prop:=fun x a H Q=>QS x a H Q
theorem Tb:iC X "list.pop" aA:=by
 intro pins s C H x D v E Q I d f h
 obtain⟨l,g,i,k,y,rfl,rfl,c,j,m,o,p,q⟩:=h
 cases d
 obtain⟨u,rfl,A⟩:=f.one
 obtain⟨t,rfl⟩:=A
 obtain⟨z,a,n,r,B,e⟩:=I.PD c
 obtain⟨w,hw,b⟩:=r.get p
 refine call_meets F.slot_list_pop ⟨_,e,rfl⟩ F.entry_list_pop (F.args_list_pop_2 _ _)
  (MeetsSeq.list_pop_at l a.toArray n i t k w (fitsIndex_both j m) (by rw[List.size_toArray,<-B];exact o) (by rw[<-Array.getElem?_toList];exact hw) (by rw[List.size_toArray];lia)) ⟨e,?_⟩
 refine⟨y,_,I.Wj (its':=a.eraseIdx k) c e ?_ (r.eraseIdx k) ?_,b,q⟩
 ·show a.toArray.eraseIdxIfInBounds k=(a.eraseIdx k).toArray
  rw[List.eraseIdxIfInBounds_toArray]
 ·have:=LB g k
  lia
inductive RO (x:V) (a:List V) (H:Hp) (Q:VK):Prop
 |mk (l:_) (xs:_) (b:x=.ref l) (c:a=[]) (d:H l=some (.lst xs)) (e:Q .BL (upd H l (.lst xs.reverse))):RO x a H Q
inductive Wm (x:V) (a:List V) (H:Hp) (Q:VK):Prop
 |mk (l:_) (xs:_) (b:x=.ref l) (c:a=[]) (d:H l=some (.lst xs)) (e:Q .BL (upd H l (.lst []))):Wm x a H Q
inductive Yr (x:V) (y:V) (H:Hp) (Q:VK):Prop
 |mk (l:_) (b:_) (xs:_) (zs:_) (a:x=.ref l) (c:y=.ref b) (d:H l=some (.lst xs)) (e:H b=some (.lst zs)) (f:xs.length+zs.length<=sizeLine) (g:∀p,H p=none->Q (.ref p) (upd H p (.lst (xs++zs)))):Yr x y H Q
def jX:R2:=fun x y H Q=>Yr x y H Q
theorem aB:Ep X (binaryOp .Add) jX:=by
 intro pins s p H x y v u Q I d f h
 obtain⟨l,b,t,w,rfl,rfl,g,i,A,q⟩:=h
 cases d
 cases f
 obtain⟨z,c,n,r,B,e⟩:=I.PD g
 obtain⟨z2,a,C,j,k,m⟩:=I.PD i
 refine PySem.P.add_list e m ?_ (by rw[List.size_toArray,List.size_toArray];lia)
 have o:c.toArray++a.toArray=(c++a).toArray:=by simp
 rw[o]
 exact⟨.ref _,_,I.Z' (t':=s.toks) (r.append j) (by rw[List.length_append];lia),rfl,q _ I.fresh⟩
inductive dz (x:V) (y:V) (H:Hp) (Q:VK):Prop
 |mk (l:_) (k:_) (xs:_) (a:x=.ref l) (b:y=.int k) (c:H l=some (.lst xs)) (d: -(2 ^ 63)<=k) (e:k<2 ^ 63) (f:xs.length*k.toNat<=sizeLine) (g:∀p,H p=none->Q (.ref p) (upd H p (.lst (List.replicate k.toNat xs).flatten))):dz x y H Q
end
section
variable{prog:Program} {w:World} {A:Around} {E:Value->Shared->Prop} {s:Shared}
end
section
variable{X:Cx}
end
section
variable{κ:Type} [DecidableEq κ]
def BX (kvs:List (κ×V)) (k:κ):Option V:=(kvs.find? fun a=>decide (a.1=k)).map (·.2)
def putK (kvs:List (κ×V)) (k:κ) (v:V):List (κ×V):=
 if(kvs.any fun a=>decide (a.1=k))=true then kvs.map (fun a=>if a.1=k then(a.1,v)else a)else kvs++[(k,v)]
def Ec (kvs:List (κ×V)) (k:κ):List (κ×V):=kvs.filter fun a=>decide (a.1≠k)
theorem Tc {k:κ}:BX ([]:List (κ×V)) k=none:=rfl
theorem Bx {p:κ×V} {r:List (κ×V)} {k:κ} (e:p.1=k):BX (p::r) k=some p.2:=by simp[BX,List.find?_cons,e]
theorem By {p:κ×V} {r:List (κ×V)} {k:κ} (e:¬p.1=k):BX (p::r) k=BX r k:=by simp[BX,List.find?_cons,e]
theorem DU (k:κ):∀kvs:List (κ×V),(kvs.any fun a=>decide (a.1=k))=(BX kvs k).isSome
 |[]=>rfl
 |p::r=>by
  rw[List.any_cons]
  by_cases e:p.1=k
  ·simp only[Bx e,decide_eq_true e,Bool.true_or,Option.isSome_some]
  ·rw[By e,decide_eq_false e,Bool.false_or];exact DU k r
theorem Na (k j:κ) (y:V):∀kvs:List (κ×V),BX (kvs.map fun a=>if a.1=k then(a.1,y)else a) j=(BX kvs j).map fun x=>if j=k then y else x
 |[]=>rfl
 |p::r=>by
  have b:=Na k j y r
  rw[List.map_cons]
  by_cases h:p.1=k
  ·rw[if_pos h]
   by_cases e:p.1=j
   ·rw[Bx (p:=(p.1,y)) e,Bx e,Option.map_some,if_pos (e.symm.trans h)]
   ·rw[By (p:=(p.1,y)) e,By e,b]
  ·rw[if_neg h]
   by_cases e:p.1=j
   ·rw[Bx (p:=p) e,Bx e,Option.map_some,if_neg (fun z=>h (e.trans z))]
   ·rw[By (p:=p) e,By e,b]
theorem LC (k j:κ) (y:V):∀kvs:List (κ×V),BX kvs k=none->BX (kvs++[(k,y)]) j=if j=k then some y else BX kvs j
 |[],_=>by
  by_cases e:k=j
  ·rw[if_pos e.symm];exact Bx (p:=(k,y)) e
  ·rw[if_neg (fun z=>e z.symm)];exact By (p:=(k,y)) e
 |p::r,a=>by
  rw[List.cons_append]
  have b:¬p.1=k:=fun z=>by rw[Bx z]at a;cases a
  rw[By b]at a
  have c:=LC k j y r a
  by_cases e:p.1=j
  ·rw[Bx e,Bx e,if_neg (fun z=>b (e.trans z))]
  ·rw[By e,By e,c]
theorem Td (kvs:List (κ×V)) (k j:κ) (y:V):BX (putK kvs k y) j=if j=k then some y else BX kvs j:=by
 unfold putK
 by_cases a:(kvs.any fun b=>decide (b.1=k))=true
 ·rw[if_pos a,Na]
  rw[DU]at a
  by_cases e:j=k
  ·obtain⟨x,c⟩:=Option.isSome_iff_exists.mp a
   rw[if_pos e,e,c,Option.map_some,if_pos rfl]
  ·rw[if_neg e]
   cases BX kvs j with
   |none=>rfl
   |some x=>rw[Option.map_some,if_neg e]
 ·rw[if_neg a]
  refine LC k j y kvs ?_
  rw[DU]at a
  cases q:BX kvs k with
  |none=>rfl
  |some x=>rw[q]at a;exact(a rfl).elim
theorem FR (kvs:List (κ×V)) (k:κ) (v:V):(putK kvs k v).length<=kvs.length+1:=by
 unfold putK
 split
 ·rw[List.length_map];lia
 ·rw[List.length_append,List.length_cons,List.length_nil];lia
theorem Gp {kvs:List (κ×V)} {k:κ} (v:V) (h:BX kvs k=none):putK kvs k v=kvs++[(k,v)]:=by
 unfold putK
 rw[DU,h]
 exact if_neg (by decide)
theorem Ge.Ed {o:Option V} {u:Option Value} (r:Ge o u):o.isSome=u.isSome:=by
 cases o with
 |none=>cases u with
  |none=>rfl
  |some _=>exact(show False from r).elim
 |some _=>cases u with
  |none=>exact(show False from r).elim
  |some _=>rfl
theorem Ge.getD {o:Option V} {u:Option Value} {d:V} {d':Value} (r:Ge o u) (a:RelV d d'):RelV (o.getD d) (u.getD d'):=by
 cases o with
 |none=>cases u with
  |none=>exact a
  |some _=>exact(show False from r).elim
 |some _=>cases u with
  |none=>exact(show False from r).elim
  |some _=>exact r
theorem KV.val {kvs:List (κ×V)} {d:List (κ×Value)} (r:KV kvs d) (k:κ):Ge (BX kvs k) (valueAt d k):=by
 unfold KV at r
 induction r with
 |nil=>exact True.intro
 |@cons p q j a h t g=>
  obtain⟨f,i⟩:=h
  by_cases e:p.1=k
  ·have c:q.1=k:=f.symm.trans e
   have b:valueAt (q::a) k=some q.2:=by simp[valueAt,List.find?_cons,c]
   rw[Bx e,b];exact i
  ·have c:¬q.1=k:=fun z=>e (f.trans z)
   have b:valueAt (q::a) k=valueAt a k:=by simp[valueAt,List.find?_cons,c]
   rw[By e,b];exact g
theorem KV.any {kvs:List (κ×V)} {b:List (κ×Value)} (r:KV kvs b) (k:κ):(kvs.any fun a=>decide (a.1=k))=b.any fun a=>decide (a.1=k):=by
 unfold KV at r
 induction r with
 |nil=>rfl
 |cons h t c=>rw[List.any_cons,List.any_cons,c,h.1]
theorem KV.aC {kvs:List (κ×V)} {c:List (κ×Value)} (r:KV kvs c) (k:κ) {y:V} {u:Value} (d:RelV y u):
  KV (kvs.map fun a=>if a.1=k then(a.1,y)else a) (c.map fun a=>if a.1=k then(a.1,u)else a):=by
 unfold KV at r⊢
 induction r with
 |nil=>exact .nil
 |@cons p q i j h t f=>
  rw[List.map_cons,List.map_cons]
  refine .cons ?_ f
  obtain⟨b,g⟩:=h
  by_cases e:p.1=k
  ·rw[if_pos e,if_pos (b.symm.trans e)];exact⟨b,d⟩
  ·rw[if_neg e,if_neg (fun z=>e (b.trans z))];exact⟨b,g⟩
theorem KV.put {kvs:List (κ×V)} {a:List (κ×Value)} (r:KV kvs a) (k:κ) {y:V} {u:Value} (b:RelV y u):KV (putK kvs k y) (stored a k u):=by
 unfold putK stored
 rw[r.any k]
 by_cases e:(a.any fun c=>decide (c.1=k))=true
 ·rw[if_pos e,if_pos e];exact r.aC k b
 ·rw[if_neg e,if_neg e];exact Paired.snoc r ⟨rfl,b⟩
theorem KV.drop {kvs:List (κ×V)} {d:List (κ×Value)} (r:KV kvs d) (k:κ):KV (Ec kvs k) (without d k):=by
 unfold KV at r⊢
 unfold Ec without
 induction r with
 |nil=>exact .nil
 |@cons p q j l h t f=>
  obtain⟨c,g⟩:=h
  rw[List.filter_cons,List.filter_cons]
  by_cases e:p.1=k
  ·have a:¬decide (p.1≠k)=true:=by simp[e]
   have b:¬decide (q.1≠k)=true:=by simp[c.symm.trans e]
   rw[if_neg a,if_neg b];exact f
  ·have i:¬q.1=k:=fun z=>e (c.trans z)
   have a:decide (p.1≠k)=true:=by simp[e]
   have b:decide (q.1≠k)=true:=by simp[i]
   rw[if_pos a,if_pos b];exact .cons ⟨c,g⟩ f
theorem KV.keys {kvs:List (κ×V)} {a:List (κ×Value)} (r:KV kvs a):kvs.map (·.1)=a.map (·.1):=by
 unfold KV at r
 induction r with
 |nil=>rfl
 |cons h t b=>rw[List.map_cons,List.map_cons,b,h.1]
theorem KV.length {kvs:List (κ×V)} {a:List (κ×Value)} (r:KV kvs a):kvs.length=a.length:=Paired.length r
theorem Te (kvs:List (κ×V)) (k:κ):(Ec kvs k).length<=kvs.length:=List.length_filter_le _ _
end
theorem Gq {P:Program} {w:World} {k:Key} {u:Value} (r:RelV (kV k) u):(A' P w).is k u=true:=by
 cases k with
 |inl i=>obtain⟨t,e⟩:=(show∃t,u=Value.int i t from r);subst e;exact NH P w i t
 |inr x=>obtain⟨t,e⟩:=(show∃t,u=Value.str x t from r);subst e;exact NI P w x t
theorem aD {a b:Key} (e:kV a=kV b):a=b:=by
 cases a with
 |inl i=>cases b with
  |inl j=>have c:V.int i=V.int j:=e;injection c with c;rw[c]
  |inr y=>exact nomatch(show V.int i=V.str y from e)
 |inr x=>cases b with
  |inl j=>exact nomatch(show V.str x=V.int j from e)
  |inr y=>have c:V.str x=V.str y:=e;injection c with c;rw[c]
theorem LD {P:Program} {w:World}:∀{ks:List Key} {a:List Value},Vals (ks.map kV) a->ItemsAre (A' P w) ks a
 |[],_,r=>by rw[List.map_nil]at r;cases r;exact .nil
 |k::ks,_,r=>by
  rw[List.map_cons]at r
  cases r with
  |cons h t=>exact .cons (Gq h) (LD t)
abbrev KT (H:Hp):List (List Key×V)->List (List Key×Addr×Value)->Prop:=Paired fun p q=>p.1=q.1/\H q.2.1=some (.tup (p.1.map kV))/\RelV p.2 q.2.2
theorem KT.val {H:Hp} {kvs:List (List Key×V)} {xs:List (List Key×Addr×Value)} (r:KT H kvs xs) (k:List Key):Ge (BX kvs k) ((atKey xs k).map (·.2)):=by
 induction r with
 |nil=>exact True.intro
 |@cons p q i a h t f=>
  obtain⟨d,_,g⟩:=h
  by_cases e:p.1=k
  ·have c:q.1=k:=d.symm.trans e
   have b:atKey (q::a) k=some q.2:=by simp[atKey,List.find?_cons,c]
   rw[Bx e,b];exact g
  ·have c:¬q.1=k:=fun z=>e (d.trans z)
   have b:atKey (q::a) k=atKey a k:=by simp[atKey,List.find?_cons,c]
   rw[By e,b];exact f
theorem KT.aC {H:Hp} {kvs:List (List Key×V)} {xs:List (List Key×Addr×Value)} (r:KT H kvs xs) (k:List Key) {y:V} {u:Value} (d:RelV y u):
  KT H (kvs.map fun b=>if b.1=k then(b.1,y)else b) (xs.map (putAt k u)):=by
 induction r with
 |nil=>exact .nil
 |@cons p q i j h t f=>
  rw[List.map_cons,List.map_cons]
  refine .cons ?_ f
  obtain⟨a,c,g⟩:=h
  unfold putAt
  by_cases e:p.1=k
  ·rw[if_pos e,if_pos (a.symm.trans e)];exact⟨a,c,d⟩
  ·rw[if_neg e,if_neg (fun z=>e (a.trans z))];exact⟨a,c,g⟩
theorem KT.put {H:Hp} {kvs:List (List Key×V)} {xs:List (List Key×Addr×Value)} (r:KT H kvs xs) (k:List Key) {b:Addr} {y:V} {u:Value} (c:H b=some (.tup (k.map kV))) (a:RelV y u):
  KT H (putK kvs k y) (storedH xs k b u):=by
 have e:(kvs.any fun d=>decide (d.1=k))=(atKey xs k).isSome:=by
  rw[DU,(r.val k).Ed,Option.isSome_map]
 unfold putK storedH
 rw[e]
 by_cases q:(atKey xs k).isSome=true
 ·rw[if_pos q,if_pos q];exact r.aC k a
 ·rw[if_neg q,if_neg q];exact Paired.snoc r ⟨rfl,c,a⟩
theorem KT.keeps {H H':Hp} {kvs:List (List Key×V)} {xs:List (List Key×Addr×Value)} (r:KT H kvs xs) (a:∀b ys,H b=some (.tup ys)->H' b=some (.tup ys)):KT H' kvs xs:=
 Paired.dA r fun _ _ z=>⟨z.1,a _ _ z.2.1,z.2.2⟩
section
variable{P:Program} {w:World} {H:Hp} {h:Heap} {a:Addr}
theorem Ys {u:HO} (ok:F' P w H h) (e:Rd H a u):BM P w H h a u:=e.ok ok
theorem FT {kvs:List (Key×V)} (ok:F' P w H h) (e:Rd H a (.dK kvs)):kvs.length<=sizeLine/\(a==sysModules)=false/\∃b,KV kvs b/\h.DictOf (A' P w) a b:=
 show BM P w H h a (.dK kvs)from Ys ok e
theorem Tf {kvs:List (Key×V)} (ok:F' P w H h) (e:H a=some (.dK kvs)):kvs.length<=sizeLine/\(a==sysModules)=false/\∃b,KV kvs b/\h.DictOf (A' P w) a b:=FT ok (.inl e)
theorem Ho {ks:List Key} (ok:F' P w H h) (e:H a=some (.tup (ks.map kV))):(tupleKind (A' P w)).is h ks a:=by
 obtain⟨_,b,r,o,c,d,n,f⟩:=(show BM P w H h a (.tup (ks.map kV))from ok a _ e)
 exact⟨o,b.toArray,n,c,d,f,by simpa using LD r⟩
theorem Je {kvs:List (List Key×V)} (ok:F' P w H h) (e:Rd H a (.dT kvs)):kvs.length<=sizeLine/\(a==sysModules)=false/\
  ∃xs,KT H kvs xs/\h.DictOfH (tupleKind (A' P w)) a xs:=by
 obtain⟨z,y,xs,r,o,d,f,g,i,j,k,n⟩:=(show BM P w H h a (.dT kvs)from Ys ok e)
 refine⟨z,y,xs,r,o,d,f,g,i,j,k,fun x b=>?_,n⟩
 have all:∀{l:List (List Key×V)} {m:List (List Key×Addr×Value)},KT H l m->∀x∈m,(tupleKind (A' P w)).is h x.1 x.2.1:=by
  intro l m q
  induction q with
  |nil=>intro x b;exact nomatch b
  |@cons p q u v c t s=>
   intro x b
   rcases List.mem_cons.mp b with e|b
   ·subst e
    exact Ho ok (by rw[<-c.1];exact c.2.1)
   ·exact s x b
 exact all r x b
theorem d_ {kvs:List (List Key×V)} (ok:F' P w H h) (e:H a=some (.dT kvs)):kvs.length<=sizeLine/\(a==sysModules)=false/\
  ∃xs,KT H kvs xs/\h.DictOfH (tupleKind (A' P w)) a xs:=Je ok (.inl e)
end
def Gr (H:Hp) (a:Addr) (y:V) (r:Option V):Prop:=
 (∃kvs k,Rd H a (.dK kvs)/\y=kV k/\r=BX kvs k)∨∃kvs k b,Rd H a (.dT kvs)/\y=.ref b/\H b=some (.tup (k.map kV))/\r=BX kvs k
def Iu (H:Hp) (a:Addr) (y v:V) (H':Hp):Prop:=
 (∃kvs k,H a=some (.dK kvs)/\y=kV k/\kvs.length<sizeLine/\H'=upd H a (.dK (putK kvs k v)))∨
 ∃kvs k b,H a=some (.dT kvs)/\y=.ref b/\H b=some (.tup (k.map kV))/\kvs.length<sizeLine/\H'=upd H a (.dT (putK kvs k v))
theorem Gr.k {H:Hp} {a:Addr} {kvs:List (Key×V)} {k:Key} (e:H a=some (.dK kvs)):Gr H a (kV k) (BX kvs k):=.inl ⟨kvs,k,.inl e,rfl,rfl⟩
theorem Iu.k {H:Hp} {a:Addr} {kvs:List (Key×V)} {k:Key} {v:V} (e:H a=some (.dK kvs)) (b:kvs.length<sizeLine):Iu H a (kV k) v (upd H a (.dK (putK kvs k v))):=.inl ⟨kvs,k,e,rfl,b,rfl⟩
section
variable{X:Cx} {pins:List (Addr×Obj)} {σ:St} {H:Hp} {s:Shared} {a:Addr} {y v:V} {u r:Value} {o:Option V} {A:Around} {E:Value->Shared->Prop}
theorem Inv.big (I:Inv X pins σ H s):sysModules<s.heap.objs.size:=by
 have h:mainGlobals<s.heap.objs.size:=(I.mod.glob.keeps I.bk).lt
 exact Nat.lt_trans (by decide) h
theorem RP {Q:Value->Shared->Prop} (t:A.units+1<cLine) (I:Inv X pins σ H s) (g:Gr H a y (some v)) (n:RelV y u) (h:∀f q,Inv X pins σ H q->RelV v f->Q f q):
  wpAny (model X.prog X.w) A (getItem (.ref a) u) Q E s:=by
 rcases g with⟨kvs,k,e,i,l⟩|⟨kvs,k,b,e,i,x,l⟩
 ·subst i
  obtain⟨z,B,C,c,j⟩:=FT I.BV e
  obtain⟨f,hw,d⟩:=Ge.some_of (v:=v) (o:=valueAt C k) (by rw[l];exact c.val k)
  exact wpAny_getItem_of (Gq n) j.mapOf hw (h f _ (I.tok _) d)
 ·subst i
  cases(show u=Value.ref b from n)
  obtain⟨z,B,D,c,j⟩:=Je I.BV e
  obtain⟨f,hw,d⟩:=Ge.some_of (v:=v) (o:=(atKey D k).map (·.2)) (by rw[l];exact c.val k)
  obtain⟨p,F,m⟩:=Option.map_eq_some_iff.mp hw
  refine wpAny_getItem_heap (tupleKind_room_in1 t) (Ho I.BV x) j F ?_
  rw[m]
  exact h f _ (I.tok _) d
theorem jY {Q:Value->Shared->Prop} (n:A.units+1<cLine) (I:Inv X pins σ H s) (g:Gr H a y o) (j:RelV y u) (h:∀m,Inv X pins σ H m->Q (.bool o.isSome) m):
  wpAny (model X.prog X.w) A (compareOp .In u (.ref a)) Q E s:=by
 rcases g with⟨kvs,k,e,d,l⟩|⟨kvs,k,b,e,d,p,l⟩
 ·subst d
  obtain⟨z,f,t,c,i⟩:=FT I.BV e
  refine wpAny_in_of (Gq j) f i.mapOf ?_
  rw[<-(c.val k).Ed,<-l]
  exact h _ (I.tok _)
 ·subst d
  cases(show u=Value.ref b from j)
  obtain⟨z,f,x,c,i⟩:=Je I.BV e
  refine wpAny_in_heap (tupleKind_room_in1 n) (Ho I.BV p) f i ?_
  have q:=(c.val k).Ed
  rw[Option.isSome_map]at q
  rw[<-q,<-l]
  exact h _ (I.tok _)
theorem Wn {Q:Value->Shared->Prop} (n:A.units+1<cLine) (I:Inv X pins σ H s) (g:Gr H a y o) (j:RelV y u) (h:∀m,Inv X pins σ H m->Q (.bool (!o.isSome)) m):
  wpAny (model X.prog X.w) A (compareOp .NotIn u (.ref a)) Q E s:=by
 rcases g with⟨kvs,k,e,d,l⟩|⟨kvs,k,b,e,d,p,l⟩
 ·subst d
  obtain⟨z,f,t,c,i⟩:=FT I.BV e
  refine wpAny_notIn_of (Gq j) f i.mapOf ?_
  rw[<-(c.val k).Ed,<-l]
  exact h _ (I.tok _)
 ·subst d
  cases(show u=Value.ref b from j)
  obtain⟨z,f,x,c,i⟩:=Je I.BV e
  refine wpAny_notIn_heap (tupleKind_room_in1 n) (Ho I.BV p) f i ?_
  have q:=(c.val k).Ed
  rw[Option.isSome_map]at q
  rw[<-q,<-l]
  exact h _ (I.tok _)
theorem JF {h':Heap} {t':Nat} {c:HO} (I:Inv X pins σ H s) (d:dB (H a)) (f:Heap.SameBut a s.heap h') (g:∃q,h'.get? a=some q) (new:BM X.prog X.w (upd H a c) h' a c):
  Inv X pins σ (upd H a c) {s with heap:=h',toks:=t'}:=
 I.write (x:=a) (e:=a) d (.inl rfl) (fun b q h z=>(f.2 b h).trans z) g new
theorem MI {P:Program} {w:World} {H':Hp} {h':Heap} {kvs:List (Key×V)} {b:List (Key×Value)} (z:kvs.length<=sizeLine) (d:(a==sysModules)=false) (c:KV kvs b) (e:h'.DictOf (A' P w) a b):
  BM P w H' h' a (.dK kvs):=⟨z,d,b,c,e⟩
theorem RQ {H':Hp} {Q:Unit->Shared->Prop} (L:A.units+1<cLine) (I:Inv X pins σ H s) (g:Iu H a y v H') (C:RelV y u) (D:RelV v r) (h:∀F,Inv X pins σ H' F->Q () F):
  wpAny (model X.prog X.w) A (setItem (.ref a) u r) Q E s:=by
 rcases g with⟨kvs,k,e,j,l,m⟩|⟨kvs,k,b,e,j,G,l,m⟩
 ·subst j m
  obtain⟨z,n,M,d,p⟩:=Tf I.BV e
  have t:M.length<=sizeLine:=by rw[<-d.length];exact z
  have x:(putK kvs k v).length<=sizeLine:=by have:=FR kvs k v;lia
  refine wpAny_setItem_pairs (hsz:=t) (Gq C) p fun J f B=>h _ ?_
  have N:∃q,J.get? a=some q:=let⟨q,_,_,i,_⟩:=f;⟨q,i⟩
  exact JF I (by rw[e];exact True.intro) B N (MI x n (d.put k D) f)
 ·subst j m
  cases(show u=Value.ref b from C)
  obtain⟨z,n,O,d,p⟩:=d_ I.BV e
  have t:O.length<=sizeLine:=by rw[<-Paired.length d];exact z
  have x:(putK kvs k v).length<=sizeLine:=by have:=FR kvs k v;lia
  refine wpAny_setItem_heap (hsz:=t) (tupleKind_room_in1 L) (Ho I.BV G) p fun J f B=>h _ ?_
  obtain⟨q,P,R,i,S,T,U,_,W⟩:=f
  refine JF I (by rw[e];exact True.intro) B ⟨q,i⟩ ⟨x,n,_,(d.put k G D).keeps fun c Y K=>?_,q,P,R,i,S,T,U,W⟩
  rw[AN (Di K e (fun z=>nomatch z))]
  exact K
end
section
variable{X:Cx} {pins:List (Addr×Obj)} {σ:St} {H:Hp} {s:Shared} {a:Addr} {kvs:List (Key×V)} {k:Key} {u:Value} {A:Around} {E:Value->Shared->Prop}
theorem eA {v:V} {more:List Value} {Q:Value->Shared->Prop} (I:Inv X pins σ H s) (e:H a=some (.dK kvs)) (f:RelV (kV k) u) (l:BX kvs k=some v) (j:more=[]∨∃x,more=[x])
  (h:∀c m,Inv X pins σ (upd H a (.dK (Ec kvs k))) m->RelV v c->Q c m):wpAny (model X.prog X.w) A (call (.builtin "dict.pop") (.ref a::u::more)) Q E s:=by
 obtain⟨z,r,n,b,p⟩:=Tf I.BV e
 obtain⟨c,hw,g⟩:=Ge.some_of (v:=v) (o:=valueAt n k) (by rw[<-l];exact b.val k)
 have y:(keyPart u).isSome=true:=by
  cases k with
  |inl i=>obtain⟨t,q⟩:=(show∃t,u=Value.int i t from f);subst q;rfl
  |inr x=>obtain⟨t,q⟩:=(show∃t,u=Value.str x t from f);subst q;rfl
 have B:argsOk "dict.pop" ⟨.ref a::u::more,[]⟩:=by
  rcases j with q|⟨x,q⟩
  ·subst q;exact PySem.F.args_dict_pop_2 _ _
  ·subst q;exact PySem.F.args_dict_pop_3 _ _ _
 refine call_meetsIn PySem.F.slot_dict_pop p.typeIs PySem.F.entry_dict_pop B (meets_dict_pop_there (A' X.prog X.w) a (Gq f) more j y)
  ⟨n,c,p,by rw[<-b.length];exact z,hw,fun C d D=>h c _ ?_ g⟩
 have G:∃q,C.get? a=some q:=let⟨q,_,_,J,_⟩:=d;⟨q,J⟩
 exact JF I (by rw[e];exact True.intro) D G (MI (Nat.le_trans (Te kvs k) z) r (b.drop k) d)
end
def eB (i:Expr):Prop:=∀ov a,subscripted i false ov a=operate [ov,a] (getItem ov a)
theorem Wo {prog:Program} {w:World} {A:Around} {E:Value->Shared->Prop} {s:Shared} {env:Env} {value slice:Expr} {pos:Pos} {T id:String} {Q:Value->Shared->Prop}
  (j:typeLookup (.type T) "__getitem__"=pure (some (.builtin id))) (k:eB slice)
  (h:wpAny (model prog w) A (eval value env) (fun o c=>wpAny (model prog w) A (eval slice env) (fun i a=>a.TypeIs o T/\wpAny (model prog w) A (getItem o i) Q E a) E c) E s):
  wpAny (model prog w) A (eval (.Subscript value slice pos) env) Q E s:=by
 refine Subscript_ (wpAny_mono h (fun o c e=>wpAny_mono e (fun i a b=>?_) fun _ _ x=>x) fun _ _ x=>x)
 obtain⟨g,b⟩:=b
 unfold subscriptTail
 refine wpAny_bind ?_
 rw[getitemInPython_of_ne g.not_modules]
 refine wpAny_bind (wpAny_specialOf g j ?_)
 have fin:wpAny (model prog w) A (subscripted slice false o i) (fun r d=>wpAny (model prog w) A (letTemporaryGo value o r>>=fun _=>pure r) Q E d) E a:=by
  rw[k o i]
  exact wpAny_operating (wpAny_mono b (fun r d f=>wpAny_bind (wpAny_letTemporaryGo (wpAny_pure f))) fun _ _ x=>x)
 first
  |exact wpAny_pure (wpAny_bind fin)
  |exact wpAny_bind (wpAny_pure (wpAny_bind fin))
  |exact wpAny_bind fin
theorem Nb {X:Cx} {pins:List (Addr×Obj)} {σ:St} {H:Hp} {s:Shared} {a:Addr} {y:V} {o:Option V} (I:Inv X pins σ H s) (g:Gr H a y o):s.TypeIs (.ref a) "dict":=by
 rcases g with⟨kvs,k,e,_,_⟩|⟨kvs,k,b,e,_,_,_⟩
 ·obtain⟨_,_,d,_,c⟩:=FT I.BV e
  exact c.typeIs
 ·obtain⟨_,_,f,_,c⟩:=Je I.BV e
  exact c.typeIs
inductive sW (x y:V) (H:Hp) (Q:VK):Prop
 |mk (a:Addr) (v:V) (e:x=.ref a) (g:Gr H a y (some v)) (q:Q v H):sW x y H Q
inductive sX (x y:V) (H:Hp) (Q:VK):Prop
 |mk (a:Addr) (o:Option V) (e:x=.ref a) (g:Gr H a y o) (q:Q (.bl o.isSome) H):sX x y H Q
inductive sY (x y:V) (H:Hp) (Q:VK):Prop
 |mk (a:Addr) (o:Option V) (e:x=.ref a) (g:Gr H a y o) (q:Q (.bl (!o.isSome)) H):sY x y H Q
def eD (b ty:TE):TE:=fun a H Q=>b a H fun x c=>ty a c fun y d=>sW x y d Q
def jZ (ty b:TE):TE:=fun a H Q=>ty a H fun y c=>b a c fun x d=>sX x y d Q
def Wq (ty b:TE):TE:=fun a H Q=>ty a H fun y c=>b a c fun x d=>sY x y d Q
def eE (d ty e:TE):TS:=fun D b H=>e b H fun v f=>d b f fun x g=>ty b g fun y h=>∃a c,x=.ref a/\Iu h a y v c/\D.nx b c
section
variable{X:Cx} {o i e value:Expr} {pos pos' jQ:Pos} {td ty tv:TE}
theorem JG (f:X.A.units+1<cLine) (j:PE X o td) (k:PE X i ty) (l:eB i):PE X (.Subscript o i pos) (eD td ty):=by
 intro pins s c H Q I h
 refine Wo PySem.F.slot_dict_getitem.lookup l (Bl (j pins s c H _ I h) fun u m n=>n.elim fun x p q r t=>Bl (k pins m c p _ q t) fun E G ⟨y,w,d,z,a,v,B,g,C⟩=>?_)
 subst B
 obtain rfl:u=Value.ref a:=r
 exact⟨Nb d g,RP f d g z fun J K D b=>⟨v,w,D,b,C⟩⟩
theorem aE (c:X.A.units+1<cLine) (d:PE X i ty) (f:PE X o td):PC X .In i o (jZ ty td):=by
 intro pins s b H Q I h
 refine Bl (d pins s b H _ I h) fun B j k=>k.elim fun y l m n p=>Bl (f pins j b l _ m p) fun u C ⟨x,q,r,t,a,ov,v,g,w⟩=>?_
 subst v
 obtain rfl:u=Value.ref a:=t
 exact jY c r g n fun D z=>⟨.bl ov.isSome,q,z,rfl,w⟩
theorem Fn (c:X.A.units+1<cLine) (d:PE X i ty) (f:PE X o td):PC X .NotIn i o (Wq ty td):=by
 intro pins s b H Q I h
 refine Bl (d pins s b H _ I h) fun B j k=>k.elim fun y l m n p=>Bl (f pins j b l _ m p) fun u C ⟨x,q,r,t,a,ov,v,g,w⟩=>?_
 subst v
 obtain rfl:u=Value.ref a:=t
 exact Wn c r g n fun D z=>⟨.bl (!ov.isSome),q,z,rfl,w⟩
theorem Fo (d:X.A.units+1<cLine) (f:PE X o td) (j:PE X i ty) (k:PE X value tv) (l:swapsWith value (some (.Subscript o i pos')) pos.line X.env=pure false):
  PS X (.Assign [.Subscript o i pos'] value pos) (eE td ty tv):=by
 intro pins s b H D I h
 refine wpAny_Assign_Subscript (Bl (k pins s b H _ I h) fun r m c=>c.elim fun v n p q t=>Bl (f pins m b n _ p t) fun u w c=>c.elim fun x z B C E=>Bl (j pins w b z _ B E) fun N O ⟨y,P,F,G,a,J,K,g,L⟩=>?_) l
 subst K
 obtain rfl:u=Value.ref a:=C
 exact RQ d F g G q fun Q M=>⟨b,J,M,L⟩
end
theorem Nc {P:Program} {w:World} {H:Hp} (h:Heap) (a:sysModules<h.objs.size):BM P w H (h.push {cls:=.type "dict",data:=.dict #[]}) h.objs.size (.dK []):=
 ⟨Nat.zero_le _,beq_eq_false_iff_ne.mpr (Ne.symm (Nat.ne_of_lt a)),[],.nil,Heap.DictOf.new h⟩
def aF:TE:=fun _ H Q=>∀p,H p=none->Q (.ref p) (upd H p (.dK []))
section
variable{X:Cx} {pos:Pos}
theorem FU:PE X (.Dict [] [] pos) aF:=fun pins s b H Q I h=>
 wpAny_Dict_empty ⟨.ref s.heap.objs.size,_,I.laid (a:=s.heap.objs.size) (o:=.dK []) (t':=s.toks) (fun _ _ q=>Heap.get?_push_of_some _ q) (Nat.le_refl _) (Nc s.heap I.big),rfl,h _ (I.BV.fresh (Nat.le_refl _))⟩
end
def PF:List (TE×TE)->St->Hp->(List (V×V)->Hp->Prop)->Prop
 |[],_,H,Q=>Q [] H
 |(tk,a)::r,σ,H,Q=>tk σ H fun x b=>a σ b fun y c=>PF r σ c fun ps d=>Q ((x,y)::ps) d
abbrev VV:List (V×V)->List (Value×Value)->Prop:=Paired fun p q=>RelV p.1 q.1/\RelV p.2 q.2
def iD (X:Cx) (pos:Pos) (keys:List (Option Expr)) (values:List Expr) (a:List (TE×TE)):Prop:=
 ∀(pins:List (Addr×Obj)) (s:Shared) (b:St) (H:Hp) (Q:List (V×V)->Hp->Prop),Inv X pins b H s->PF a b H Q->
  wpAny (model X.prog X.w) X.A (evalPairs (pairTrees keys values X.env pos)) (fun e f=>∃c d,Inv X pins b d f/\VV c e/\Q c d) X.xe s
theorem Wr {X:Cx} {pos:Pos}:iD X pos [] [] []:=fun pins s a H Q I h=>pairTrees_nil_walk ⟨[],H,I,.nil,h⟩
theorem Tg {X:Cx} {pos:Pos} {k v:Expr} {ks:List (Option Expr)} {d:List Expr} {tk e:TE} {a:List (TE×TE)} (f:PE X k tk) (g:PE X v e) (i:iD X pos ks d a):
  iD X pos (some k::ks) (v::d) ((tk,e)::a):=fun pins s b H Q I h=>
 pairTrees_cons_walk (Bl (f pins s b H _ I h) fun u j l=>l.elim fun x m n o p=>Bl (g pins j b m _ n p) fun E q ⟨y,r,t,w,z⟩=>
  Bl (i pins q b r _ t z) fun F G ⟨A,B,C,c,D⟩=>⟨(x,y)::A,B,C,.cons ⟨o,w⟩ c,D⟩)
def DF (kvs more:List (Key×V)):List (Key×V):=more.foldl (fun a b=>putK a b.1 b.2) kvs
theorem KV.merge:∀{more:List (Key×V)} {b:List (Key×Value)} {kvs:List (Key×V)} {a:List (Key×Value)},KV more b->KV kvs a->KV (DF kvs more) (merged a b):=by
 intro more b kvs a r
 unfold KV at r
 induction r generalizing kvs a with
 |nil=>intro q;exact q
 |@cons p q f g h t c=>
  intro d
  have e:KV (putK kvs p.1 p.2) (stored a q.1 q.2):=by
   have:=d.put p.1 h.2
   rw[<-h.1];exact this
  exact c e
theorem EN:∀(more kvs:List (Key×V)),(DF kvs more).length<=kvs.length+more.length
 |[],kvs=>by show kvs.length<=kvs.length+0;lia
 |p::r,kvs=>by
  have a:=EN r (putK kvs p.1 p.2)
  have b:=FR kvs p.1 p.2
  show(DF (putK kvs p.1 p.2) r).length<=_
  rw[List.length_cons];lia
theorem Jf {P:Program} {w:World}:∀{kvs:List (Key×V)} {ws:List (Value×Value)},VV (kvs.map fun e=>(kV e.1,e.2)) ws->∃d,Carries (A' P w) ws d/\KV kvs d
 |[],_,r=>by rw[List.map_nil]at r;cases r;exact⟨[],True.intro,.nil⟩
 |p::kvs,_,r=>by
  rw[List.map_cons]at r
  cases r with
  |@cons a b g bs h t=>
   obtain⟨d,c,q⟩:=Jf (P:=P) (w:=w) t
   obtain⟨i,f⟩:=b
   exact⟨(p.1,f)::d,⟨Gq h.1,rfl,c⟩,.cons ⟨rfl,h.2⟩ q⟩
def eF (a:List (TE×TE)):TE:=fun d H Q=>∀p,H p=none->PF a d (upd H p (.dK [])) fun e b=>b p=some (.dK [])/\∃kvs:List (Key×V),e=kvs.map (fun c=>(kV c.1,c.2))/\kvs.length<=15/\Q (.ref p) (upd b p (.dK (DF [] kvs)))
theorem Ws {X:Cx} {pos:Pos} {keys:List (Option Expr)} {values:List Expr} {b:List (TE×TE)} (h:iD X pos keys values b) (d:keys.all (·.isSome)=true) (k:keys.length=values.length) (l:keys≠[])
  (g:keys.length<=15):PE X (.Dict keys values pos) (eF b):=by
 intro pins s m H Q I q
 have n:=I.BV.fresh (Nat.le_refl s.heap.objs.size)
 have p:=I.laid (a:=s.heap.objs.size) (o:=.dK []) (h':=s.heap.push {cls:=.type "dict",data:=.dict #[]}) (t':=s.toks) (fun _ _ q=>Heap.get?_push_of_some _ q) (Nat.le_refl _) (Nc s.heap I.big)
 refine wpAny_Dict_walk (knd:=A' X.prog X.w) d k l g (Bl (h pins _ m _ _ p (q _ n)) fun J K ⟨L,M,j,i,e,kvs,r,lk,t⟩=>?_)
 subst r
 obtain⟨u,c,v⟩:=Jf (P:=X.prog) (w:=X.w) i
 obtain⟨z,x,y,A,B⟩:=Tf j.BV e
 cases A
 refine⟨u,c,B,fun h' f C=>⟨.ref s.heap.objs.size,_,?_,rfl,t⟩⟩
 have D:(DF [] kvs).length<=sizeLine:=by
  have E:=EN kvs []
  rw[List.length_nil]at E
  rw[sizeLine_eq];lia
 have F:∃q,h'.get? s.heap.objs.size=some q:=let⟨q,_,_,G,_⟩:=f;⟨q,G⟩
 exact JF j (by rw[e];exact True.intro) C F (MI D x (v.merge .nil) f)
structure M1 (X:Cx) (o:Expr) (m:Str) (apos:Pos) (e:Expr) (ED:Pos):Prop where
 base:attributeBase o m X.env (eval o X.env)=eval o X.env
 iE:((backTo ED (starEach [e] X.env)).all (fun x=> !x.1)&&(backToKw ED (keywordEach [] X.env)).all (fun x=>x.1.isSome)
  &&decide (([e]:List Expr).length+([]:List Keyword).length+(if([]:List Keyword).isEmpty then 0 else 1)<30))=true
 line:(apos.endLine==ED.line)=true
 trees:backTo ED (starEach [e] X.env)=[(false,eval e X.env)]
structure M2 (X:Cx) (o:Expr) (m:Str) (apos:Pos) (e f:Expr) (ED:Pos):Prop where
 base:attributeBase o m X.env (eval o X.env)=eval o X.env
 iE:((backTo ED (starEach [e,f] X.env)).all (fun x=> !x.1)&&(backToKw ED (keywordEach [] X.env)).all (fun x=>x.1.isSome)
  &&decide (([e,f]:List Expr).length+([]:List Keyword).length+(if([]:List Keyword).isEmpty then 0 else 1)<30))=true
 line:(apos.endLine==ED.line)=true
 trees:backTo ED (starEach [e,f] X.env)=[(false,eval e X.env),(false,eval f X.env)]
def ja (H:Hp) (a:Addr):Prop:=(∃kvs,Rd H a (.dK kvs))∨∃kvs,Rd H a (.dT kvs)
theorem Th {X:Cx} {pins:List (Addr×Obj)} {σ:St} {H:Hp} {s:Shared} {a:Addr} (I:Inv X pins σ H s) (d:ja H a):
  s.TypeIs (.ref a) "dict"/\(∀b,Value.ref a=.ref b->∃c,s.heap.get? b=some c/\c.dict=none)/\(a==sysModules)=false:=by
 rcases d with⟨kvs,e⟩|⟨kvs,e⟩
 ·obtain⟨_,g,j,_,f⟩:=FT I.BV e
  refine⟨f.typeIs,fun b q=>?_,g⟩
  cases q
  obtain⟨c,_,_,h,i,_⟩:=f
  exact⟨c,h,i.2.1⟩
 ·obtain⟨_,g,k,_,f⟩:=Je I.BV e
  refine⟨f.typeIs,fun b q=>?_,g⟩
  cases q
  obtain⟨c,_,_,h,i,_⟩:=f
  exact⟨c,h,i.2.1⟩
section
variable{X:Cx} {pins:List (Addr×Obj)} {σ:St} {H:Hp} {s:Shared} {a:Addr} {y d:V} {u r:Value} {o:Option V} {A:Around} {E:Value->Shared->Prop}
theorem aG {Q:Value->Shared->Prop} (t:A.units+1<cLine) (I:Inv X pins σ H s) (g:Gr H a y o) (m:RelV y u) (n:RelV d r) (h:∀p q,Inv X pins σ H q->RelV (o.getD d) p->Q p q):
  wpAny (model X.prog X.w) A (call (.builtin "dict.get") [.ref a,u,r]) Q E s:=by
 rcases g with⟨kvs,k,e,i,l⟩|⟨kvs,k,b,e,i,v,l⟩
 ·subst i
  obtain⟨z,j,B,c,f⟩:=FT I.BV e
  refine call_meetsIn PySem.F.slot_dict_get f.typeIs PySem.F.entry_dict_get (PySem.F.args_dict_get_3 _ _ _) (meets_dict_get_default (A' X.prog X.w) a (Gq m) j r) ⟨_,f.mapOf,h _ _ (I.tok _) ?_⟩
  rw[l]
  exact(c.val k).getD n
 ·subst i
  cases(show u=Value.ref b from m)
  obtain⟨z,j,x,c,f⟩:=Je I.BV e
  refine call_meetsIn PySem.F.slot_dict_get f.typeIs PySem.F.entry_dict_get (PySem.F.args_dict_get_3 _ _ _) (meetsH_dict_get_default (tupleKind (A' X.prog X.w)) a b j r) ⟨tupleKind_room_in1 t,k,x,Ho I.BV v,f,h _ _ (I.tok _) ?_⟩
  rw[l]
  exact(c.val k).getD n
end
def aH (e ty f:TE):TE:=fun b H Q=>e b H fun x c=>∃a,x=.ref a/\ja c a/\ty b c fun y g=>f b g fun z d=>∃o,Gr d a y o/\Q (o.getD z) d
def aI (e ty:TE):TE:=fun b H Q=>e b H fun x c=>∃a,x=.ref a/\ja c a/\ty b c fun y d=>∃kvs k v,d a=some (.dK kvs)/\y=kV k/\BX kvs k=some v/\Q v (upd d a (.dK (Ec kvs k)))
section
variable{X:Cx} {o e f:Expr} {apos ED:Pos} {td ty tx:TE}
theorem Nf (j:X.A.units+1<cLine) (k:PE X o td) (l:PE X e ty) (n:PE X f tx) (m:M2 X o "get" apos e f ED):PE X (.Call (.Attribute o "get" apos) [e,f] [] ED) (aH td ty tx):=by
 intro pins s b H Q I h
 refine wpAny_Call_method m.base m.iE m.line PySem.F.plainAttrs_dict PySem.F.slot_dict_get PySem.F.type_dict_get (Bl (k pins s b H _ I h) fun u p ⟨x,q,i,r,a,t,d,v⟩=>?_)
 subst t
 obtain rfl:u=Value.ref a:=r
 obtain⟨w,B,_⟩:=Th i d
 refine⟨w,B,?_⟩
 rw[m.trees]
 refine Calls.callWith_builtin rfl (Calls.evalArgs_plain (Calls.spliced_cons (Bl (l pins p b q _ i v) fun P C ⟨y,D,E,G,J⟩=>
  Calls.spliced_cons (Bl (n pins C b D _ E J) fun R S ⟨z,K,L,M,ov,g,N⟩=>Calls.spliced_nil ?_))))
 exact aG j L g G M fun T U O c=>⟨_,K,O,c,N⟩
theorem Ti (i:PE X o td) (j:PE X e ty) (m:M1 X o "pop" apos e ED):PE X (.Call (.Attribute o "pop" apos) [e] [] ED) (aI td ty):=by
 intro pins s c H Q I h
 refine wpAny_Call_method m.base m.iE m.line PySem.F.plainAttrs_dict PySem.F.slot_dict_pop PySem.F.type_dict_pop (Bl (i pins s c H _ I h) fun u n ⟨x,p,g,q,a,r,d,t⟩=>?_)
 subst r
 obtain rfl:u=Value.ref a:=q
 obtain⟨w,z,_⟩:=Th g d
 refine⟨w,z,?_⟩
 rw[m.trees]
 refine Calls.callWith_builtin rfl (Calls.evalArgs_plain (Calls.spliced_cons (Bl (j pins n c p _ g t) fun J K ⟨y,L,A,B,kvs,k,v,C,D,l,E⟩=>Calls.spliced_nil ?_)))
 subst D
 exact eA A C B l (.inl rfl) fun M N G b=>⟨v,_,G,b,E⟩
end
section
variable{X:Cx} {pins:List (Addr×Obj)} {σ:St} {H:Hp} {s:Shared} {a:Addr} {kvs:List (Key×V)} {A:Around} {E:Value->Shared->Prop}
end
section
variable{X:Cx} {pins:List (Addr×Obj)} {σ:St} {H:Hp} {s:Shared} {a:Addr} {y:V} {u:Value} {A:Around} {E:Value->Shared->Prop}
end
end L2
namespace sZ
open PySem PySem.W PySem.Calls PyProof.Rows
theorem Iv {P:Params} {h:Heap}:∀(c:List Int) (d:List Value),WellAll P h d (c.map WData.int)->IntsAre d c:=by
 intro c
 induction c with
 |nil=>
  intro d w
  rw[List.map_nil]at w
  cases w
  exact .nil
 |cons n c e=>
  intro d w
  rw[List.map_cons]at w
  cases w with
  |cons a b=>
   cases a
   exact .cons _ _ (e _ b)
theorem RS {l:OpenLaw} {n:Nat} (o:l.most=some n) {P:Params} {h:Heap} {args:List WData} {vals:List Value}
  (c:l.row.toRowW.claim.pre args=true) (i:WellAll P h vals args):
  ∃a k b,vals=[Value.ref a]/\args=[WData.list (b.map WData.int)]/\h.get? a=some {cls:=.type "list",data:=.seq k.toArray}/\IntsAre k b/\b.length<=n:=by
 have j:WShape.hasAll [] args [.list .int]=true:=(pre_splitW c).1
 have m:l.pre.holds [] {args:=args}=true:=(pre_splitW c).2
 obtain⟨d,r,rfl,p,s⟩:=hasAllW_cons j
 obtain rfl:=hasAllW_nil s
 obtain⟨y,rfl,t⟩:=hasW_list p
 obtain⟨b,rfl⟩:=items_int t
 have hlen:b.length<=n:=by
  unfold OpenLaw.pre at m
  have f:(WTm.not (.lt (.lit (.int (n:Int))) (.len (.arg 0)))).holds [] {args:=[.list (b.map .int)]}=true:=by
   have f:=(holds_andW m).1
   rw[o]at f
   exact f
  have g:=condW_of f (w_not (w_lt w_lit (w_len_list (w_arg rfl))))
  rw[List.length_map]at g
  refine Nat.le_of_not_lt fun q=>?_
  have u:(n:Int)<((b.length:Nat):Int):=by lia
  first
   |(rw[decide_eq_true u]at g;exact absurd g (by decide))
   |(simp at g;lia)
 cases i with
 |cons v w=>
  cases w
  cases v with
  |list x e=>exact⟨_,_,b,rfl,rfl,x,Iv b _ e,hlen⟩
theorem RT (l:OpenLaw) (args:List WData):l.row.toRowW.claim.post args (.bool true) args=true:=
 postW_of (r:=l.row.toRowW) (X:=(true==true))
  (show WShape.has [] (.bool true) .bool=true by first|rfl|decide|simp[WShape.has,WShape.arms,WShape.armsAll])
  (show(WTm.eq .res (.lit (.bool true))).value [] {args:=args,res:=some (.bool true),after:=args}=some (.bool (true==true))from w_eq_bool (w_res rfl) w_lit) rfl
theorem Ng {l:OpenLaw} {n:Nat} {q:Program} {loose:List Str} {x:(Str->Option Value)->Heap->Prop} {YP:World->Heap->Prop} {d:DefRec}
  (A:l.most=some n) (m:d.params.defaults=[])
  (call:∀(w:World) (s₀ b:Shared) (mg p:Str->Option Value) (e:Addr) (o:Obj) (s i doc:Value) (a:Addr) (c:List Value) (j:List Int),
   Ground q loose [] x w s₀ mg p b.heap->YP w b.heap->
   b.heap.get? e=some o->o.data=.func (docDef d.name d.params d.body d.scope s i doc)->b.heap.CodeRec i d.name->mg d.name=some (.ref e)->
   b.heap.get? a=some {cls:=.type "list",data:=.seq c.toArray}->IntsAre c j->j.length<=n->b.gens= #[]->
   codeAny (model l.prog w) callerA (.call (.ref e) ⟨[.ref a],[]⟩) (fun r k=>r=.ok (.ret (.bool true))/\OldK b.heap k.heap/\k.os=b.os/\AllBare k.gens) b):
  WalkO q loose x YP l.row.toRowW d [] (fun f c=>PySem.call f c):=by
 intro w s₀ b mg p G Y e o s i doc B kV C D t y u E args vals N g z F v H
 obtain rfl:B=.none:=Dflts.none y m
 obtain rfl:kV=.none:=Dflts.noKw y
 obtain⟨a,c,j,rfl,rfl,h,hints,hlen⟩:=RS A g v
 refine enter_call (codeAny_mono (call w s₀ b mg p e o s i doc a c j G Y C (fd_plain D) t u h hints hlen E) fun r k I=>?_)
 obtain⟨rfl,J,K,L⟩:=I
 exact⟨.inl ⟨.bool true,.bool true,[],rfl,fun _=>rfl,.bool true,RT l _,fun _=>⟨List.Pairwise.nil,fun _ M=>(nomatch M)⟩⟩,J,K,L⟩
section
variable{prog:Program} {w:World} {A:Around} {E:Value->Shared->Prop} {s:Shared} {K:Frag}
end
end sZ
namespace L2
open PySem PySem.Spec PyProof.Rows
theorem RU {a:List Value} {b:List Int} (h:IntsAre a b):Vals (b.map V.int) a:=by
 induction h with
 |nil=>exact .nil
 |cons n t _ c=>exact .cons ⟨t,rfl⟩ c
def aJ (H:Hp):Prop:=∀b,H b=none∨∃o a,H b=some (.CK o (.lst a))
theorem Tj {P:Program} {w:World} {K:AAE} {mg M:Str->Option Value} {CX:NV} {k:Nat} {N a:Addr} {X:FuncData} {x:Str} {sp:Sp} {c:Shared} {l:List Value} {t:List Int}
  (Y:K.In c.heap) (y:c.heap.Ns mainGlobals mg) (g:c.heap.Ns builtinsNs M) (O:∀x:Str,x≠"__name__"->M x=bootBuiltins x) (A:c.heap.NoLimit) (hg:c.gens= #[])
  (L:c.heap.get? a=some {cls:=.type "list",data:=.seq l.toArray}) (Z:IntsAre l t) (hl:t.length<=sizeLine) (hr:Am k callerA)
  (F:∀base:Heap,K.In base->base.Ns mainGlobals mg->Bb P w K mg base CX k N X [x] sp) (p:∀(s:Shared) (u:Value),BindsTo s X ⟨[u],[]⟩ [(x,u)])
  (Q:∀H:Hp,aJ H->A_ K H a (t.map V.int)->sp [.ref a] H (fun v _=>v=.bl true) fun _ _ _=>False)
  (R:∀H e i,CX [] H c (fun _ _ _=>False) e i->False):
  codeAny (model P w) callerA (.call (.ref N) ⟨[.ref a],[]⟩) (fun r i=>r=.ok (.ret (.bool true))/\OldK c.heap i.heap/\i.os=c.os/\AllBare i.gens) c:=by
 have rv:=RU Z
 have B:=Z.length
 have core:∀H:Hp,aJ H->A_ K H a (t.map V.int)->F' P w H c.heap->(∀b,H b≠none->b=a)->(H a≠none->K.lookup a=none)->
   codeAny (model P w) callerA (.call (.ref N) ⟨[.ref a],[]⟩) (fun r i=>r=.ok (.ret (.bool true))/\OldK c.heap i.heap/\i.os=c.os/\AllBare i.gens) c:=by
  intro H hO hS C hA hK
  have f:∀{b:Addr} {o:Obj},c.heap.get? b=some o->H b=none->(Lx c.heap H).get? b=some o:=fun e n=>TF e n
  have S:∀{b:Addr} {o:Obj} {D:Array DictEntry} {E:Nat},c.heap.get? b=some o->o.data=.dict D E->H b=none:=fun{b o D E} e d=>by
   cases q:H b with
   |none=>rfl
   |some u=>
    have T:b=a:=hA b (by rw[q];simp)
    subst T
    rw[L]at e;cases e
    have d':Data.seq l.toArray _=Data.dict D E:=d
    cases d'
  have j:∀{b:Addr} {m:Str->Option Value},c.heap.Ns b m->(Lx c.heap H).Ns b m:=fun{b m} ⟨o,D,E,e,d,r⟩=>⟨o,D,E,f e (S e d),d,r⟩
  have G:K.In (Lx c.heap H):=fun b o e=>f (Y b o e) (by
   cases q:H b with
   |none=>rfl
   |some u=>
    have T:b=a:=hA b (by rw[q];simp)
    subst T
    rw[hK (by rw[q];simp)]at e;cases e)
  have hM:Mod K mg (Lx c.heap H):=⟨G,j y,⟨M,j g,O⟩,let⟨mc,h1,h2⟩:=A;⟨mc,j h1,h2⟩⟩
  have e0:TQ P w K mg (Lx c.heap H) callerA [] c H:=⟨rfl,hM,fun b o e=>WS e,Nat.le_of_eq (RD _ _),trivial,fun b g=>absurd (show b∈([]:List Addr)from g) (by simp),C,.of_eq hg⟩
  refine codeAny_mono ((F _ G (j y)).run callerA [] c H ⟨[.ref a],[]⟩ [.ref a] [.ref a] _ _ hr e0 (p c (.ref a)) (.cons rfl .nil) (Q H hO hS)) fun r i h=>?_
  cases r with
  |error e=>exact(R H e i h).elim
  |ok fl=>
   cases fl with
   |next=>exact False.elim h
   |brk=>exact False.elim h
   |cont=>exact False.elim h
   |ret u=>
    obtain⟨v,H',os,bare,un,I,r',q⟩:=h
    have q':v=.bl true:=q
    subst q'
    obtain rfl:u=Value.bool true:=r'
    refine⟨rfl,OldK.of_keep fun b o e=>?_,os,bare⟩
    cases q:H b with
    |none=>exact un.keep b o e q (by intro z;exact absurd (show b∈([]:List Addr)from z) (by simp)) (by simp)
    |some u=>
     rcases hO b with z|⟨ob,xs,z⟩
     ·rw[q]at z;cases z
     ·have z2:=un.JU b ob _ z
      obtain⟨e1,_⟩:=C b _ z
      obtain⟨e2,_⟩:=I b _ z2
      rw[e]at e1;cases e1
      exact e2
 cases U:K.lookup a with
 |some o=>
  have e:=Y a o U
  rw[L]at e
  cases e
  refine core (fun _=>none) (fun _=>.inl rfl) (.inr ⟨_,l.toArray,_,U,rfl,rfl,rfl,by rw[List.size_toArray,B];exact hl,by simpa using rv⟩) (fun b u z=>by have J:(none:Option HO)=some u:=z;cases J) (fun b z=>absurd rfl z) fun z=>absurd rfl z
 |none=>
  refine core (fun b=>if b=a then some (.CK {cls:=.type "list",data:=.seq l.toArray} (.lst (t.map V.int)))else none) (fun b=>?_) (.inl (.inr ⟨{cls:=.type "list",data:=.seq l.toArray},if_pos rfl⟩)) (fun b u z=>?_) (fun b z=>?_) fun _=>U
  ·by_cases g:b=a
   ·exact .inr ⟨_,_,if_pos g⟩
   ·exact .inl (if_neg g)
  ·by_cases g:b=a
   ·have J:=(if_pos g).symm.trans z
    cases J
    subst g
    exact⟨L,by rw[List.length_map];exact hl,l,_,rv,L⟩
   ·have J:=(if_neg g).symm.trans z
    cases J
  ·by_cases g:b=a
   ·exact g
   ·exact absurd (if_neg g) z
theorem Wt {l:PySem.W.OpenLaw} {n k:Nat} {q:Program} {loose:List Str} {I:(Str->Option Value)->Heap->Prop} {YP:World->Heap->Prop} {d:DefRec} {K:Params->AAE} {CX:World->NV} {sp:World->Sp} {x:Str}
  (J:l.most=some n) (p:n<=sizeLine) (r:d.params.defaults=[]) (L:Am k callerA)
  (M:∀(w:World) (h:Heap),YP w h->(K w.params).In h)
  (F:∀(w:World) (mg:Str->Option Value) (j:Addr) (h:Heap),(K w.params).In h->h.Ns mainGlobals mg->mg d.name=some (.ref j)->
   ∃t:FuncData,(∀(s:Shared) (u:Value),BindsTo s t ⟨[u],[]⟩ [(x,u)])/\
    ∀base:Heap,(K w.params).In base->base.Ns mainGlobals mg->Bb l.prog w (K w.params) mg base (CX w) k j t [x] (sp w))
  (y:∀(w:World) (H:Hp) (a:Addr) (m:List Int),m.length<=n->aJ H->A_ (K w.params) H a (m.map V.int)->sp w [.ref a] H (fun v _=>v=.bl true) fun _ _ _=>False)
  (z:∀(w:World) (H:Hp) (s:Shared) (e:Value) (A:Shared),CX w [] H s (fun _ _ _=>False) e A->False):
  PySem.W.WalkO q loose I YP l.row.toRowW d [] (fun f C=>PySem.call f C):=by
 refine sZ.Ng J r fun w D c mg U j o X Z doc a C m G Y ho hd N B i hints hlen O=>?_
 have E:=M w _ Y
 obtain⟨t,P,Q⟩:=F w mg j _ E G.T.g B
 exact Tj E G.T.g G.T.b G.T.builtins G.T.nolimit O i hints (Nat.le_trans hlen p) L Q P (fun H R S=>y w H a m hlen R S) fun H e A=>z w H c e A
def Al (s:Stmt):Arguments:=match s with
 | .FunctionDef _ a _ _ _ _ _ _ _ _=>a
 |_=>{posonlyargs:=[],args:=[],vararg:=none,kwonlyargs:=[],kw_defaults:=[],kwarg:=none,defaults:=[]}
def Ai (s:Stmt):List Stmt:=match s with
 | .FunctionDef _ _ b _ _ _ _ _ _ _=>b
 |_=>[]
def AK (s:Stmt):Scope:=match s with
 | .FunctionDef _ _ _ _ _ _ a _ _ _=>a
 |_=>{kind:=.function,names:=[],isGenerator:=false,isCoroutine:=false}
abbrev Dk:NV:=fun _ _ _ _ _ _=>False
abbrev E0:XK:=fun _ _ _=>False
theorem AV {X:Cx}:Passes Dk X E0:=fun _ _ _ _ _ _ _ h=>h.elim
structure EH (K:AAE) (x qual:Str) (st:Stmt) (f:Addr) (fd:FuncData):Prop where
 ex:∃(oc:Value) (od:Option Addr) (kV doc pm:Value) (an:Option Addr) (Jg ct:Value) (vE:Array (Option Value)),
  fd=PySem.W.fnOf x qual (Al st) (Ai st) (AK st) .none kV doc pm an Jg ct/\K.lookup f=some ⟨oc,od,.func fd,vE⟩/\PySem.W.codeIn K Jg qual=true
 kp:PySem.W.keepIn K (.ref f)=true
section
variable{P:Program} {w:World} {K:AAE} {mg:Str->Option Value} {base:Heap}
theorem EH.ok {x qual:Str} {st:Stmt} {f:Addr} {g:FuncData} {N ps:List Str} {k:Nat} {sp:Sp} (F:EH K x qual st f g) (S:An N ps (AK st)) (len:∀b H Q E,sp b H Q E->b.length=ps.length)
  (c:∀(a:Value) (A:Around) (outer:List Env) (s:Shared) (H:Hp) (b:List V) (Q:VK) (E:XK),Am k (A.deeper (envOfC qual (AK st) s.heap.objs.size f a))->sp b H Q E->
   ∃t,QN (RM Dk P w K mg base N qual (AK st) f a A outer s H E).hY (Ai st) t/\t {nx:=fun _ i=>Q .BL i,rt:=Q} (start N b) H):Bb P w K mg base Dk (k+1) f g ps sp:=by
 obtain⟨m,n,kV,doc,o,p,a,r,j,rfl,lk,d⟩:=F.ex
 refine dg lk d S len fun A outer s H b Q E l e=>?_
 obtain⟨t,h,q⟩:=c a A outer s H b Q E l e
 exact⟨t,h.hY,q⟩
theorem EH.binds {x qual:Str} {st:Stmt} {f:Addr} {e:FuncData} {ps:List Str} (F:EH K x qual st f e)
  (h:∀(kV doc b:Value) (c:Option Addr) (a ct:Value) (d:List Value),d.length=ps.length->bindArgs (PySem.W.fnOf x qual (Al st) (Ai st) (AK st) .none kV doc b c a ct) ⟨d,[]⟩=pure (ps.zip d)):Binds K e ps []:=by
 obtain⟨j,k,kV,doc,b,c,a,ct,g,rfl,lk,i⟩:=F.ex
 exact .all (h kV doc b c a ct)
theorem BG {x qual:Str} {st:Stmt} {f:Addr} {g:Value} {h d:Option Addr} {b:Array (Option Value)} {kV doc e a ct:Value} (l:K.lookup f=some ⟨g,h,.func (PySem.W.fnOf x qual (Al st) (Ai st) (AK st) .none kV doc e d a ct),b⟩)
  (c:PySem.W.codeIn K a qual=true) (k:PySem.W.keepIn K (.ref f)=true):EH K x qual st f (PySem.W.fnOf x qual (Al st) (Ai st) (AK st) .none kV doc e d a ct):=⟨⟨g,h,kV,doc,e,d,a,ct,b,rfl,l,c⟩,k⟩
end
theorem Be {A:Around} {k:Nat} (a:Am k A):A.units+1<cLine:=Nat.lt_of_le_of_lt (Nat.add_le_add_left (by decide:1<=64) _) a.units
theorem Ar {n:Nat} (h:n<=1000):n<sizeLine:=Nat.lt_of_le_of_lt h (by decide)
section
variable{X:Cx}
theorem pv (i:Nat) {x:Str} {pos:Pos} (b:X.N[i]?=some x:=by rfl) (c:iy X.env.scope x:=by first|exact Or.inl rfl|exact Or.inr (Or.inl rfl)|exact Or.inr (Or.inr rfl)) (d:(x==("__debug__":Str))=false:=by decide)
  (a:(x==("__classdict__":Str))=false:=by decide):PE X (.Name x pos) (JW i):=Zh b c d a
inductive MJ (xs:List V) (H:Hp) (Q:VK):Prop
 |mk (a:_) (kvs:_) (b:xs=[V.ref a]) (c:H a=some (.dK kvs)) (d:Q (.int kvs.length) H):MJ xs H Q
end
theorem Au {A B:Prop} (h:B):if false=true then A else B:=by
 rw[if_neg Bool.false_ne_true]
 exact h
theorem BO {A B:Prop} (h:A):if true=true then A else B:=by
 rw[if_pos rfl]
 exact h
theorem CG {c A B:Prop} [Decidable c] (a:c->A) (b:¬c->B):if c then A else B:=by
 by_cases h:c
 ·rw[if_pos h]
  exact a h
 ·rw[if_neg h]
  exact b h
def AG (H H':Hp):Prop:=∀b o,H b=some o->H' b=some o
theorem AG.refl (H:Hp):AG H H:=fun _ _ h=>h
theorem AG.trans {H d e:Hp} (a:AG H d) (b:AG d e):AG H e:=fun c o h=>b c o (a c o h)
theorem AG.free {H H':Hp} (e:AG H H') {l:Addr} (h:H' l=Option.none):H l=Option.none:=by
 cases q:H l with
 |none=>rfl
 |some o=>
  rw[e l o q]at h
  cases h
theorem AG.seq {K:AAE} {H H':Hp} {a:Addr} {xs:List V} (e:AG H H') (h:A_ K H a xs):A_ K H' a xs:=by
 rcases h with(h|⟨o,h⟩)|h
 ·exact .inl (.inl (e _ _ h))
 ·exact .inl (.inr ⟨o,e _ _ h⟩)
 ·exact .inr h
section
variable{κ:Type} [DecidableEq κ]
theorem Tn {kvs:List (κ×V)} {k:κ} (h:BX kvs k=none):¬k∈kvs.map (·.1):=by
 intro m
 obtain⟨p,a,e⟩:=List.mem_map.mp m
 have q:(kvs.any fun b=>decide (b.1=k))=true:=List.any_eq_true.mpr ⟨p,a,decide_eq_true e⟩
 rw[DU,h]at q
 exact absurd q (by simp)
theorem Wu {kvs:List (κ×V)} {k:κ} {v:V} (h:BX kvs k=some v):k∈kvs.map (·.1):=by
 have q:(kvs.any fun a=>decide (a.1=k))=true:=by
  rw[DU,h]
  all_goals rfl
 obtain⟨p,b,e⟩:=List.any_eq_true.mp q
 exact List.mem_map.mpr ⟨p,b,of_decide_eq_true e⟩
theorem MK:∀{l:List κ} {k:κ},l.Nodup->¬k∈l->(l++[k]).Nodup
 |[],k,_,_=>by simp
 |a::r,k,h,b=>by
  obtain⟨c,d⟩:=List.nodup_cons.mp h
  show(a::(r++[k])).Nodup
  refine List.nodup_cons.mpr ⟨fun m=>?_,MK d fun m=>b (List.mem_cons.mpr (Or.inr m))⟩
  rcases List.mem_append.mp m with q|q
  ·exact c q
  ·exact b (List.mem_cons.mpr (Or.inl (List.mem_singleton.mp q).symm))
theorem RV {p:κ×V} {r:List (κ×V)} {k:κ} (e:p.1=k):Ec (p::r) k=Ec r k:=by
 unfold Ec
 rw[List.filter_cons,if_neg (by simp[e])]
theorem LF {p:κ×V} {r:List (κ×V)} {k:κ} (e:¬p.1=k):Ec (p::r) k=p::Ec r k:=by
 unfold Ec
 rw[List.filter_cons,if_pos (by simp[e])]
theorem Nh:∀{kvs:List (κ×V)} {k:κ},¬k∈kvs.map (·.1)->Ec kvs k=kvs
 |[],_,_=>rfl
 |p::r,k,h=>by
  have h':¬k∈r.map (·.1):=fun m=>by
   obtain⟨q,a,e⟩:=List.mem_map.mp m
   exact h (List.mem_map.mpr ⟨q,List.mem_cons.mpr (Or.inr a),e⟩)
  rw[LF fun e=>h (List.mem_map.mpr ⟨p,List.mem_cons.mpr (Or.inl rfl),e⟩),Nh h']
end
theorem Jh {prog:Program} {w:World} {A:Around} {R:Result->Shared->Prop} {a f iter:Expr} {d:List Expr} {scope:Scope} {pos:Pos} {it b:Value} {env:Env} (e:Nat->Shared->Prop)
  (step:∀n s,e n s->wpAny (model prog w) A (pyNext it) (fun r o=>match r with
   |none=>R (.ok .next) o
   |some v=>wpAny (model prog w) A (letOwnedTupleGo f it v) (fun _ p=>wpAny (model prog w) A (assign f env v) (fun _ u=>
     wpAny (model prog w) A (forIn d true fun c r=>if r=true then do let ok<-isTrue c env (eval c env);pure (ForInStep.yield ok)else pure (ForInStep.yield r)) (fun ok g=>
      if ok=true then wpAny (model prog w) A (eval a env) (fun y i=>wpAny (model prog w) A (call (.builtin "list.append") [b,y]) (fun _ j=>∃m,m<n/\e m j) (fun _ _=>False) i) (fun _ _=>False) g
      else∃m,m<n/\e m g) (fun _ _=>False) u) (fun _ _=>False) p) (fun _ _=>False) o) (fun _ _=>False) s)
  (n:Nat) {s:Shared} (h:e n s):codeAny (model prog w) A (.compLoop (.ListComp a [⟨f,iter,d,0⟩] scope pos) 0 it b env) R s:=by
 have up:∀{B:Type} {t:Sem B} {Q:B->Shared->Prop} {E:Value->Shared->Prop} {s:Shared},wpAny (model prog w) A t Q (fun _ _=>False) s->wpAny (model prog w) A t Q E s:=
  fun h=>wpAny_mono h (fun _ _ q=>q) fun _ _ z=>z.elim
 refine codeAny_loop rfl e (fun k s D=>?_) n h
 show wpAny _ A ((compTurn (.ListComp a [⟨f,iter,d,0⟩] scope pos) 0 it b env).onRaise (fun x=>do noteFrame x env;theTreesLotGoes x)) _ _ s
 refine wpAny_noted ?_
 rw[compTurn_list]
 refine wpAny_bind (wpAny_standAt (wpAny_bind (wpAny_mono (up (step k s D)) (fun r o C=>?_) fun _ _ z=>z)))
 cases r with
 |none=>exact wpAny_pure C
 |some v=>
  refine wpAny_bind (wpAny_mono (up C) (fun _ p F=>?_) fun _ _ z=>z)
  refine wpAny_bind (wpAny_mono (up F) (fun _ u G=>?_) fun _ _ z=>z)
  refine wpAny_bind (wpAny_mono (up G) (fun ok g l=>?_) fun _ _ z=>z)
  cases ok with
  |false=>exact wpAny_pure ⟨rfl,l⟩
  |true=>
   have l:wpAny (model prog w) A (eval a env) (fun y i=>wpAny (model prog w) A (call (.builtin "list.append") [b,y]) (fun _ j=>∃m,m<k/\e m j) (fun _ _=>False) i) (fun _ _=>False) g:=l
   exact wpAny_bind (wpAny_bind (wpAny_mono (up l) (fun y i H=>wpAny_bind (wpAny_mono (up H) (fun _ j I=>wpAny_pure (wpAny_pure ⟨rfl,I⟩)) fun _ _ z=>z)) fun _ _ z=>z))
def Dj (cells:List (Str×Addr)):List (Str×NameKind)->List (Str×Addr)->List (Str×Addr)
 |[],a=>a
 |(n,k)::r,a=>if k==.free then Dj cells r ((n,(cells.lookup n).getD 0)::a)else Dj cells r a
theorem Dm {cells:List (Str×Addr)} {x:Str} {c:Addr}:∀(names:List (Str×NameKind)) (a:List (Str×Addr)),(∀p∈names,p.2=.free->∃c,cells.lookup p.1=some c)->
  (∀y d,a.lookup y=some d->cells.lookup y=some d)->(Dj cells names a).lookup x=some c->cells.lookup x=some c
 |[],a,_,g,h=>g x c h
 |(n,k)::r,a,i,g,h=>by
  unfold Dj at h
  by_cases j:(k==NameKind.free)=true
  ·rw[if_pos j]at h
   have o:k=.free:=by simpa using j
   obtain⟨d,q⟩:=i (n,k) List.mem_cons_self o
   refine Dm r _ (fun p l=>i p (List.mem_cons_of_mem _ l)) (fun y e f=>?_) h
   rw[List.lookup_cons]at f
   cases b:y==n with
   |true=>
    rw[b]at f
    have:y=n:=by simpa using b
    subst this
    have m:List.lookup y cells=some d:=q
    rw[m]at f⊢
    exact f
   |false=>
    rw[b]at f
    exact g y e f
  ·rw[if_neg j]at h
   exact Dm r a (fun p l=>i p (List.mem_cons_of_mem _ l)) g h
theorem Dt {cells:List (Str×Addr)} {x:Str}:∀(names:List (Str×NameKind)) (a:List (Str×Addr)),((a.lookup x).isSome=true∨(x,NameKind.free)∈names)->((Dj cells names a).lookup x).isSome=true
 |[],a,h=>h.elim (fun z=>z) fun z=>nomatch z
 |(n,k)::r,a,h=>by
  unfold Dj
  by_cases b:(k==NameKind.free)=true
  ·rw[if_pos b]
   refine Dt r _ ?_
   rcases h with h|h
   ·refine .inl ?_
    rw[List.lookup_cons]
    cases x==n<;>simp[h]
   ·rcases List.mem_cons.mp h with e|e
    ·refine .inl ?_
     have:x=n:=congrArg Prod.fst e
     subst this
     rw[List.lookup_cons]
     simp
    ·exact .inr e
  ·rw[if_neg b]
   refine Dt r _ ?_
   rcases h with h|h
   ·exact .inl h
   ·rcases List.mem_cons.mp h with e|e
    ·have:NameKind.free=k:=congrArg Prod.snd e
     subst this
     exact absurd rfl b
    ·exact .inr e
theorem DG {scope:Scope} {env:Env} (h:∀p∈scope.names,p.2=.free->∃c,env.cells.lookup p.1=some c):closureFor scope env=pure (Dj env.cells scope.names []):=by
 have go:∀(names:List (Str×NameKind)) (b:List (Str×Addr)),(∀p∈names,p.2=.free->∃c,env.cells.lookup p.1=some c)->
   (forIn names b (fun(x:Str×NameKind) r=>if(x.2==NameKind.free)=true then do let a<-cellOf env x.1;pure (ForInStep.yield ((x.1,a)::r))else pure (ForInStep.yield r)):Sem (List (Str×Addr)))=pure (Dj env.cells names b):=by
  intro names
  induction names with
  |nil=>intro b _;rfl
  |cons p r j=>
   intro b f
   obtain⟨n,k⟩:=p
   rw[List.forIn_cons]
   unfold Dj
   by_cases g:(k==NameKind.free)=true
   ·have l:k=.free:=by simpa using g
    obtain⟨c,d⟩:=f (n,k) List.mem_cons_self l
    have d:List.lookup n env.cells=some c:=d
    have e:cellOf env n=pure c:=by unfold cellOf;rw[d]
    simp only[g,if_true,e,d,Option.getD_some]
    exact j _ fun p i=>f p (List.mem_cons_of_mem _ i)
   ·simp only[g,if_false]
    exact j _ fun p i=>f p (List.mem_cons_of_mem _ i)
 unfold closureFor
 exact Eq.trans (congrArg (fun t:Sem (List (Str×Addr))=>t>>=fun m=>pure m) (go scope.names [] h)) rfl
def Gs (env:Env) (n:Str) (k:NameKind):NameKind:=if(k==.free&&env.scope.kind==.function&&env.kindOf n==some .cell)=true then .cell else k
theorem Gu {g:Str->NameKind->NameKind} (y:Str):∀names:List (Str×NameKind),(names.map fun p=>(p.1,g p.1 p.2)).lookup y=(names.lookup y).map (g y)
 |[]=>rfl
 |(n,k)::r=>by
  rw[List.map_cons,List.lookup_cons,List.lookup_cons]
  cases e:y==n with
  |true=>
   have:y=n:=by simpa using e
   subst this
   rfl
  |false=>exact Gu y r
theorem Cs (scope:Scope) (env:Env) (y:Str):(relabel scope env).names.lookup y=(scope.names.lookup y).map (Gs env y):=by
 have e:(relabel scope env).names=scope.names.map fun p=>(p.1,Gs env p.1 p.2):=by
  unfold relabel
  refine List.map_congr_left fun p _=>?_
  obtain⟨n,k⟩:=p
  show(if(k==NameKind.free&&env.scope.kind==.function&&env.kindOf n==some .cell)=true then(n,NameKind.cell)else(n,k))=(n,if(k==NameKind.free&&env.scope.kind==.function&&env.kindOf n==some .cell)=true then NameKind.cell else k)
  by_cases h:(k==NameKind.free&&env.scope.kind==.function&&env.kindOf n==some .cell)=true
  ·rw[if_pos h,if_pos h]
  ·rw[if_neg h,if_neg h]
 rw[e]
 exact Gu y _
def CH (σ:St) (fs:List Nat):St:=fs.map fun i=>(σ[i]?).join
theorem LG {σ:St} {fs:List Nat} {j:Nat} {v:V} (h:(CH σ fs)[j]?=some (some v)):∃i,fs[j]?=some i/\σ[i]?=some (some v):=by
 unfold CH at h
 rw[List.getElem?_map]at h
 cases e:fs[j]? with
 |none=>rw[e]at h;cases h
 |some i=>
  rw[e]at h
  refine⟨i,rfl,?_⟩
  have a:(σ[i]?).join=some v:=AAC h
  cases b:σ[i]? with
  |none=>rw[b]at a;cases a
  |some o=>
   rw[b]at a
   have a:o=some v:=a
   rw[a]
structure EO (X:Cx) (scope:Scope) (x:Str) (fv:List Str) (fs:List Nat):Prop where
 kind:scope.kind=.function
 Ji:∀p∈scope.names,p.2≠.cell
 names:∀p∈scope.names,p.2=.local->scope.names.lookup p.1=some .local
 tg:scope.names.lookup x=some .local
 free:∀p∈scope.names,p.2=.free->X.env.scope.names.lookup p.1=some .cell
 nd:(x::fv).Nodup
 jb:∀(j:Nat) y,fv[j]?=some y->∃i,fs[j]?=some i/\X.N[i]?=some y/\scope.names.lookup y=some .free
 len:fv.length=fs.length
def QT (a:Scope) (N:List Str) (scope:Scope) (x:Str) (fv:List Str) (fs:List Nat):Bool:=
 scope.kind==.function&&(scope.names.all fun p=>p.2 !=.cell)&&(scope.names.all fun p=>p.2 !=.local||scope.names.lookup p.1==some .local)&&scope.names.lookup x==some .local&&
 (scope.names.all fun p=>p.2 !=.free||a.names.lookup p.1==some .cell)&&decide (x::fv).Nodup&&fs.map (N[·]?)==fv.map some&&(fv.all fun y=>scope.names.lookup y==some .free)
theorem EO.of {X:Cx} {scope:Scope} {x:Str} {fv:List Str} {fs:List Nat} (h:QT X.env.scope X.N scope x fv fs=true):EO X scope x fv fs:=by
 unfold QT at h
 simp only[Bool.and_eq_true,List.all_eq_true,Bool.or_eq_true,bne_iff_ne,beq_iff_eq,decide_eq_true_eq]at h
 obtain⟨⟨⟨⟨⟨⟨⟨g,i⟩,k⟩,m⟩,n⟩,o⟩,f⟩,q⟩:=h
 have hlen:fs.length=fv.length:=by
  have:=congrArg List.length f
  simpa using this
 refine⟨g,i,fun p b c=>(k p b).resolve_left fun z=>z c,m,fun p b c=>(n p b).resolve_left fun z=>z c,o,fun j y e=>?_,hlen.symm⟩
 have r:j<fv.length:=(AAB e).1
 have d:=congrArg (fun l=>l[j]?) f
 simp only[List.getElem?_map,e]at d
 have a:j<fs.length:=by lia
 rw[AAA a]at d
 refine⟨fs[j],AAA a,?_,q y (AAD e)⟩
 simpa using d
abbrev CI (X:Cx) (N':List Str) (scope:Scope) (C:Addr) (s0:Shared) (H0:Hp) (fp:List Addr):Cx where
 prog:=X.prog
 w:=X.w
 K:=X.K
 mg:=X.mg
 base:=X.base
 A:=X.A
 N:=N'
 s₀:=s0
 H₀:=H0
 env:=compEnvC scope (Dj X.env.cells scope.names []) C X.env
 outer:=X.stack
 stack:=X.stack
 ex:=fp
 fn:=fun _=>false
 calm:=X.calm
 pn:=[]
 xe:=fun _ _=>False
section
variable{X:Cx} {pins:List (Addr×Obj)} {σ:St} {H H':Hp} {s s':Shared} {scope:Scope} {x:Str} {fv:List Str} {fs:List Nat} {fp:List Addr}
theorem EO.cells (ok:EO X scope x fv fs) (I:Inv X pins σ H s):∀p∈scope.names,p.2=.free->∃c,X.env.cells.lookup p.1=some c:=fun p a b=>I.ok.has p.1 (.inl (ok.free p a b))
theorem EO.look (ok:EO X scope x fv fs) (I:Inv X pins σ H s) {y:Str} {c:Addr} (h:(Dj X.env.cells scope.names []).lookup y=some c):X.env.cells.lookup y=some c:=
 Dm scope.names [] (ok.cells I) (fun _ _ z=>by cases z) h
theorem PH (ok:EO X scope x fv fs) (I:Inv X pins σ H s) (t:∀b∈fp,EC X pins H b) (w:∀b∈fp,∃o,s.heap.get? b=some o) {h:Heap} {m:Str->Option Value} {tk:Nat} (N:h.Ns s.heap.objs.size m)
  (kept:∀b o,s.heap.get? b=some o->h.get? b=some o):Inv (CI X (x::fv) scope s.heap.objs.size s H fp) [] (none::CH σ fs) H {s with heap:=h,toks:=tk}:=by
 have g:=fun{y c}=>ok.look I (y:=y) (c:=c)
 have A:X.env.scope.kind=.function:=I.ok.kind
 refine⟨⟨I.ok.mod,ok.kind,I.ok.glob,I.ok.blt,Nat.le_refl _,fun y z c h O=>I.ok.inj y z c (g h) (g O),fun y a=>?_,fun y c B _=>(by cases B),I.ok.hd,I.ok.frames,.inl rfl,fun b f=>⟨?_,fun y c e z=>(t b f).2.2.2.2.1 y c (g e) z⟩,I.bs,
  Nat.le_trans I.ok.Sx I.sz,fun b o e f=>?_,fun b f C=>?_,I.stack,I.Lz⟩,rfl,I.bare,Un.kept kept,⟨m,N,fun i y v D d T=>?_⟩,fun y c e=>?_,I.fresh,fun y c e=>I.ET y c (g e),fun p P=>absurd (show p∈([]:List (Addr×Obj))from P) (by simp),I.BV.kept kept,?_⟩
 ·have a:(relabel scope X.env).names.lookup y=some .cell∨(relabel scope X.env).names.lookup y=some .free:=a
  rw[Cs]at a
  have E:scope.names.lookup y=some .free:=by
   cases e:scope.names.lookup y with
   |none=>rw[e]at a;rcases a with z|z<;>cases z
   |some k=>
    rw[e]at a
    have a:Gs X.env y k=.cell∨Gs X.env y k=.free:=a.elim (fun z=>.inl (AAC z)) fun z=>.inr (AAC z)
    by_cases F:k=.free
    ·rw[F]
    ·have d:Gs X.env y k=k:=by
      unfold Gs
      have:(k==NameKind.free)=false:=by simpa using F
      rw[this]
      rfl
     rw[d]at a
     rcases a with z|z
     ·subst z
      exact absurd rfl (ok.Ji _ (PySem.mem_of_lookup e))
     ·exact absurd z F
  exact Option.isSome_iff_exists.mp (Dt scope.names [] (.inr (PySem.mem_of_lookup E)))
 ·obtain⟨o,n⟩:=w b f
  exact Nat.ne_of_lt (Heap.lt_size n)
 ·rcases(t b f).2.2.2.1 with z|z
  ·exact I.ok.RE b o e z
  ·exact absurd (Nat.lt_of_lt_of_le (Heap.lt_size e) (Nat.le_trans I.ok.Sx z)) (Nat.lt_irrefl _)
 ·rcases List.mem_cons.mp (I.Ly b C)with z|z
  ·exact(t b f).2.1 z
  ·exact(t b f).2.2.1 z
 ·cases i with
  |zero=>
   have d:(some none:Option (Option V))=some (some v):=d
   cases d
  |succ j=>
   have D:fv[j]?=some y:=D
   have d:(CH σ fs)[j]?=some (some v):=d
   obtain⟨i,Q,R⟩:=LG d
   obtain⟨U,M,S,G⟩:=ok.jb j y D
   rw[Q]at M
   cases M
   have J:X.env.scope.names.lookup y=some .cell:=ok.free (y,.free) (PySem.mem_of_lookup G) rfl
   obtain⟨W,_,K⟩:=I.loc
   obtain⟨u,r,l⟩:=K i y v S R (.inr (.inl J))
   refine⟨u,r,?_⟩
   rcases l with⟨k,_⟩|⟨_,c,e,o,n,hd⟩
   ·have k:X.env.scope.names.lookup y=some .local:=k
    rw[J]at k
    cases k
   ·obtain⟨Y,q⟩:=Option.isSome_iff_exists.mp (Dt (cells:=X.env.cells) scope.names [] (.inr (PySem.mem_of_lookup G)))
    have:=g q
    rw[e]at this
    cases this
    refine .inr ⟨.inl ?_,c,q,o,kept _ _ n,hd⟩
    show(relabel scope X.env).names.lookup y=some .cell
    rw[Cs,G]
    show some (Gs X.env y .free)=_
    have L:X.env.kindOf y=some .cell:=J
    unfold Gs
    rw[A,L]
    rfl
 ·obtain⟨v,o,n,hd⟩:=I.cell y c (g e)
  exact⟨v,o,kept _ _ n,hd⟩
 ·show(none::CH σ fs).length=(x::fv).length
  simp[CH,ok.len]
theorem Jj {e:St} {C:Addr} {f:List Str} (I:Inv X pins σ H s) (a:∀b∈fp,EC X pins H b) (c:Inv (CI X f scope C s H fp) [] e H' s'):Inv X pins σ H' s':=
 I.dE (ch:=fp) c.os c.base c.BV c.bare fun b d=>⟨(a b d).2.2.2.1,(a b d).2.1,(a b d).2.2.2.2.1,(a b d).2.2.2.2.2⟩
theorem Inv.off {C:Addr} {h':Heap} (I:Inv X pins σ H s) (f:EC X pins H C) (a:Heap.SameBut C s.heap h'):Inv X pins σ H {s with heap:=h'}:=
 I.turned (t':=s.toks) (fun b o c e=>a.extBut b o c e) f.1 (fun z=>f.2.1 z) f.2.2.2.1 f.2.2.2.2.1 f.2.2.2.2.2
end
def aK (X:Cx) (a:List Expr) (t:TT):Prop:=
 ∀(pins:List (Addr×Obj)) (s:Shared) (b:St) (H:Hp) (Q:Bool->Hp->Prop),Inv X pins b H s->t b H Q->
  wpAny (model X.prog X.w) X.A (forIn a true fun c r=>if r=true then do let ok<-isTrue c X.env (eval c X.env);pure (ForInStep.yield ok)else pure (ForInStep.yield r)) (TP X pins b Q) X.xe s
def To:TT:=fun _ H Q=>Q true H
theorem Gv {X:Cx}:aK X [] To:=fun _ _ _ H _ I h=>wpAny_tests_nil ⟨H,I,h⟩
theorem JH {X:Cx} {c:Expr} {t:TT} (h:PT X c t):aK X [c] t:=fun pins s a H Q I q=>wpAny_tests_one (h pins s a H Q I q)
def Hq (J:It) (g:TT) (h:TE) (fs:List Nat) (σ:St) (H:Hp) (Q:VK):Prop:=∀D,H D=none->∃W:Nat->Nat->Hp->Prop,(∃m,W 0 m (upd H D (.lst [])))/\∀i m a,W i m a->
 (J.stop i a/\Q (.ref D) a)∨(J.go i a/\∀v d,J.Sy i a v d->g (some v::CH σ fs) d fun ok e=>
  if ok=true then h (some v::CH σ fs) e fun y f=>∃c,f D=some (.lst c)/\c.length<sizeLine/\∃b,b<m/\W (i+1) b (upd f D (.lst (c++[y])))else∃b,b<m/\W (i+1) b e)
def Yt (b:TI) (c:TT) (d:TE) (fs:List Nat):TE:=fun a H Q=>b a H fun J e=>Hq J c d fs a e Q
section
variable{X:Cx} {elt iter:Expr} {x:Str} {px pos:Pos} {ifs:List Expr} {scope:Scope} {fv:List Str} {fs:List Nat} {wi:TI} {te:TE} {tc:TT}
theorem Ni (hc:X.calm=true) (ok:EO X scope x fv fs) (Z:∀C s0 H0 d,aK (CI X (x::fv) scope C s0 H0 d) ifs tc) (he:∀C s0 H0 d,PE (CI X (x::fv) scope C s0 H0 d) elt te)
  {pins:List (Addr×Obj)} {σ:St} {H:Hp} {s:Shared} {E:Value->Shared->Prop} {it:Addr} {d:List Addr} {B:Nat->Heap->Prop} {J:It} {Q:VK} (I:Inv X pins σ H s) (T:Turn X.prog X.w X.K (.Name x px) J d it B) (st:B 0 s.heap)
  (hf:∀b∈d,EC X pins H b)
  (rd:Hq J tc te fs σ H Q)
  {RR:Value->Addr->Result->Shared->Prop}
  (jc:∀D C l H',Inv X pins σ H' l->EC X pins H' C->(∃m,l.heap.Ns C m)->Q (.ref D) H'->RR (.ref D) C (.ok .next) l):
  wpAny (model X.prog X.w) X.A (newList []) (fun F a=>wpAny (model X.prog X.w) X.A (newFunctionEnv scope X.env.globals (Dj X.env.cells scope.names []) [] X.env.qual none .none (some X.env)) (fun g s4=>
   codeAny (model X.prog X.w) X.A (.compStart (.ListComp elt [⟨.Name x px,iter,ifs,0⟩] scope pos) 0 (.ref it) F {g with scope:=relabel scope X.env}) (RR F g.locals) s4) E a) E s:=by
 obtain⟨W,⟨m0,w0⟩,turn⟩:=rd s.heap.objs.size I.fresh
 have U:Inv X pins σ (upd H s.heap.objs.size (.lst [])) {s with heap:=s.heap.push {cls:=.type "list",dict:=none,data:=.seq ([]:List Value).toArray}}:=I.Z' (its:=[]) (ys:=[]) (t':=s.toks) .nil (Nat.zero_le _)
 refine wpAny_newObj_type ?_
 show wpAny _ _ _ _ _ ({s with heap:=s.heap.push {cls:=.type "list",dict:=none,data:=.seq ([]:List Value).toArray}}:Shared)
 generalize jd:({s with heap:=s.heap.push {cls:=.type "list",dict:=none,data:=.seq ([]:List Value).toArray}}:Shared)=a at U⊢
 refine wpAny_newFunctionEnv ok.Ji (fun y hy=>absurd hy (by simp)) (fun h1 je jf=>?_) ok.kind
 have eh:a.heap=s.heap.push {cls:=.type "list",dict:=none,data:=.seq ([]:List Value).toArray}:=by rw[<-jd]
 have G:∀b o,s.heap.get? b=some o->a.heap.get? b=some o:=fun b o e=>by rw[eh];exact Heap.get?_push_of_some _ e
 have jg:∀b∈d,∃o,a.heap.get? b=some o:=fun b c=>let⟨o,ho,_⟩:=T.obj 0 _ st b c;⟨o,G b o ho⟩
 have cV:∀b∈d,b≠s.heap.objs.size:=fun b c=>let⟨o,ho,_⟩:=T.obj 0 _ st b c;Nat.ne_of_lt (Heap.lt_size ho)
 have h:∀b∈d,EC X pins (upd H s.heap.objs.size (.lst [])) b:=fun b c=>⟨by rw[AN (cV b c)];exact(hf b c).1,(hf b c).2⟩
 have kept:∀b o,a.heap.get? b=some o->h1.get? b=some o:=fun b o e=>jf.extBut b o (Nat.ne_of_lt (Heap.lt_size e)) (Heap.get?_push_of_some _ e)
 have V:=PH (tk:=a.toks+([]:List (Str×Value)).length) ok U h jg je kept
 have L:B 0 h1:=T.keep 0 _ _ st fun b c o e=>kept b o (G b o e)
 have f:∀{H':Hp},(∀b∈d,H' b=none)->∀b∈d,EC (CI X (x::fv) scope a.heap.objs.size a (upd H s.heap.objs.size (.lst [])) d) [] H' b:=fun hn b c=>
  ⟨hn b c,(V.ok.cT b c).1,V.ok.RF b c,.inl c,(V.ok.cT b c).2,fun p hp=>absurd hp (by simp)⟩
 have hg:PG (CI X (x::fv) scope a.heap.objs.size a (upd H s.heap.objs.size (.lst [])) d) (.Name x px) (EU 0):=Bm ok.nd rfl (.inl (lookup_relabel_local ok.tg)) (.inr (lookup_relabel_local ok.tg))
 have loop:codeAny (model X.prog X.w) X.A (.compLoop (.ListComp elt [⟨.Name x px,iter,ifs,0⟩] scope pos) 0 (.ref it) (.ref s.heap.objs.size) (compEnvC scope (Dj X.env.cells scope.names []) a.heap.objs.size X.env)) (RR (.ref s.heap.objs.size) a.heap.objs.size)
   {a with heap:=h1,toks:=a.toks+([]:List (Str×Value)).length}:=by
  refine Jh (fun n l=>∃i o H',Inv (CI X (x::fv) scope a.heap.objs.size a (upd H s.heap.objs.size (.lst [])) d) [] (o::CH σ fs) H' l/\B i l.heap/\(∀b∈d,H' b=none)/\W i n H') ?_ m0
   ⟨0,none,_,V,L,fun b c=>(h b c).1,w0⟩
  rintro n s5 ⟨i,o,Y,I5,M,N,w5⟩
  rcases turn i n Y w5 with⟨stop,q⟩|⟨go,step⟩
  ·refine Bl (T.done (CI X (x::fv) scope a.heap.objs.size a (upd H s.heap.objs.size (.lst [])) d) rfl rfl rfl hc i [] s5 _ Y _ I5 (f N) M stop) fun r s6 ⟨hr,I6⟩=>?_
   subst hr
   obtain⟨m,hm,_⟩:=I6.loc
   exact jc _ _ s6 Y (Jj U h I6) (U.NN (Nat.le_refl _) I6.free) ⟨m,hm⟩ q
  ·refine Bl (T.item (CI X (x::fv) scope a.heap.objs.size a (upd H s.heap.objs.size (.lst [])) d) rfl rfl rfl hc i [] s5 _ Y _ I5 (f N) M go) fun r s6 ⟨u,hr,h6⟩=>?_
   subst hr
   refine Bl h6 fun _ s7 ⟨v,H7,I7,r7,y7,j,jh⟩=>?_
   have ji:=I7.pinned (f jh) (T.obj _ _ j)
   have back:∀{O:St} {t:Hp} {P:Shared},Inv (CI X (x::fv) scope a.heap.objs.size a (upd H s.heap.objs.size (.lst [])) d) ([]++Hd d s7.heap) O t P->B (i+1) P.heap/\∀b∈d,t b=none:=fun{O t P} z=>
    ⟨T.keep _ _ _ j fun b c o e=>(z.pin (b,o) (DC c e)).1,fun b c=>by
     obtain⟨o,e,_⟩:=T.obj _ _ j b c
     exact(z.pin (b,o) (DC c e)).2.1⟩
   refine Bl (hg _ s7 _ H7 v u (fun σ2 H2=>σ2=some v::CH σ fs/\H2=H7) ji r7 ⟨rfl,rfl⟩) fun _ s8 ⟨σ8,H8,I8,e8,jj⟩=>?_
   subst e8 jj
   refine Bl (Z _ _ _ _ _ s8 _ H8 _ I8 (step v H8 y7)) fun ok P ⟨t,z,q9⟩=>?_
   cases ok with
   |false=>
    obtain⟨m',k,w9⟩:=q9
    obtain⟨b1,b2⟩:=back z
    exact⟨m',k,i+1,some v,t,z.Dv,b1,b2,w9⟩
   |true=>
    refine Bl (he _ _ _ _ _ P _ t _ z q9) fun y s10 ⟨yv,R,jk,r10,ys,hD,hz,m',k,w10⟩=>?_
    refine Bl (Ds _ s10 _ R (.ref s.heap.objs.size) [yv] (.ref s.heap.objs.size) [y] (fun _ H'=>H'=upd R s.heap.objs.size (.lst (ys++[yv]))) jk rfl (.cons r10 .nil) ⟨_,ys,yv,rfl,rfl,hD,hz,rfl⟩) fun _ s11 ⟨_,vF,S,_,e11⟩=>?_
    subst e11
    obtain⟨b1,b2⟩:=back S
    exact⟨m',k,i+1,some v,_,S.Dv,b1,b2,w10⟩
 exact codeAny_compStart_list loop (T.self _ 0 _ _ _ L loop)
theorem Gw (g:X.calm=true) (ok:EO X scope x fv fs) (i:PI X (.Name x px) iter wi) (b:∀C c d a,aK (CI X (x::fv) scope C c d a) ifs tc) (j:∀C c d a,PE (CI X (x::fv) scope C c d a) elt te)
  (k:∀x,foldedSetIterable iter X.env x=pure x:=by intro _;rfl):PE X (.ListComp elt [⟨.Name x px,iter,ifs,0⟩] scope pos) (Yt wi tc te fs):=by
 intro pins s l H Q I h
 rw[eval_ListComp]
 refine wpAny_comprehension_free (use:=none) rfl k (DG (ok.cells I)) ok.kind ok.names (Bl (i pins s l H _ I h) fun A B n=>Bl n fun o E p=>?_)
 obtain⟨F,a,G,J,K,rfl,r,T,e,t,u⟩:=p
 exact Ni g ok b j r T e t u fun D C L v w y ⟨m,z⟩ q=>⟨m,z,fun M f=>⟨.ref D,v,w.off y f,rfl,q⟩⟩
theorem GJ {i:Nat} {y:Str} {c b:Pos} (K:X.calm=true) (ok:EO X scope x fv fs) (L:X.N.Nodup) (k:X.N[i]?=some y) (M:Loc X.env.scope y) (O:PI X (.Name x px) iter wi) (l:∀C n o g,aK (CI X (x::fv) scope C n o g) ifs tc)
  (P:∀C n o g,PE (CI X (x::fv) scope C n o g) elt te) (p:swapsWith (.ListComp elt [⟨.Name x px,iter,ifs,0⟩] scope pos) (some (.Name y c)) b.line X.env=pure true:=by rfl)
  (r:X.fn y=true∨X.env.scope.names.lookup y=some .local:=by first|exact .inl rfl|exact .inr rfl|assumption)
  (R:∀x,foldedSetIterable iter X.env x=pure x:=by intro _;rfl):PS X (.Assign [.Name y c] (.ListComp elt [⟨.Name x px,iter,ifs,0⟩] scope pos) b) (fun D d H=>Yt wi tc te fs d H fun v f=>D.nx (d.set i (some v)) f):=by
 intro pins s d H D I h
 rw[exec_Assign_Name_used _ _ _ _ p]
 refine wpAny_bind (wpAny_standAt (wpAny_bind ?_))
 show wpAny _ X.A (comprehension (.ListComp elt [⟨.Name x px,iter,ifs,0⟩] scope pos) scope X.env _ (newList []) false (eval iter X.env) (some (assign (.Name y c) X.env))>>=fun _=>pure ()) _ _ s
 refine wpAny_bind (Bl (wpAny_comprehension_free (use:=some (assign (.Name y c) X.env)) (Q:=fun _ j=>SP X pins D .next j) rfl R (DG (ok.cells I)) ok.kind ok.names
  (Bl (O pins s d H _ I h) fun xv s1 S=>Bl S fun U s2 V=>?_)) fun _ j W=>wpAny_pure (wpAny_pure W))
 obtain⟨it,g,tn,J,H2,rfl,Y,T,t,Z,rd⟩:=V
 refine Ni (Q:=fun v f=>D.nx (d.set i (some v)) f) K ok l P Y T t Z rd fun G C j f I' u ⟨m,hm⟩ q=>?_
 show wpAny _ X.A (assign (.Name y c) X.env (.ref G)) _ _ j
 refine wpAny_assign_Name (Kw I' L k M (v:=.ref G) rfl (fun iA w ⟨a,B,ha⟩=>?_) r)
 have E:C≠a:=by
  rcases ha with z|z
  ·rw[z];exact u.2.1
  ·exact fun e=>u.2.2.2.2.1 y a z e.symm
 exact⟨m,hm.sameBut B E,fun h' F=>⟨_,f,w.off u F,q⟩⟩
end
theorem LH {J:It} {k:TT} {f:TE} {fs:List Nat} {σ:St} {H:Hp} {Q:VK} {n:Nat} (item g:Nat->V) (p:Nat->Bool) (y:n<=sizeLine)
  (h:∀i D ys,i<n->H D=none->J.go i (upd H D (.lst ys)))
  (q:∀i D ys v H',i<n->H D=none->J.Sy i (upd H D (.lst ys)) v H'->v=item i/\H'=upd H D (.lst ys))
  (j:∀D ys,H D=none->J.stop n (upd H D (.lst ys)))
  (r:∀i D ys (R:Bool->Hp->Prop),i<n->H D=none->R (p i) (upd H D (.lst ys))->k (some (item i)::CH σ fs) (upd H D (.lst ys)) R)
  (s:∀i D ys (R:VK),i<n->H D=none->p i=true->R (g i) (upd H D (.lst ys))->f (some (item i)::CH σ fs) (upd H D (.lst ys)) R)
  (t:∀D,H D=none->Q (.ref D) (upd H D (.lst (((List.range n).filter p).map g)))):
  Hq J k f fs σ H Q:=by
 intro D c
 refine⟨fun i m l=>m=n-i/\i<=n/\l=upd H D (.lst (((List.range i).filter p).map g)),⟨n,by simp⟩,?_⟩
 rintro i m l ⟨rfl,z,rfl⟩
 by_cases a:i<n
 ·refine .inr ⟨h i D _ a c,fun v u w=>?_⟩
  obtain⟨rfl,rfl⟩:=q i D _ v u a c w
  refine r i D _ _ a c ?_
  have o:∀b,p i=b->((List.range (i+1)).filter p).map g=((List.range i).filter p).map g++(if b=true then[g i]else[]):=fun b d=>by
   rw[List.range_succ,List.filter_append,List.map_append]
   cases b with
   |true=>simp[d]
   |false=>simp[d]
  cases d:p i with
  |false=>
   show∃x,x<n-i/\_
   refine⟨n-(i+1),by lia,rfl,a,?_⟩
   rw[o false d]
   simp
  |true=>
   show f _ _ _
   refine s i D _ _ a c d ⟨_,AE,?_,n-(i+1),by lia,rfl,a,?_⟩
   ·rw[List.length_map]
    have:=List.length_filter_le p (List.range i)
    rw[List.length_range]at this
    lia
   ·rw[WR,o true d]
    simp
 ·have e:i=n:=by lia
  subst e
  exact .inl ⟨j D _ c,t D c⟩
theorem AG.put {H H':Hp} {D:Addr} {o:HO} (s:AG H H') (h:H D=none):AG H (upd H' D o):=fun b u e=>by
 rw[AN (Bq e h)]
 exact s b u e
theorem AG.new {H:Hp} {D:Addr} {o:HO} (h:H D=none):AG H (upd H D o):=(AG.refl H).put h
theorem AG.tup {K:AAE} {H H':Hp} {a:Addr} {xs:List V} (e:AG H H') (h:Ap K H a xs):Ap K H' a xs:=by
 rcases h with(h|⟨o,h⟩)|h
 ·exact .inl (.inl (e _ _ h))
 ·exact .inl (.inr ⟨o,e _ _ h⟩)
 ·exact .inr h
theorem Tp {J:It} {g:TE} {fs:List Nat} {σ:St} {H:Hp} {Q:VK} {n:Nat} (item:Nat->V) (Ok:Nat->V->Prop) (C:n<=sizeLine)
  (h:∀i a,i<n->AG H a->J.go i a)
  (u:∀i a v H',i<n->AG H a->J.Sy i a v H'->v=item i/\H'=a)
  (k:∀a,AG H a->J.stop n a)
  (w:∀i a (R:VK),i<n->AG H a->(∀y f,AG a f->Ok i y->R y f)->g (some (item i)::CH σ fs) a R)
  (x:∀D a ys,H D=none->AG H a->a D=some (.lst ys)->ys.length=n->(∀(i:Nat) y,ys[i]?=some y->Ok i y)->Q (.ref D) a):
  Hq J To g fs σ H Q:=by
 intro D l
 refine⟨fun i m a=>m=n-i/\i<=n/\AG H a/\∃ys,a D=some (.lst ys)/\ys.length=i/\∀(j:Nat) y,ys[j]?=some y->Ok j y,⟨n,by simp,Nat.zero_le _,AG.new l,[],AE,rfl,fun j y z=>by simp at z⟩,?_⟩
 rintro i m a ⟨rfl,E,d,ys,p,r,s⟩
 by_cases b:i<n
 ·refine .inr ⟨h i a b d,fun v f A=>?_⟩
  obtain⟨rfl,rfl⟩:=u i a v f b d A
  show g _ _ _
  refine w i _ _ b d fun y F t o=>⟨ys,t _ _ p,by lia,n-(i+1),by lia,rfl,b,(d.trans t).put l,ys++[y],AE,by simp[r],fun j z c=>?_⟩
  by_cases B:j<ys.length
  ·rw[List.getElem?_append_left B]at c
   exact s j z c
  ·rw[List.getElem?_append_right (by lia)]at c
   have e:j-ys.length=0:=by
    cases q:j-ys.length with
    |zero=>rfl
    |succ G=>rw[q]at c;simp at c
   rw[e]at c
   have:y=z:=by simpa using c
   subst this
   have:j=i:=by lia
   subst this
   exact o
 ·have e:i=n:=by lia
  subst e
  exact .inl ⟨k a d,x D a ys l d p r s⟩
open Builtin Builtin.Str
theorem Wv (n m:Nat):max 0 (min (m:Int) (n:Int))=((min m n:Nat):Int):=by
 rw[Int.max_eq_right (Int.le_min.mpr ⟨Int.natCast_nonneg _,Int.natCast_nonneg _⟩)]
 by_cases h:m<=n
 ·rw[Nat.min_eq_left h,Int.min_eq_left (Int.ofNat_le.mpr h)]
 ·rw[Nat.min_eq_right (Nat.le_of_not_le h),Int.min_eq_right (Int.ofNat_le.mpr (Nat.le_of_not_le h))]
theorem Tq (n:Nat) {i:Int} (h:i<0):max 0 (min (i+(n:Int)) (n:Int))=(((i+(n:Int)).toNat:Nat):Int):=by
 rw[Int.min_eq_left (by lia),Int.toNat_eq_max,Int.max_comm]
theorem Tr (l u:Option Int) (n:Nat):strSliceIndices l u 1 n=(List.range (HT.CF n n u-HT.CF n 0 l)).map (HT.CF n 0 l+·):=by
 have clip:∀(v:Option Int) (d:Nat),(match v with|none=>(d:Int)|some i=>max 0 (min (if i<0 then i+(n:Int)else i) (n:Int)))=((HT.CF n d v:Nat):Int):=by
  intro v d
  cases v with
  |none=>rfl
  |some i=>
   show max 0 (min (if i<0 then i+(n:Int)else i) (n:Int))=(((if i<0 then(i+(n:Int)).toNat else min i.toNat n):Nat):Int)
   by_cases h:i<0
   ·simp only[if_pos h];exact Tq n h
   ·simp only[if_neg h]
    obtain⟨m,rfl⟩:=Int.eq_ofNat_of_zero_le (Int.not_lt.mp h)
    exact Wv n m
 have c:=clip l 0
 have e:=clip u n
 unfold strSliceIndices sliceRange
 simp only[show(1:Int)>0 by decide,if_true,Int.one_mul,Int.ediv_one]
 have f:((0:Nat):Int)=0:=rfl
 rw[f]at c
 have gen:∀(A B:Int) (a b:Nat),A=(a:Int)->B=(b:Int)->List.map (fun k:Nat=>(A+(k:Int)).toNat) (List.range (if A<B then B-A+1-1 else 0).toNat)=List.map (fun x=>a+x) (List.range (b-a)):=by
  intro A B a b g j
  subst g j
  have o:(if(a:Int)<(b:Int)then(b:Int)-(a:Int)+1-1 else 0).toNat=b-a:=by
   split<;>lia
  rw[o]
  refine List.map_congr_left fun k _=>?_
  lia
 exact gen _ _ _ _ c e
def ML (xs:List Nat) (l u:Option Int):List Nat:=(xs.drop (HT.CF xs.length 0 l)).take (HT.CF xs.length xs.length u-HT.CF xs.length 0 l)
theorem PJ {c:Type} (xs:List c) (a k:Nat) (h:a+k<=xs.length):((List.range k).map (a+·)).filterMap (xs[·]?)=(xs.drop a).take k:=by
 rw[List.filterMap_map]
 induction k with
 |zero=>simp
 |succ k d=>
  rw[List.range_succ,List.filterMap_append,d (by lia)]
  have b:a+k<xs.length:=by lia
  have e:(xs.drop a)[k]?=some (xs[a+k]):=by
   rw[List.getElem?_drop]
   exact AAA b
  rw[List.take_add_one,e]
  simp[b]
theorem Nj (x:Str) (l u:Option Int):(Txt.slice x l u).cps.toList=ML x.cps.toList l u:=by
 have hlen:x.cps.toList.length=x.length:=by rw[Array.length_toList];rfl
 have c:HT.CF x.length x.length u<=x.length:=by
  cases u with
  |none=>exact Nat.le_refl _
  |some v=>
   show(if v<0 then(v+(x.length:Int)).toNat else min v.toNat x.length)<=x.length
   split<;>lia
 unfold Txt.slice ML
 rw[hlen,Tr]
 generalize k:HT.CF x.length 0 l=a
 generalize d:HT.CF x.length x.length u=b at c
 by_cases f:a<=b
 ·split
  ·rename_i h
   simp at h
   have:b-a=x.length:=h
   have g:a=0:=by lia
   have j:b=x.length:=by lia
   subst g
   rw[j,<-hlen,List.drop_zero,Nat.sub_zero,List.take_length]
  ·show(List.filterMap (fun i=>x.cps[i]?) _).toArray.toList=_
   rw[List.toList_toArray]
   have e:(fun i:Nat=>x.cps[i]?)=fun i:Nat=>x.cps.toList[i]?:=by
    funext i
    exact(Array.getElem?_toList).symm
   rw[e]
   exact PJ _ a (b-a) (by lia)
 ·have z:b-a=0:=by lia
  rw[z]
  simp only[List.range_zero,List.map_nil,List.take_zero]
  split
  ·rename_i h
   simp at h
   have:x.cps.toList=[]:=List.eq_nil_of_length_eq_zero (by rw[hlen];exact h.symm)
   exact this
  ·rfl
section
variable{X:Cx}
inductive Yu (x:V) (lo:Option Int) (a:Option Int) (H:Hp) (Q:VK):Prop
 |mk (z:_) (b:x=.str z) (c:z.length<=sizeLine) (d:Q (.str (Txt.slice z lo a)) H):Yu x lo a H Q
def jl:V->Option Int->Option Int->Hp->VK->Prop:=fun x lo a H Q=>Yu x lo a H Q
theorem Jk:di X jl:=by
 intro pins s g H x v p r lo m w Q I n a o e h
 obtain⟨z,rfl,b,q⟩:=h
 obtain⟨t,rfl⟩:=n
 refine⟨"str",_,F.slot_str_getitem.lookup,typeIs_str _ _ _,?_⟩
 have fin:∀c k,EP X pins g Q (.str (Txt.slice z lo m) c) {s with toks:=k}:=fun c k=>⟨.str _,H,I.tok k,⟨c,rfl⟩,q⟩
 cases o with
 |none=>
  cases e with
  |none=>exact wpAny_getItem_str_slice (l:=none) (u:=none) (st:=none) a rfl (post_val_or_str ⟨Nat.le_trans (Txt.slice_le z _ _) b,fin⟩)
  |int j d=>exact wpAny_getItem_str_slice (l:=none) (u:=some (j,d)) (st:=none) a rfl (post_val_or_str ⟨Nat.le_trans (Txt.slice_le z _ _) b,fin⟩)
 |int i f=>
  cases e with
  |none=>exact wpAny_getItem_str_slice (l:=some (i,f)) (u:=none) (st:=none) a rfl (post_val_or_str ⟨Nat.le_trans (Txt.slice_le z _ _) b,fin⟩)
  |int j d=>exact wpAny_getItem_str_slice (l:=some (i,f)) (u:=some (j,d)) (st:=none) a rfl (post_val_or_str ⟨Nat.le_trans (Txt.slice_le z _ _) b,fin⟩)
end
section
variable{X:Cx} {tg:Expr}
inductive Nk (K:AAE) (xs:List V) (H:Hp) (Q:VK):Prop
 |mk (p:Addr) (bs:List Bool) (a:xs=[.ref p]) (b:A_ K H p (bs.map V.bl)) (c:Q (.bl (bs.all id)) H):Nk K xs H Q
theorem PK {ys:List Str}:∀{a:List Value},Vals (ys.map V.str) a->StrsAre a ys:=by
 induction ys with
 |nil=>intro a r;rw[List.map_nil]at r;cases r;exact .nil
 |cons n f b=>
  intro a r
  rw[List.map_cons]at r
  cases r with
  |cons c d=>
   obtain⟨t,e⟩:=c
   subst e
   exact .cons n t (b d)
inductive Ts (K:AAE) (x:V) (a:List V) (H:Hp) (Q:VK):Prop
 |mk (z:Str) (p:Addr) (ys:List Str) (b:x=.str z) (c:a=[.ref p]) (d:A_ K H p (ys.map V.str)) (e:(ys.map (·.length)).sum+ys.length*z.length<=16777216) (f:Q (.str (Txt.join z ys)) H):Ts K x a H Q
def rJoin (K:AAE):V->List V->Hp->VK->Prop:=fun x a H Q=>Ts K x a H Q
theorem Ww:sU X "str.join" (rJoin X.K):=by
 intro pins s j H x l v m Q I a b h
 obtain⟨z,p,n,rfl,rfl,c,d,q⟩:=h
 obtain⟨t,rfl⟩:=a
 obtain⟨u,rfl,e⟩:=b.one
 cases e
 obtain⟨f,r,g,_⟩:=I.list c
 exact join_list g.isList (by rw[List.toList_toArray];exact PK r) d fun i k=>⟨.str _,H,I.tok k,⟨i,rfl⟩,q⟩
inductive Ks (x:V) (y:V) (H:Hp) (Q:VK):Prop
 |mk (z:_) (n:_) (a:x=.str z) (b:y=.int n) (c:MulOk z n) (d:Q (.str (Txt.mul z n)) H):Ks x y H Q
inductive RW (x:V) (y:V) (H:Hp) (Q:VK):Prop
 |mk (a:_) (b:_) (c:x=.bl a) (d:y=.bl b) (e:Q (.bl (a==b)) H):RW x y H Q
inductive MM (x:V) (y:V) (H:Hp) (Q:VK):Prop
 |mk (a:_) (b:_) (c:x=.bl a) (d:y=.bl b) (e:Q (.bl (!(a==b))) H):MM x y H Q
inductive MN (K:AAE) (xs:List V) (H:Hp) (Q:VK):Prop
 |mk (x:_) (T:_) (t:_) (b:_) (a:xs=[x,.ty T]) (c:Hm K H x t) (d:PySem.W.kitOne K t (.type T)=some b) (e:Q (.bl b) H):MN K xs H Q
inductive Nl (x:V) (a:List V) (H:Hp) (Q:VK):Prop
 |mk (l:_) (xs:_) (i:_) (y:_) (b:x=.ref l) (c:a=[.int ((i:Nat):Int),y]) (d:H l=some (.lst xs)) (e:i<=xs.length) (f:xs.length<sizeLine) (g:Q .BL (upd H l (.lst (xs.take i++y::xs.drop i)))):Nl x a H Q
def Wx:V->List V->Hp->VK->Prop:=fun x a H Q=>Nl x a H Q
theorem LI:iC X "list.insert" Wx:=by
 intro pins s E H x G v J Q I o p h
 obtain⟨l,K,i,y,rfl,rfl,f,g,j,q⟩:=h
 cases o
 obtain⟨L,c,rfl,⟨t,u⟩,w⟩:=p.two
 subst u
 obtain⟨z,a,n,r,k,e⟩:=I.PD f
 have d:a.toArray.size<=sizeLine:=by rw[List.size_toArray,<-k];exact Nat.le_of_lt j
 have A:i<2 ^ 63:=Nat.lt_of_le_of_lt (Nat.le_trans g (Nat.le_of_lt j)) Hh
 have B:i<=a.length:=by rw[<-k];exact g
 obtain⟨x,C⟩:∃x:Int,x=(i:Int):=⟨_,rfl⟩
 rw[<-C]
 have b:¬(!Builtin.List.listFitsIndex x)=true:=by
  have:Builtin.List.listFitsIndex x=true:=by
   unfold Builtin.List.listFitsIndex
   simp only[Bool.and_eq_true,decide_eq_true_eq]
   constructor<;>lia
  simp[this]
 have D:∀m:Nat,a.length=m->(if x<0 then(x+(m:Int)).toNat else min x.toNat m)=i:=fun m M=>by
  rw[if_neg (by lia)]
  lia
 refine call_meets PySem.F.slot_list_insert ⟨_,e,rfl⟩ PySem.F.entry_list_insert (PySem.F.args_list_insert_3 _ _ _) (PySem.AutoSeq1.list_insert_list_int_val_1 l a.toArray n x t c b d) ⟨e,?_⟩
 refine⟨.BL,_,I.Wj (its':=a.take i++c::a.drop i) f e ?_ ((r.take i).append (.cons w (r.drop i))) ?_,rfl,q⟩
 ·show(a.toArray.extract 0 (if x<0 then(x+(a.toArray.size:Int)).toNat else min x.toNat a.toArray.size)).push c++a.toArray.extract (if x<0 then(x+(a.toArray.size:Int)).toNat else min x.toNat a.toArray.size)=_
  rw[D a.toArray.size (List.size_toArray ..).symm]
  apply Array.toList_inj.mp
  simp[List.take_of_length_le]
 ·simp only[List.length_append,List.length_take,List.length_cons,List.length_drop]
  lia
end
section
variable{X:Cx}
inductive Tt (x:V) (y:V) (H:Hp) (Q:VK):Prop
 |mk (a:_) (b:_) (xs:_) (ys:_) (c:x=.ref a) (d:y=.ref b) (e:H a=some (.tup xs)) (f:H b=some (.tup ys)) (g:xs.length+ys.length<=sizeLine) (h:∀p H',AG H H'->H' p=some (.tup (xs++ys))->Q (.ref p) H'):Tt x y H Q
def Yv:R2:=fun x y H Q=>Tt x y H Q
theorem Dn:Ep X (binaryOp .Add) Yv:=by
 intro pins s D H x y v u Q I r t h
 obtain⟨a,b,w,E,rfl,rfl,j,k,G,q⟩:=h
 by_cases l:w=[]
 ·cases r
  cases t
  obtain⟨c,J,K,_⟩:=I.tuple (Ap.of j)
  obtain⟨d,T,L,_⟩:=I.tuple (Ap.of k)
  obtain⟨⟨M,N,data,O⟩,z,A,n,B⟩:=id K
  obtain⟨⟨C,m,data2,o⟩,f,g,P,i⟩:=id L
  simp only at A B g i
  subst A B g i
  have R:c=[]:=J.JD.mpr l
  refine concat_meets ⟨_,z,rfl⟩ ⟨_,f,rfl⟩ noFill_tuple_add seq_tuple_add PySem.F.slot_tuple_add PySem.F.entry_tuple_add (PySem.F.args_tuple_add_2 _ _)
   (tuple_addW0 a b c.toArray d.toArray n P N m O o (by simp[R])) ⟨z,f,?_⟩
  refine⟨.ref b,H,I.tok s.toks,rfl,q b H (AG.refl H) ?_⟩
  rw[l]
  exact k
 ·refine Wg pins s D H (.ref a) (.ref b) v u Q I r t ⟨a,b,w,E,rfl,rfl,Ap.of j,Ap.of k,l,G,fun e=>?_,fun e p S=>q p _ (AG.new S) AE⟩
  refine q a H (AG.refl H) ?_
  rw[e,List.append_nil]
  exact j
end
end L2
namespace HT
open PySem PyProof.Rows
section
variable{prog:Program} {w:World} {A:Around} {E:Value->Shared->Prop} {s:Shared}
theorem Gx {t d:Addr} {items:Array Value} {i j:Value} {lo c:Option Int} {Q:Value->Shared->Prop} (a:IsTup s.heap t items) (k:s.heap.IsSliceOf d i j .none) (l:IsPart i lo) (n:IsPart j c)
  (hw:CF items.size 0 lo=0/\CF items.size items.size c=items.size) (h:Q (.ref t) s):wpAny (model prog w) A (getItem (.ref t) (.ref d)) Q E s:=by
 obtain⟨os,e,f,o⟩:=id k
 have g:s.TypeIs (.ref d) "slice":=⟨os,e,f⟩
 unfold getItem
 try with_reducible refine wpAny_holding ?_
 first|refine wpAny_bind (wpAny_pure ?_)|skip
 refine wpAny_bind (wpAny_sequenceKey a.typeIs (by decide) ?_)
 refine wpAny_bind (wpAny_callSpecial?_slot (name:=Str.ofString "__getitem__") a.typeIs PyProof.Rows.slot_tuple_getitem
  (wpAny_call_entry PyProof.Rows.slot_tuple_getitem a.typeIs entry_tuple_getitem ?_ (args_tuple_getitem _ _)))
 show wpAny _ _ (Builtin.Tuple.tupleItemsOf (.ref t)>>=_) _ _ s
 refine wpAny_bind (tupleItemsOf_ a ?_)
 refine wpAny_bind (wpAny_typeOf g ?_)
 rw[if_pos (by decide)]
 refine wpAny_bind (Ea k l n ?_)
 have b:(((CF items.size 0 lo:Nat):Int)==0&&(1:Int)==1&&(CF items.size items.size c-CF items.size 0 lo)==items.size)=true:=by
  rw[hw.1,hw.2]
  simp
 show wpAny _ _ (if(((CF items.size 0 lo:Nat):Int)==0&&(1:Int)==1&&(CF items.size items.size c-CF items.size 0 lo)==items.size)=true then _ else _) _ _ s
 rw[if_pos b]
 refine wpAny_bind (m:=Builtin.Tuple.tupleIsExact _) ?_
 unfold Builtin.Tuple.tupleIsExact
 first
  |refine wpAny_bind (wpAny_typeOf a.typeIs (wpAny_pure ?_))
  |refine wpAny_typeOf a.typeIs ?_
 rw[if_pos (by decide)]
 exact wpAny_bind (wpAny_rule (wpAny_pure ⟨_,rfl,wpAny_pure h⟩))
end
end HT
namespace L2
open PySem PySem.Spec PyProof.Rows
section
variable{X:Cx}
inductive Yw (x:V) (lo:Option Int) (b:Option Int) (H:Hp) (Q:VK):Prop
 |mk (a:_) (xs:_) (c:x=.ref a) (d:H a=some (.tup xs)) (e:∀p H',AG H H'->H' p=some (.tup (GA xs lo b))->Q (.ref p) H'):Yw x lo b H Q
def jm:V->Option Int->Option Int->Hp->VK->Prop:=fun x lo a H Q=>Yw x lo a H Q
theorem CP:di X jm:=by
 intro pins s l H x v m n lo e o Q I f g i j h
 obtain⟨a,b,rfl,c,q⟩:=h
 by_cases hw:HT.CF b.length 0 lo=0/\HT.CF b.length b.length e=b.length
 ·cases f
  obtain⟨d,r,k,u⟩:=I.tuple (Ap.of c)
  have hlen:d.toArray.size=b.length:=by rw[List.size_toArray];exact r.length.symm
  refine⟨"tuple",_,PyProof.Rows.slot_tuple_getitem.lookup,k.typeIs,?_⟩
  refine HT.Gx k g i j (by rw[hlen];exact hw) ⟨.ref a,H,I,rfl,q a H (AG.refl H) ?_⟩
  unfold GA
  rw[hw.1,hw.2,List.drop_zero,Nat.sub_zero,List.take_length]
  exact c
 ·exact Zy pins s l H (.ref a) v m n lo e o Q I f g i j ⟨a,b,rfl,Ap.of c,hw,fun p t=>q p _ (AG.new t) AE⟩
theorem JI (l:List V) (k:Nat):GA l none (some (k:Int))=l.take k:=by
 unfold GA
 rw[HT.QQ]
 show(l.drop 0).take (min k l.length-0)=_
 rw[List.drop_zero,Nat.sub_zero,List.take_eq_take_min]
 simp
theorem Hr (l:List V) (k:Nat):GA l (some (k:Int)) none=l.drop k:=by
 unfold GA
 rw[HT.QQ]
 show(l.drop (min k l.length)).take (l.length-min k l.length)=_
 have:(l.drop (min k l.length)).length=l.length-min k l.length:=List.length_drop
 rw[<-this,List.take_length]
 by_cases h:k<=l.length
 ·rw[Nat.min_eq_left h]
 ·rw[Nat.min_eq_right (by lia),List.drop_eq_nil_of_le (by lia),List.drop_eq_nil_of_le (by lia)]
end
inductive NG (H:Hp):V->String->Prop where
 |BL:NG H .BL "NoneType"
 |bl (b:Bool):NG H (.bl b) "bool"
 |int (i:Int):NG H (.int i) "int"
 |str (x:Str):NG H (.str x) "str"
 |lst {a:Addr} {xs:List V} (e:Rd H a (.lst xs)):NG H (.ref a) "list"
 |tup {a:Addr} {xs:List V} (e:H a=some (.tup xs)):NG H (.ref a) "tuple"
 |dK {a:Addr} {kvs:List (Key×V)} (e:Rd H a (.dK kvs)):NG H (.ref a) "dict"
theorem Rd.up {H H':Hp} {a:Addr} {u:HO} (h:Rd H a u) (s:∀o,H a=some o->H' a=some o):Rd H' a u:=by
 rcases h with h|⟨o,h⟩
 ·exact .inl (s _ h)
 ·exact .inr ⟨o,s _ h⟩
def Wy (T c:String):Bool:=T==c||(T=="bool"&&c=="int")
def Wz (c:String):Bool:=["int","bool","str","list","tuple","dict"].contains c
theorem W_ {K:AAE} {H:Hp} {v:V} {T c:String} (h:NG H v T) (a:Wz c=true):PySem.W.kitOne K (.type T) (.type c)=some (Wy T c):=by
 have a:c="int"∨c="bool"∨c="str"∨c="list"∨c="tuple"∨c="dict":=by
  unfold Wz at a
  simpa using a
 cases h<;>rcases a with rfl|rfl|rfl|rfl|rfl|rfl<;>kernel_rfl
section
variable{X:Cx}
inductive Yx (xs:List V) (H:Hp) (Q:VK):Prop
 |mk (x:_) (c:_) (T:_) (a:xs=[x,.ty c]) (b:Wz c=true) (d:NG H x T) (e:Q (.bl (Wy T c)) H):Yx xs H Q
def eG:List V->Hp->VK->Prop:=fun a H Q=>Yx a H Q
theorem Tu {pins:List (Addr×Obj)} {σ:St} {H:Hp} {s:Shared} {A:Around} {E:Value->Shared->Prop} {Q:Value->Shared->Prop} {x:V} {u:Value} {T c:String} {b:Bool} (I:Inv X pins σ H s) (d:RelV x u) (ty:NG H x T) (e:PySem.W.kitOne X.K (.type T) (.type c)=some b) (h:∀tk,Q (.bool b) {s with toks:=tk}):
  wpAny (model X.prog X.w) A (call (.builtin "isinstance") [u,.type c]) Q E s:=by
 cases ty with
 |BL=>exact EY I d .BL e h
 |bl y=>exact EY I d (.bl y) e h
 |int i=>exact EY I d (.int i) e h
 |str y=>exact EY I d (.str y) e h
 |tup f=>exact EY I d (.tup f) e h
 |@lst a j f=>
  cases(show u=Value.ref a from d)
  obtain⟨_,_,n,_,g⟩:=(show BM X.prog X.w H s.heap a (.lst j)from f.ok I.BV)
  exact PySem.W.kia_one PySem.W.kitx_list I.IU ⟨_,g,rfl⟩ e (fun z=>nomatch z) h
 |@dK a kvs f=>
  cases(show u=Value.ref a from d)
  obtain⟨_,_,l,_,p⟩:=(show BM X.prog X.w H s.heap a (.dK kvs)from f.ok I.BV)
  obtain⟨o,m,q,g,k,_⟩:=p
  exact PySem.W.kia_one PySem.W.kitx_dict I.IU ⟨o,g,k.1⟩ e (fun z=>nomatch z) h
theorem Ah:EX X (.builtin "isinstance") eG:=by
 intro pins s f H g i Q I r h
 obtain⟨x,c,T,rfl,b,ty,q⟩:=h
 obtain⟨u,j,rfl,d,a⟩:=vals2 r
 cases a
 exact Tu I d ty (W_ ty b) fun e=>⟨.bl _,H,I.tok e,rfl,q⟩
end
open Builtin Builtin.Str
abbrev sgn (x:Str):List Nat:=x.cps.toList
def W':List Nat:=sgn "abcdefghijklmnopqrstuvwxyz"
def Sz (c:Nat):Bool:=decide (c∈W')
theorem Jl (x:Str):(sgn x).length=x.length:=by
 show x.cps.toList.length=x.cps.size
 exact Array.length_toList
theorem DH (x y:Str):sgn (x++y)=sgn x++sgn y:=by
 show(x.cps++y.cps).toList=_
 exact Array.toList_append
theorem DJ (x:Str) (l u:Option Int):sgn (Txt.slice x l u)=ML (sgn x) l u:=Nj x l u
def Nm (l:List Nat):Bool:=decide (1<=l.length)&&decide (l.length<=8)&&l.all Sz
def BS (x:Str):Bool:=Nm (sgn x)
theorem Nn (ys:List Str):sgn (Txt.join "" ys)=(ys.map sgn).flatten:=by
 have h:∀ys:List Str,sgn (Str.join "" ys)=(ys.map sgn).flatten:=by
  intro ys
  induction ys with
  |nil=>rfl
  |cons x r a=>
   cases r with
   |nil=>
    show sgn x=_
    simp
   |cons y r=>
    show sgn (x++""++Str.join "" (y::r))=_
    rw[DH,DH,a]
    have:sgn ("":Str)=[]:=by decide
    rw[this]
    simp
 show sgn (Builtin.Str.glued "" ys)=_
 rw[StrLaws.glued_eq_join]
 exact h ys
theorem QU (n d k:Nat):HT.CF n d (some (k:Int))=min k n:=by
 show(if(k:Int)<0 then((k:Int)+(n:Int)).toNat else min (k:Int).toNat n)=min k n
 rw[if_neg (by lia),Int.toNat_natCast]
theorem Jm (l:List Nat) (k:Nat):ML l none (some (k:Int))=l.take k:=by
 unfold ML
 have e:=QU l.length l.length k
 rw[e]
 show(l.drop 0).take (min k l.length-0)=_
 rw[List.drop_zero,Nat.sub_zero,List.take_eq_take_min]
 simp
theorem Tv (l:List Nat) (k:Nat):ML l (some (k:Int)) none=l.drop k:=by
 unfold ML
 have e:=QU l.length 0 k
 rw[e]
 show(l.drop (min k l.length)).take (l.length-min k l.length)=_
 have:(l.drop (min k l.length)).length=l.length-min k l.length:=List.length_drop
 rw[<-this,List.take_length]
 by_cases h:k<=l.length
 ·rw[Nat.min_eq_left h]
 ·rw[Nat.min_eq_right (by lia),List.drop_eq_nil_of_le (by lia),List.drop_eq_nil_of_le (by lia)]
theorem XA (l:List Nat) (a b:Nat) (c:a<=b) (d:b<=l.length):ML l (some (a:Int)) (some (b:Int))=(l.take b).drop a:=by
 unfold ML
 have e:HT.CF l.length 0 (some (a:Int))=a:=(QU _ _ a).trans (Nat.min_eq_left (by lia))
 have f:HT.CF l.length l.length (some (b:Int))=b:=(QU _ _ b).trans (Nat.min_eq_left d)
 rw[e,f,List.drop_take]
theorem Gy {l:List Nat} {p:Nat->Bool} (h:l.all p=true) (k:Nat):(l.take k).all p=true:=by
 rw[List.all_eq_true]at h⊢
 exact fun x a=>h x (List.mem_of_mem_take a)
theorem Np {l:List Nat} {p:Nat->Bool} (h:l.all p=true) (k:Nat):(l.drop k).all p=true:=by
 rw[List.all_eq_true]at h⊢
 exact fun x a=>h x (List.mem_of_mem_drop a)
theorem Jn {c:Nat} (h:c∈W'):Sz c=true:=decide_eq_true h
theorem Nq {l:List Nat} (a:1<=l.length) (b:l.length<=8) (c:l.all Sz=true):Nm l=true:=by
 unfold Nm
 simp only[Bool.and_eq_true,decide_eq_true_eq]
 exact⟨⟨a,b⟩,c⟩
inductive Dc where
 |leaf (v:V)
 |row (a:Addr) (xs:List Dc)
 |tab (a:Addr) (ks:List Str) (xs:List Dc)
namespace Dc
def val:Dc->V
 |leaf v=>v
 |row a _=>.ref a
 |tab a _ _=>.ref a
mutual
def addrs:Dc->List Addr
 |leaf _=>[]
 |row a xs=>a::AH xs
 |tab a _ xs=>a::AH xs
def AH:List Dc->List Addr
 |[]=>[]
 |x::r=>addrs x++AH r
end
mutual
def size:Dc->Nat
 |leaf _=>1
 |row _ xs=>1+Ae xs
 |tab _ _ xs=>1+Ae xs
def Ae:List Dc->Nat
 |[]=>0
 |x::r=>size x+Ae r
end
def Lf (v:V):Prop:=(∃i,v=.int i)∨∃x:Str,v=.str x/\x.length<=100
def kvs (ks:List Str) (xs:List Dc):List (Key×V):=(ks.zip (xs.map val)).map fun p=>(Sum.inr p.1,p.2)
mutual
def At (H:Hp):Dc->Prop
 |leaf v=>Lf v
 |row a xs=>Rd H a (.lst (xs.map val))/\CY H xs
 |tab a ks xs=>Rd H a (.dK (kvs ks xs))/\ks.length=xs.length/\ks.Nodup/\CY H xs
def CY (H:Hp):List Dc->Prop
 |[]=>True
 |x::r=>At H x/\CY H r
end
mutual
def put (b:Addr) (i:Nat) (k:Str) (p:Dc):Dc->Dc
 |leaf v=>leaf v
 |row a xs=>if a=b then row a (xs.take i++p::xs.drop i)else row a (putL b i k p xs)
 |tab a ks xs=>if a=b then tab a (ks++[k]) (xs++[p])else tab a ks (putL b i k p xs)
def putL (b:Addr) (i:Nat) (k:Str) (p:Dc):List Dc->List Dc
 |[]=>[]
 |x::r=>put b i k p x::putL b i k p r
end
theorem size_pos (d:Dc):1<=d.size:=by
 cases d<;>simp only[size]<;>lia
theorem IW (b:Addr) (i:Nat) (k:Str) (p:Dc):∀xs,(putL b i k p xs).length=xs.length
 |[]=>rfl
 |x::r=>by simp only[putL,List.length_cons,IW b i k p r]
theorem QV (b:Addr) (i:Nat) (k:Str) (p d:Dc):(put b i k p d).val=d.val:=by
 cases d with
 |leaf v=>rfl
 |row a c=>simp only[put];split<;>rfl
 |tab a e c=>simp only[put];split<;>rfl
theorem Jo (b:Addr) (i:Nat) (k:Str) (p:Dc):∀xs,(putL b i k p xs).map val=xs.map val
 |[]=>rfl
 |x::r=>by simp only[putL,List.map_cons,QV,Jo b i k p r]
theorem AU:∀xs ys:List Dc,AH (xs++ys)=AH xs++AH ys
 |[],_=>rfl
 |x::r,ys=>by simp only[List.cons_append,AH,AU r ys,List.append_assoc]
theorem BP:∀xs ys:List Dc,Ae (xs++ys)=Ae xs+Ae ys
 |[],ys=>by simp[Ae]
 |x::r,ys=>by simp only[List.cons_append,Ae,BP r ys];lia
theorem Bi {H:Hp}:∀xs ys:List Dc,CY H (xs++ys)↔CY H xs/\CY H ys
 |[],ys=>by simp[CY]
 |x::r,ys=>by simp only[List.cons_append,CY,Bi r ys,and_assoc]
theorem CD {H:Hp}:∀{xs:List Dc},CY H xs->∀x∈xs,At H x
 |[],_,x,a=>nomatch a
 |y::r,h,x,a=>by
  simp only[CY]at h
  rcases List.mem_cons.mp a with rfl|a
  ·exact h.1
  ·exact CD h.2 x a
theorem Bn:∀{xs:List Dc} {x:Dc},x∈xs->x.size<=Ae xs
 |[],_,h=>nomatch h
 |y::r,x,h=>by
  simp only[Ae]
  rcases List.mem_cons.mp h with rfl|h
  ·lia
  ·have:=Bn h
   lia
theorem GK:∀{xs:List Dc} {x:Dc} {a:Addr},x∈xs->a∈x.addrs->a∈AH xs
 |[],_,_,h,_=>nomatch h
 |y::r,x,a,h,b=>by
  simp only[AH]
  rcases List.mem_cons.mp h with rfl|h
  ·exact List.mem_append_left _ b
  ·exact List.mem_append_right _ (GK h b)
mutual
theorem Bk {H H':Hp}:∀d:Dc,(∀a∈d.addrs,∀o,H a=some o->H' a=some o)->d.At H->d.At H'
 |leaf v,_,h=>h
 |row a xs,f,h=>by
  simp only[At]at h⊢
  exact⟨h.1.up (f a (by simp[addrs])),BJ xs (fun c b=>f c (by simp only[addrs];exact List.mem_cons_of_mem _ b)) h.2⟩
 |tab a ks xs,f,h=>by
  simp only[At]at h⊢
  exact⟨h.1.up (f a (by simp[addrs])),h.2.1,h.2.2.1,BJ xs (fun c b=>f c (by simp only[addrs];exact List.mem_cons_of_mem _ b)) h.2.2.2⟩
theorem BJ {H H':Hp}:∀xs:List Dc,(∀a∈AH xs,∀o,H a=some o->H' a=some o)->CY H xs->CY H' xs
 |[],_,h=>h
 |x::r,f,h=>by
  simp only[CY]at h⊢
  exact⟨Bk x (fun c b=>f c (by simp only[AH];exact List.mem_append_left _ b)) h.1,BJ r (fun c b=>f c (by simp only[AH];exact List.mem_append_right _ b)) h.2⟩
end
mutual
theorem QW {H H':Hp}:∀d:Dc,(∀a∈d.addrs,∀u,Rd H a u->Rd H' a u)->d.At H->d.At H'
 |leaf v,_,h=>h
 |row a xs,f,h=>by
  simp only[At]at h⊢
  exact⟨f a (by simp[addrs]) _ h.1,Jp xs (fun c b=>f c (by simp only[addrs];exact List.mem_cons_of_mem _ b)) h.2⟩
 |tab a ks xs,f,h=>by
  simp only[At]at h⊢
  exact⟨f a (by simp[addrs]) _ h.1,h.2.1,h.2.2.1,Jp xs (fun c b=>f c (by simp only[addrs];exact List.mem_cons_of_mem _ b)) h.2.2.2⟩
theorem Jp {H H':Hp}:∀xs:List Dc,(∀a∈AH xs,∀u,Rd H a u->Rd H' a u)->CY H xs->CY H' xs
 |[],_,h=>h
 |x::r,f,h=>by
  simp only[CY]at h⊢
  exact⟨QW x (fun c b=>f c (by simp only[AH];exact List.mem_append_left _ b)) h.1,Jp r (fun c b=>f c (by simp only[AH];exact List.mem_append_right _ b)) h.2⟩
end
theorem Ad {H H':Hp} {d:Dc} (s:AG H H') (h:d.At H):d.At H':=Bk d (fun a _ o e=>s a o e) h
mutual
theorem QX {b:Addr} {i:Nat} {k:Str} {p:Dc}:∀d:Dc,b∉d.addrs->put b i k p d=d
 |leaf v,_=>rfl
 |row a xs,h=>by
  simp only[addrs,List.mem_cons,not_or]at h
  simp only[put]
  rw[if_neg (fun e=>h.1 e.symm),Gz xs h.2]
 |tab a ks xs,h=>by
  simp only[addrs,List.mem_cons,not_or]at h
  simp only[put]
  rw[if_neg (fun e=>h.1 e.symm),Gz xs h.2]
theorem Gz {b:Addr} {i:Nat} {k:Str} {p:Dc}:∀xs:List Dc,b∉AH xs->putL b i k p xs=xs
 |[],_=>rfl
 |x::r,h=>by
  simp only[AH,List.mem_append,not_or]at h
  simp only[putL]
  rw[QX x h.1,Gz r h.2]
end
theorem Dw (xs:List Dc) (i:Nat):Ae (xs.take i)+Ae (xs.drop i)=Ae xs:=by
 rw[<-BP,List.take_append_drop]
mutual
theorem Nr {b:Addr} {i:Nat} {k:Str} {p:Dc}:∀d:Dc,b∈d.addrs->d.addrs.Nodup->(put b i k p d).size=d.size+p.size
 |leaf v,h,_=>by simp[addrs]at h
 |row a xs,h,n=>by
  simp only[addrs,List.mem_cons]at h
  simp only[addrs,List.nodup_cons]at n
  simp only[put]
  by_cases e:a=b
  ·rw[if_pos e]
   simp only[size,BP,Ae]
   have:=Dw xs i
   lia
  ·rw[if_neg e]
   simp only[size]
   rw[Hs xs (h.resolve_left fun z=>e z.symm) n.2]
   lia
 |tab a c xs,h,n=>by
  simp only[addrs,List.mem_cons]at h
  simp only[addrs,List.nodup_cons]at n
  simp only[put]
  by_cases e:a=b
  ·rw[if_pos e]
   simp only[size,BP,Ae]
   lia
  ·rw[if_neg e]
   simp only[size]
   rw[Hs xs (h.resolve_left fun z=>e z.symm) n.2]
   lia
theorem Hs {b:Addr} {i:Nat} {k:Str} {p:Dc}:∀xs:List Dc,b∈AH xs->(AH xs).Nodup->Ae (putL b i k p xs)=Ae xs+p.size
 |[],h,_=>by simp[AH]at h
 |x::r,h,n=>by
  simp only[AH]at h n
  obtain⟨c,d,e⟩:=List.nodup_append.mp n
  simp only[putL,Ae]
  by_cases a:b∈x.addrs
  ·have f:b∉AH r:=fun z=>e b a b z rfl
   rw[Nr x a c,Gz r f]
   lia
  ·rw[QX x a,Hs r ((List.mem_append.mp h).resolve_left a) d]
   lia
end
mutual
theorem DK {b:Addr} {i:Nat} {k:Str} {p:Dc}:∀(d:Dc) (c:Addr),(c∈(put b i k p d).addrs->c∈d.addrs∨(b∈d.addrs/\c∈p.addrs))/\(c∈d.addrs->c∈(put b i k p d).addrs)/\(b∈d.addrs->c∈p.addrs->c∈(put b i k p d).addrs)
 |leaf v,c=>by simp[put,addrs]
 |row a xs,c=>by
  have f:=Ci (b:=b) (i:=i) (k:=k) (p:=p) xs c
  simp only[put]
  by_cases e:a=b
  ·rw[if_pos e]
   have j:AH xs=AH (xs.take i)++AH (xs.drop i):=by rw[<-AU,List.take_append_drop]
   simp only[addrs,AU,AH,List.mem_cons,List.mem_append]
   rw[j]
   simp only[List.mem_append]
   subst e
   refine⟨?_,?_,?_⟩
   ·rintro(h|h|h|h)
    ·exact .inl (.inl h)
    ·exact .inl (.inr (.inl h))
    ·exact .inr ⟨.inl rfl,h⟩
    ·exact .inl (.inr (.inr h))
   ·rintro(h|h|h)
    ·exact .inl h
    ·exact .inr (.inl h)
    ·exact .inr (.inr (.inr h))
   ·intro _ h
    exact .inr (.inr (.inl h))
  ·rw[if_neg e]
   simp only[addrs,List.mem_cons]
   refine⟨?_,?_,?_⟩
   ·rintro(h|h)
    ·exact .inl (.inl h)
    ·exact(f.1 h).imp .inr fun z=>⟨.inr z.1,z.2⟩
   ·rintro(h|h)
    ·exact .inl h
    ·exact .inr (f.2.1 h)
   ·rintro(h|h) g
    ·exact absurd h.symm e
    ·exact .inr (f.2.2 h g)
 |tab a l xs,c=>by
  have f:=Ci (b:=b) (i:=i) (k:=k) (p:=p) xs c
  simp only[put]
  by_cases e:a=b
  ·rw[if_pos e]
   simp only[addrs,AU,AH,List.mem_cons,List.mem_append,List.append_nil]
   subst e
   refine⟨?_,?_,?_⟩
   ·rintro(h|h|h)
    ·exact .inl (.inl h)
    ·exact .inl (.inr h)
    ·exact .inr ⟨.inl rfl,h⟩
   ·rintro(h|h)
    ·exact .inl h
    ·exact .inr (.inl h)
   ·intro _ h
    exact .inr (.inr h)
  ·rw[if_neg e]
   simp only[addrs,List.mem_cons]
   refine⟨?_,?_,?_⟩
   ·rintro(h|h)
    ·exact .inl (.inl h)
    ·exact(f.1 h).imp .inr fun z=>⟨.inr z.1,z.2⟩
   ·rintro(h|h)
    ·exact .inl h
    ·exact .inr (f.2.1 h)
   ·rintro(h|h) g
    ·exact absurd h.symm e
    ·exact .inr (f.2.2 h g)
theorem Ci {b:Addr} {i:Nat} {k:Str} {p:Dc}:∀(xs:List Dc) (c:Addr),(c∈AH (putL b i k p xs)->c∈AH xs∨(b∈AH xs/\c∈p.addrs))/\(c∈AH xs->c∈AH (putL b i k p xs))/\(b∈AH xs->c∈p.addrs->c∈AH (putL b i k p xs))
 |[],c=>by simp[putL,AH]
 |x::r,c=>by
  have a:=DK (b:=b) (i:=i) (k:=k) (p:=p) x c
  have d:=Ci (b:=b) (i:=i) (k:=k) (p:=p) r c
  simp only[putL,AH,List.mem_append]
  refine⟨?_,?_,?_⟩
  ·rintro(h|h)
   ·exact(a.1 h).imp .inl fun z=>⟨.inl z.1,z.2⟩
   ·exact(d.1 h).imp .inr fun z=>⟨.inr z.1,z.2⟩
  ·rintro(h|h)
   ·exact .inl (a.2.1 h)
   ·exact .inr (d.2.1 h)
  ·rintro(h|h) e
   ·exact .inl (a.2.2 h e)
   ·exact .inr (d.2.2 h e)
end
mutual
theorem LJ {b:Addr} {i:Nat} {k:Str} {p:Dc} (o:p.addrs.Nodup):∀d:Dc,d.addrs.Nodup->(∀c∈d.addrs,c∉p.addrs)->(put b i k p d).addrs.Nodup
 |leaf v,n,_=>n
 |row a xs,n,j=>by
  simp only[addrs,List.nodup_cons]at n
  simp only[put]
  by_cases e:a=b
  ·rw[if_pos e]
   simp only[addrs,AU,AH]
   have q:AH xs=AH (xs.take i)++AH (xs.drop i):=by rw[<-AU,List.take_append_drop]
   rw[q]at n
   have m:∀c,c∈AH (xs.take i)++AH (xs.drop i)->c∉p.addrs:=fun c f=>j c (by simp only[addrs];rw[q];exact List.mem_cons_of_mem _ f)
   obtain⟨s,t,u⟩:=List.nodup_append.mp n.2
   refine List.nodup_cons.mpr ⟨fun h=>?_,List.nodup_append.mpr ⟨s,List.nodup_append.mpr ⟨o,t,fun c f r l g=>?_⟩,fun c f r l g=>?_⟩⟩
   ·simp only[List.mem_append]at h
    rcases h with h|h|h
    ·exact n.1 (List.mem_append_left _ h)
    ·exact j a (by simp[addrs]) h
    ·exact n.1 (List.mem_append_right _ h)
   ·subst g
    exact m c (List.mem_append_right _ l) f
   ·subst g
    rcases List.mem_append.mp l with l|l
    ·exact m c (List.mem_append_left _ f) l
    ·exact u c f c l rfl
  ·rw[if_neg e]
   simp only[addrs]
   refine List.nodup_cons.mpr ⟨fun h=>?_,GL o xs n.2 fun c f=>j c (by simp only[addrs];exact List.mem_cons_of_mem _ f)⟩
   rcases(Ci xs a).1 h with h|h
   ·exact n.1 h
   ·exact j a (by simp[addrs]) h.2
 |tab a w xs,n,j=>by
  simp only[addrs,List.nodup_cons]at n
  simp only[put]
  by_cases e:a=b
  ·rw[if_pos e]
   simp only[addrs,AU,AH,List.append_nil]
   refine List.nodup_cons.mpr ⟨fun h=>?_,List.nodup_append.mpr ⟨n.2,o,fun c f r l g=>?_⟩⟩
   ·rcases List.mem_append.mp h with h|h
    ·exact n.1 h
    ·exact j a (by simp[addrs]) h
   ·subst g
    exact j c (by simp only[addrs];exact List.mem_cons_of_mem _ f) l
  ·rw[if_neg e]
   simp only[addrs]
   refine List.nodup_cons.mpr ⟨fun h=>?_,GL o xs n.2 fun c f=>j c (by simp only[addrs];exact List.mem_cons_of_mem _ f)⟩
   rcases(Ci xs a).1 h with h|h
   ·exact n.1 h
   ·exact j a (by simp[addrs]) h.2
theorem GL {b:Addr} {i:Nat} {k:Str} {p:Dc} (l:p.addrs.Nodup):∀xs:List Dc,(AH xs).Nodup->(∀c∈AH xs,c∉p.addrs)->(AH (putL b i k p xs)).Nodup
 |[],n,_=>n
 |x::r,n,d=>by
  simp only[AH]at n d
  obtain⟨q,s,m⟩:=List.nodup_append.mp n
  simp only[putL,AH]
  have t:=LJ (b:=b) (i:=i) (k:=k) l x q fun c f=>d c (List.mem_append_left _ f)
  have u:=GL (b:=b) (i:=i) (k:=k) l r s fun c f=>d c (List.mem_append_right _ f)
  refine List.nodup_append.mpr ⟨t,u,fun c f e o g=>?_⟩
  subst g
  rcases(DK x c).1 f with h|⟨v,h⟩
  ·rcases(Ci r c).1 o with a|⟨_,a⟩
   ·exact m c h c a rfl
   ·exact d c (List.mem_append_left _ h) a
  ·rcases(Ci r c).1 o with a|⟨j,a⟩
   ·exact d c (List.mem_append_right _ a) h
   ·exact m b v b j rfl
end
theorem Jq {ks:List Str} {xs:List Dc} (k:Str) (p:Dc) (h:ks.length=xs.length):kvs (ks++[k]) (xs++[p])=kvs ks xs++[(Sum.inr k,p.val)]:=by
 unfold kvs
 rw[List.map_append,List.zip_append (by rw[List.length_map];exact h),List.map_append]
 rfl
theorem CZ {ks:List Str} {xs:List Dc} (h:ks.length=xs.length):(kvs ks xs).map (·.1)=ks.map Sum.inr:=by
 unfold kvs
 rw[List.map_map]
 have:(fun p:Str×V=>(Sum.inr p.1:Key))=(Sum.inr:Str->Key)∘Prod.fst:=rfl
 show List.map ((fun p:Key×V=>p.1)∘fun p:Str×V=>(Sum.inr p.1,p.2)) (ks.zip (xs.map val))=_
 have e:((fun p:Key×V=>p.1)∘fun p:Str×V=>((Sum.inr p.1:Key),p.2))=(Sum.inr:Str->Key)∘Prod.fst:=rfl
 rw[e,<-List.map_map,List.map_fst_zip (by rw[List.length_map];lia)]
mutual
theorem Tw {H H':Hp} {b:Addr} {i:Nat} {k:Str} {p:Dc} (r:p.At H') (g:∀s,Rd H b (.lst s)->H' b=some (.lst (s.take i++p.val::s.drop i)))
  (j:∀t,Rd H b (.dK t)->(Sum.inr k:Key)∉t.map (·.1)/\H' b=some (.dK (t++[(Sum.inr k,p.val)]))):
  ∀d:Dc,(∀a∈d.addrs,a≠b->∀o,H a=some o->H' a=some o)->d.addrs.Nodup->d.At H->(put b i k p d).At H'
 |leaf v,_,_,h=>h
 |row a xs,f,n,h=>by
  simp only[addrs,List.nodup_cons]at n
  simp only[At]at h
  simp only[put]
  by_cases e:a=b
  ·rw[if_pos e]
   subst e
   have keep:CY H' xs:=BJ xs (fun c l=>f c (by simp only[addrs];exact List.mem_cons_of_mem _ l) fun z=>n.1 (z▸l)) h.2
   simp only[At]
   have m:CY H' (xs.take i)/\CY H' (xs.drop i):=(Bi _ _).mp (by rw[List.take_append_drop];exact keep)
   refine⟨?_,(Bi _ _).mpr ⟨m.1,by simp only[CY];exact⟨r,m.2⟩⟩⟩
   refine .inl ?_
   rw[g _ h.1,List.map_append,List.map_cons,List.map_take,List.map_drop]
  ·rw[if_neg e]
   simp only[At]
   refine⟨?_,MO r g j xs (fun c l=>f c (by simp only[addrs];exact List.mem_cons_of_mem _ l)) n.2 h.2⟩
   rw[Jo]
   exact h.1.up (f a (by simp[addrs]) e)
 |tab a m xs,f,n,h=>by
  simp only[addrs,List.nodup_cons]at n
  simp only[At]at h
  simp only[put]
  by_cases e:a=b
  ·rw[if_pos e]
   subst e
   have keep:CY H' xs:=BJ xs (fun c l=>f c (by simp only[addrs];exact List.mem_cons_of_mem _ l) fun z=>n.1 (z▸l)) h.2.2.2
   simp only[At]
   obtain⟨u,d⟩:=j _ h.1
   rw[CZ h.2.1]at u
   refine⟨by rw[Jq k p h.2.1];exact .inl d,by rw[List.length_append,List.length_append,h.2.1];rfl,?_,(Bi _ _).mpr ⟨keep,by simp only[CY];exact⟨r,trivial⟩⟩⟩
   refine List.nodup_append.mpr ⟨h.2.2.1,by simp,fun c l e w q=>?_⟩
   rw[List.mem_singleton.mp w]at q
   subst q
   exact u (List.mem_map.mpr ⟨c,l,rfl⟩)
  ·rw[if_neg e]
   simp only[At]
   refine⟨?_,by rw[IW];exact h.2.1,h.2.2.1,MO r g j xs (fun c l=>f c (by simp only[addrs];exact List.mem_cons_of_mem _ l)) n.2 h.2.2.2⟩
   have x:kvs m (putL b i k p xs)=kvs m xs:=by unfold kvs;rw[Jo]
   rw[x]
   exact h.1.up (f a (by simp[addrs]) e)
theorem MO {H H':Hp} {b:Addr} {i:Nat} {k:Str} {p:Dc} (m:p.At H') (d:∀g,Rd H b (.lst g)->H' b=some (.lst (g.take i++p.val::g.drop i)))
  (e:∀j,Rd H b (.dK j)->(Sum.inr k:Key)∉j.map (·.1)/\H' b=some (.dK (j++[(Sum.inr k,p.val)]))):
  ∀xs:List Dc,(∀a∈AH xs,a≠b->∀o,H a=some o->H' a=some o)->(AH xs).Nodup->CY H xs->CY H' (putL b i k p xs)
 |[],_,_,h=>h
 |x::r,f,n,h=>by
  simp only[AH]at n f
  obtain⟨q,s,t⟩:=List.nodup_append.mp n
  simp only[putL,CY]at h⊢
  exact⟨Tw m d e x (fun c l=>f c (List.mem_append_left _ l)) q h.1,MO m d e r (fun c l=>f c (List.mem_append_right _ l)) s h.2⟩
end
mutual
theorem Ht {H:Hp} {b:Addr}:∀d:Dc,d.At H->b∈d.addrs->(∃g,Rd H b (.lst g)/\g.length<d.size)∨∃ks:List Str,∃f,Rd H b (.dK f)/\f.map (·.1)=ks.map Sum.inr/\f.length<d.size
 |leaf v,_,h=>by simp[addrs]at h
 |row a xs,h,c=>by
  simp only[At]at h
  simp only[addrs,List.mem_cons]at c
  simp only[size]
  rcases c with rfl|c
  ·refine .inl ⟨_,h.1,?_⟩
   rw[List.length_map]
   have:=Es xs
   lia
  ·rcases GN xs h.2 c with⟨g,e,l⟩|⟨ks,f,e,z,l⟩
   ·exact .inl ⟨g,e,by lia⟩
   ·exact .inr ⟨ks,f,e,z,by lia⟩
 |tab a ks xs,h,c=>by
  simp only[At]at h
  simp only[addrs,List.mem_cons]at c
  simp only[size]
  rcases c with rfl|c
  ·refine .inr ⟨ks,_,h.1,CZ h.2.1,?_⟩
   have e:(kvs ks xs).length=ks.length:=by
    have:=congrArg List.length (CZ (ks:=ks) (xs:=xs) h.2.1)
    simpa using this
   rw[e,h.2.1]
   have:=Es xs
   lia
  ·rcases GN xs h.2.2.2 c with⟨g,e,l⟩|⟨ks,f,e,z,l⟩
   ·exact .inl ⟨g,e,by lia⟩
   ·exact .inr ⟨ks,f,e,z,by lia⟩
theorem GN {H:Hp} {b:Addr}:∀xs:List Dc,CY H xs->b∈AH xs->(∃c,Rd H b (.lst c)/\c.length<Ae xs)∨∃ks:List Str,∃a,Rd H b (.dK a)/\a.map (·.1)=ks.map Sum.inr/\a.length<Ae xs
 |[],_,h=>by simp[AH]at h
 |x::r,h,d=>by
  simp only[CY]at h
  simp only[AH,List.mem_append]at d
  simp only[Ae]
  rcases d with d|d
  ·rcases Ht x h.1 d with⟨c,e,l⟩|⟨ks,a,e,z,l⟩
   ·exact .inl ⟨c,e,by lia⟩
   ·exact .inr ⟨ks,a,e,z,by lia⟩
  ·rcases GN r h.2 d with⟨c,e,l⟩|⟨ks,a,e,z,l⟩
   ·exact .inl ⟨c,e,by lia⟩
   ·exact .inr ⟨ks,a,e,z,by lia⟩
theorem Es:∀xs:List Dc,xs.length<=Ae xs
 |[]=>Nat.le_refl _
 |x::r=>by
  have:=Es r
  have:=size_pos x
  simp only[Ae,List.length_cons]
  lia
end
end Dc
section
variable{X:Cx}
inductive LK (K:AAE) (x:V) (y:V) (H:Hp) (Q:VK):Prop
 |mk (a:Addr) (b:Addr) (xs:List V) (c:x=.ref a) (d:y=.ref b) (e:A_ K H a xs) (f:A_ K H b []) (g:Q (.bl xs.isEmpty) H):LK K x y H Q
def Tx (K:AAE):V->V->Hp->VK->Prop:=fun x y H Q=>LK K x y H Q
theorem PL (c:X.A.units<cLine):Ep X (compareOp .Eq) (Tx X.K):=by
 intro pins s w H x y v u Q I k l h
 obtain⟨a,b,m,rfl,rfl,n,o,q⟩:=h
 cases k
 cases l
 obtain⟨p,d,f,_⟩:=I.list n
 obtain⟨g,r,i,_⟩:=I.list o
 cases r
 have l1:=d.length
 cases m with
 |nil=>
  cases d
  exact SeqAt.eq_listAt (e:=fun _=>true) f.isList i.isList rfl c (fun j t _=>absurd t (by simp)) ⟨.bl true,H,I,rfl,q⟩
 |cons z B=>
  refine SeqAt.eq_list_lengthsAt f.isList i.isList ?_ c ⟨.bl false,H,I,rfl,q⟩
  rw[List.size_toArray,<-l1]
  simp
inductive LL (K:AAE) (x:V) (y:V) (H:Hp) (Q:VK):Prop
 |mk (a:Addr) (b:Addr) (xs:List V) (c:x=.ref a) (d:y=.ref b) (e:A_ K H a xs) (f:A_ K H b []) (g:Q (.bl (!xs.isEmpty)) H):LL K x y H Q
def Tz (K:AAE):V->V->Hp->VK->Prop:=fun x y H Q=>LL K x y H Q
theorem T_ (c:X.A.units<cLine):Ep X (compareOp .NotEq) (Tz X.K):=by
 intro pins s w H x y v u Q I k l h
 obtain⟨a,b,m,rfl,rfl,n,o,q⟩:=h
 cases k
 cases l
 obtain⟨p,d,f,_⟩:=I.list n
 obtain⟨g,r,i,_⟩:=I.list o
 cases r
 have l1:=d.length
 cases m with
 |nil=>
  cases d
  exact SeqAt.RcNeAt.lists (e:=fun _=>true) f.isList i.isList rfl c (fun j t _=>absurd t (by simp)) _ _ _ _ ⟨.bl false,H,I,rfl,q⟩
 |cons z B=>
  refine SeqAt.RcNeAt.lists_lengths f.isList i.isList ?_ c _ _ _ _ ⟨.bl true,H,I,rfl,q⟩
  rw[List.size_toArray,<-l1]
  simp
def Bz (xs ys:List V):Bool:=((List.range (min xs.length ys.length)).all fun j=>Kk (xs.getD j .BL) (ys.getD j .BL))&&xs.length==ys.length
inductive LM (K:AAE) (x:V) (y:V) (H:Hp) (Q:VK):Prop
 |mk (a:Addr) (b:Addr) (xs:List V) (ys:List V) (c:x=.ref a) (d:y=.ref b) (e:Ap K H a xs) (f:Ap K H b ys) (g:(∀z∈xs,BR z=true)) (h:(∀z∈ys,BR z=true)) (i:Q (.bl (Bz xs ys)) H):LM K x y H Q
def T' (K:AAE):V->V->Hp->VK->Prop:=fun x y H Q=>LM K x y H Q
theorem Hu (t:X.A.units<cLine):Ep X (compareOp .Eq) (T' X.K):=by
 intro pins s V H x y v u Q I w z h
 obtain⟨a,b,d,f,rfl,rfl,B,C,D,E,q⟩:=h
 cases w
 cases z
 obtain⟨k,l,F,_⟩:=I.tuple B
 obtain⟨c,m,G,_⟩:=I.tuple C
 have n:k.toArray.size=d.length:=by rw[List.size_toArray];exact l.length.symm
 have o:c.toArray.size=f.length:=by rw[List.size_toArray];exact m.length.symm
 refine SeqAt.eq_tupleAt (e:=fun j=>Kk (d.getD j .BL) (f.getD j .BL)) F G t (fun j J L=>?_) ?_
 ·have g:j<d.length:=by rw[<-n];exact J
  have i:j<f.length:=by rw[<-o];exact L
  obtain⟨p,M,N⟩:=l.get (AAA g)
  obtain⟨r,O,P⟩:=m.get (AAA i)
  have R:k.toArray[j]=p:=by
   have:=(AAB M).2
   simpa using this
  have S:c.toArray[j]=r:=by
   have:=(AAB O).2
   simpa using this
  rw[R,S]
  have T:d.getD j .BL=d[j]:=by rw[List.getD_eq_getElem?_getD,AAA g];rfl
  have U:f.getD j .BL=f[j]:=by rw[List.getD_eq_getElem?_getD,AAA i];rfl
  show SeqAt.EqAt _ _ p r (Kk (d.getD j .BL) (f.getD j .BL))
  rw[T,U]
  exact MG N P (D _ (List.getElem_mem g)) (E _ (List.getElem_mem i))
 ·rw[n,o]
  exact⟨.bl (Bz d f),H,I,rfl,q⟩
theorem PM {pins:List (Addr×Obj)} {σ:St} {H:Hp} {s:Shared} {A:Around} {E:Value->Shared->Prop} {Q:Value->Shared->Prop} {x:V} {u:Value} {T:String} {l:Addr} {m:Option Addr} {its:List Value} {n:Nat} {r:Array (Option Value)} {b:Bool}
  (I:Inv X pins σ H s) (d:RelV x u) (ty:NG H x T) (c:s.heap.get? l=some ⟨.type "tuple",m,.seq its.toArray n,r⟩) (e:PySem.W.kitAny X.K (.type T) its=some b) (h:∀tk,Q (.bool b) {s with toks:=tk}):
  wpAny (model X.prog X.w) A (call (.builtin "isinstance") [u,.ref l]) Q E s:=by
 cases ty with
 |BL=>cases(show u=Value.none from d);exact PySem.W.kia_tup PySem.W.kitx_none I.IU True.intro c e (fun z=>nomatch z) h
 |bl y=>cases(show u=Value.bool y from d);exact PySem.W.kia_tup PySem.W.kitx_bool I.IU True.intro c e (fun z=>nomatch z) h
 |int i=>obtain⟨t,q⟩:=(show∃t,u=Value.int i t from d);cases q;exact PySem.W.kia_tup PySem.W.kitx_int I.IU True.intro c e (fun z=>nomatch z) h
 |str y=>obtain⟨t,q⟩:=(show∃t,u=Value.str y t from d);cases q;exact PySem.W.kia_tup PySem.W.kitx_str I.IU True.intro c e (fun z=>nomatch z) h
 |@lst a j f=>
  cases(show u=Value.ref a from d)
  obtain⟨_,_,n,_,g⟩:=(show BM X.prog X.w H s.heap a (.lst j)from f.ok I.BV)
  exact PySem.W.kia_tup PySem.W.kitx_list I.IU ⟨_,g,rfl⟩ c e (fun z=>nomatch z) h
 |@tup a j f=>
  cases(show u=Value.ref a from d)
  obtain⟨_,_,_,p⟩:=(show BM X.prog X.w H s.heap a (.tup j)from I.BV a _ f)
  obtain⟨o,g,k,_⟩:=p
  exact PySem.W.kia_tup PySem.W.kitx_tuple I.IU ⟨o,g,k⟩ c e (fun z=>nomatch z) h
 |@dK a kvs f=>
  cases(show u=Value.ref a from d)
  obtain⟨_,_,v,_,p⟩:=(show BM X.prog X.w H s.heap a (.dK kvs)from f.ok I.BV)
  obtain⟨o,B,C,g,k,_⟩:=p
  exact PySem.W.kia_tup PySem.W.kitx_dict I.IU ⟨o,g,k.1⟩ c e (fun z=>nomatch z) h
def UA (T:String):Bool:=T=="list"||T=="dict"
theorem aL {K:AAE} {H:Hp} {v:V} {T:String} (h:NG H v T):PySem.W.kitAny K (.type T) [.type "list",.type "dict"]=some (UA T):=by
 cases h<;>kernel_rfl
inductive GC (xs:List V) (H:Hp) (Q:VK):Prop
 |mk (x:V) (p:Addr) (T:String) (a:xs=[x,.ref p]) (b:H p=some (.tup [.ty "list",.ty "dict"])) (c:NG H x T) (d:Q (.bl (UA T)) H):GC xs H Q
def MP:List V->Hp->VK->Prop:=fun a H Q=>GC a H Q
theorem GO:EX X (.builtin "isinstance") MP:=by
 intro pins s v H w y Q I r h
 obtain⟨x,p,T,rfl,e,ty,q⟩:=h
 obtain⟨u,z,rfl,f,a⟩:=vals2 r
 cases a
 obtain⟨g,i,j,_⟩:=I.tuple (Ap.of e)
 obtain⟨⟨k,A,data,B⟩,l,c,n,d⟩:=id j
 simp only at c d
 subst c d
 cases i with
 |cons m b=>
  cases b with
  |cons o b=>
   cases b
   cases m
   cases o
   exact PM I f ty l (aL ty) fun t=>⟨.bl _,H,I.tok t,rfl,q⟩
theorem RX {w:World} {P:Program} {b:List (Key×Value)} {d:List Str} (c:b.map (·.1)=d.map Sum.inr) {ws:List Value} (f:ws.length=b.length)
  (m:∀(j:Nat) (v:Value),ws[j]?=some v->∃k x,b[j]?=some (k,x)/\(A' P w).is k v=true):StrsAre ws d:=by
 induction d generalizing b ws with
 |nil=>
  have:b=[]:=by cases b with|nil=>rfl|cons a r=>simp at c
  subst this
  have:ws=[]:=List.eq_nil_of_length_eq_zero f
  subst this
  exact .nil
 |cons x r n=>
  cases b with
  |nil=>simp at c
  |cons a b=>
   simp only[List.map_cons,List.cons.injEq]at c
   cases ws with
   |nil=>simp at f
   |cons u ws=>
    obtain⟨k,y,e,g⟩:=m 0 u rfl
    have e:a=(k,y):=by simpa using e
    subst e
    have h:k=Sum.inr x:=c.1
    subst h
    have g:JT (Sum.inr x) u=true:=g
    rcases Bc g with⟨i,t,l,_⟩|⟨z,t,l,o⟩
    ·cases l
    ·cases l
     subst o
     exact .cons _ t (n c.2 (by simpa using f) fun j v p=>m (j+1) v (by simpa using p))
theorem RY {a:List Value} {ys:List Str} (h:StrsAre a ys):Vals (ys.map V.str) a:=by
 induction h with
 |nil=>exact .nil
 |cons n t _ b=>exact .cons ⟨t,rfl⟩ b
inductive FE (xs:List V) (H:Hp) (Q:VK):Prop
 |mk (d:Addr) (b:List (Key×V)) (c:List Str) (e:xs=[.ref d]) (f:Rd H d (.dK b)) (g:b.map (·.1)=c.map Sum.inr) (h:b.length<64) (i:∀(p:Addr) (a:List Str) (H':Hp),H p=none->AG H H'->H' p=some (.lst (a.map V.str))->a.Perm c->sortedS a=true->Q (.ref p) H'):FE xs H Q
def Jr:List V->Hp->VK->Prop:=fun a H Q=>FE a H Q
theorem Et (T:X.calm=true):EX X (.builtin "sorted") Jr:=by
 intro pins s σ H xs us Q I r h
 obtain⟨d,U,F,rfl,hd,G,p,q⟩:=h
 obtain⟨u,rfl,Y⟩:=vals1 r
 cases Y
 obtain⟨z,Z,k,l,dd⟩:=FT I.BV hd
 have t:X.A.in1.handled=none:=I.ok.hd T
 have n:k.length=U.length:=l.length.symm
 have x:k.map (·.1)=F.map Sum.inr:=by rw[<-G];exact(KV.keys l).symm
 obtain⟨ep,y⟩:=dd.dictAt
 have J:k.length<=sizeLine:=by rw[n];exact z
 refine Calls.call_function_entry kind_sorted plain_sorted entry_sorted (args_sorted1 _) ?_
 unfold Builtin.«sorted»
 refine wpAny_bind (m:=checkCount "sorted" 1 1 _) (wpAny_pure (wpAny_bind (PySem.W.kdu_collect (PySem.W.kdl_dict (knd:=A' X.prog X.w) (kvs:=k) (ep:=ep) Z) t y J fun c K a keep items=>?_)))
 have B:a.toList.length=k.length:=by rw[Array.length_toList];exact items.1
 have C:StrsAre a.toList F:=RX (P:=X.prog) (w:=X.w) x B fun j v e=>items.2 j v (by rw[<-Array.getElem?_toList];exact e)
 refine wpAny_bind (wpAny_newList ?_ (by rw[B];exact J))
 have f:(c.push {cls:=.type "list",data:=.seq a.toList.toArray}).get? c.objs.size=some (seqObj "list" a.toList.toArray 0):=Heap.get?_push_size _ rfl
 refine wpAny_bind (wpAny_holding (wpAny_call_entry slot_list_sort ⟨_,f,rfl⟩ entry_list_sort (list_sort_treeK strKind_oneLt f C.keysOf (fun L M rest e=>keyKind_strs (by rw[<-e];exact C)) (by rw[B,n];exact p) fun g a1 a2=>⟨_,rfl,?_⟩) (args_list_sort _)))
 obtain⟨i,b1,N,b3⟩:=sorted_out_str C a1 a2
 obtain⟨ee,he⟩:=sortedHeap_at (out:=(arrOf g).map (·.2)) f
 refine wpAny_pure ⟨_,rfl,?_⟩
 have D:(c.push {cls:=.type "list",data:=.seq a.toList.toArray}).objs.size=c.objs.size+1:=size_push' ..
 have O:=I.kept (t':=K) keep
 have k2:∀b o,c.get? b=some o->(sortedHeap (c.push {cls:=.type "list",data:=.seq a.toList.toArray}) c.objs.size a.toList ((arrOf g).map (·.2))).get? b=some o:=fun b o e=>by
  have R:b<c.objs.size:=Heap.lt_size e
  rw[sortedHeap_old (Nat.ne_of_lt R) (by rw[D];exact Nat.lt_succ_of_lt R)]
  exact Heap.get?_push_of_some _ e
 have E:i.length<=sizeLine:=by
  rw[N.length_eq]
  have:=congrArg List.length G
  rw[List.length_map,List.length_map]at this
  rw[<-this]
  exact z
 have new:BM X.prog X.w (upd H c.objs.size (.lst (i.map V.str))) (sortedHeap (c.push {cls:=.type "list",data:=.seq a.toList.toArray}) c.objs.size a.toList ((arrOf g).map (·.2))) c.objs.size (.lst (i.map V.str)):=
  ⟨by rw[List.length_map];exact E,((arrOf g).map (·.2)).toList,ee,RY b1,by rw[Array.toArray_toList];exact he⟩
 have S:H c.objs.size=none:=O.fresh
 exact⟨.ref c.objs.size,_,O.laid (t':=K) k2 (Nat.le_refl _) new,rfl,q _ i _ S (AG.new S) AE N b3⟩
end
structure Txt (mg:Str->Option Value):Prop where
 isinstance:mg "isinstance"=none
 int:mg "int"=none
 bool:mg "bool"=none
 str:mg "str"=none
 list:mg "list"=none
 dict:mg "dict"=none
 tuple:mg "tuple"=none
 len:mg "len"=none
 range:mg "range"=none
 max:mg "max"=none
 min:mg "min"=none
 sorted:mg "sorted"=none
 all:mg "all"=none
 any:mg "any"=none
 reversed:mg "reversed"=none
 ValueError:mg "ValueError"=none
 sum:mg "sum"=none
theorem AR:bootBuiltins "isinstance"=some (.builtin "isinstance"):=by decide+kernel
theorem Yy:bootBuiltins "int"=some (.type "int"):=by decide+kernel
theorem Nt:bootBuiltins "str"=some (.type "str"):=by decide+kernel
theorem Ct:bootBuiltins "list"=some (.type "list"):=by decide+kernel
theorem Cu:bootBuiltins "dict"=some (.type "dict"):=by decide+kernel
theorem G_:bootBuiltins "tuple"=some (.type "tuple"):=by decide+kernel
theorem eH:bootBuiltins "max"=some (.builtin "max"):=by decide+kernel
theorem eI:bootBuiltins "min"=some (.builtin "min"):=by decide+kernel
theorem Js:bootBuiltins "sorted"=some (.builtin "sorted"):=by decide+kernel
theorem Af {c:Bool} {A B:Prop} (a:c=false) (h:B):if c=true then A else B:=by
 rw[a]
 exact Au h
theorem Ay {c:Bool} {A B:Prop} (a:c=true) (h:A):if c=true then A else B:=by
 rw[a]
 exact BO h
theorem Ee {b:Type} {xs:List b} {i:Int} (c:0<=i) (d:i<(xs.length:Int)):∃v,NX xs i=some v/\v∈xs:=by
 obtain⟨n,rfl⟩:=Int.eq_ofNat_of_zero_le c
 have a:n<xs.length:=by lia
 exact⟨xs[n],Cb (AAA a),List.getElem_mem a⟩
inductive sf (P:Program) (w:World) (K:AAE) (mg:Str->Option Value) (base:Heap) (x:Str) (ps:List Str) (n:Nat) (sp:Sp):Prop
 |mk (f:Addr) (a:FuncData) (k:PySem.W.keepIn K (.ref f)=true) (b:Binds K a ps []) (m:mg x=some (.ref f)) (G:Bb P w K mg base Dk n f a ps sp):sf P w K mg base x ps n sp
structure Df (P:Program) (w:World) (K:AAE) (mg:Str->Option Value) (base:Heap) (x:Str) (ps:List Str) (n:Nat) (sp:Sp):Prop where
 ex:sf P w K mg base x ps n sp
theorem Df.mk' {P:Program} {w:World} {K:AAE} {mg:Str->Option Value} {base:Heap} {x q:Str} {st:Stmt} {ps:List Str} {n:Nat} {sp:Sp} {f:Addr} {a:FuncData} (F:EH K x q st f a) (b:Binds K a ps []) (m:mg x=some (.ref f)) (G:Bb P w K mg base Dk n f a ps sp):Df P w K mg base x ps n sp:=⟨⟨f,a,F.kp,b,m,G⟩⟩
theorem G' (r:Int) {n:Int} (h:0<n):0<=r % n/\r % n<n:=⟨Int.emod_nonneg _ (by lia),Int.emod_lt_of_pos _ h⟩
def aM (b:Addr) (H H':Hp):Prop:=∀a o,a≠b->H a=some o->H' a=some o
theorem aM.upd {b:Addr} {H:Hp} {o:HO}:aM b H (L2.upd H b o):=fun a u h e=>by rw[AN h];exact e
def XB (x:Str):Bool:=decide (x.length<=12)&&(sgn x).all Sz
def HA (v:V):Prop:=(∃i:Int,v=.int i/\i.natAbs<2 ^ 400)∨∃x:Str,v=.str x/\XB x=true
theorem Nu {x:Str} (h:XB x=true):x.length<=12:=by
 unfold XB at h
 simp only[Bool.and_eq_true,decide_eq_true_eq]at h
 exact h.1
theorem HA.lf {v:V} (h:HA v):Dc.Lf v:=by
 rcases h with⟨i,rfl,_⟩|⟨x,rfl,h⟩
 ·exact .inl ⟨i,rfl⟩
 ·exact .inr ⟨x,rfl,Nat.le_trans (Nu h) (by decide)⟩
namespace Dc
mutual
def ok:Dc->Prop
 |leaf v=>HA v
 |row _ xs=>Gd xs
 |tab _ ks xs=>(∀k∈ks,BS k=true)/\Gd xs
def Gd:List Dc->Prop
 |[]=>True
 |x::r=>ok x/\Gd r
end
theorem BC:∀{xs:List Dc},Gd xs↔∀x∈xs,ok x
 |[]=>by simp[Gd]
 |x::r=>by simp only[Gd,List.forall_mem_cons,BC (xs:=r)]
mutual
theorem UB {b:Addr} {i:Nat} {k:Str} {p:Dc} (e:p.ok) (f:BS k=true):∀d:Dc,d.ok->(put b i k p d).ok
 |leaf v,h=>h
 |row a xs,h=>by
  simp only[put]
  split
  ·simp only[ok]at h⊢
   rw[BC]at h⊢
   intro x c
   rcases List.mem_append.mp c with c|c
   ·exact h x (List.mem_of_mem_take c)
   ·rcases List.mem_cons.mp c with rfl|c
    ·exact e
    ·exact h x (List.mem_of_mem_drop c)
  ·simp only[ok]at h⊢
   exact MQ e f xs h
 |tab a ks xs,h=>by
  simp only[put]
  simp only[ok]at h
  split
  ·simp only[ok]
   refine⟨fun x c=>?_,?_⟩
   ·rcases List.mem_append.mp c with c|c
    ·exact h.1 x c
    ·rw[List.mem_singleton.mp c];exact f
   ·rw[BC]
    intro x c
    rcases List.mem_append.mp c with c|c
    ·exact BC.mp h.2 x c
    ·rw[List.mem_singleton.mp c];exact e
  ·simp only[ok]
   exact⟨h.1,MQ e f xs h.2⟩
theorem MQ {b:Addr} {i:Nat} {k:Str} {p:Dc} (a:p.ok) (c:BS k=true):∀xs:List Dc,Gd xs->Gd (putL b i k p xs)
 |[],h=>h
 |x::r,h=>by
  simp only[Gd,putL]at h⊢
  exact⟨UB a c x h.1,MQ a c r h.2⟩
end
mutual
def named (N:List Str):Dc->Prop
 |leaf _=>True
 |row _ xs=>Dx N xs
 |tab _ ks xs=>(∀k∈ks,k∈N)/\Dx N xs
def Dx (N:List Str):List Dc->Prop
 |[]=>True
 |x::r=>named N x/\Dx N r
end
theorem Eu {N:List Str}:∀{xs:List Dc},Dx N xs↔∀x∈xs,named N x
 |[]=>by simp[Dx]
 |x::r=>by simp only[Dx,List.forall_mem_cons,Eu (xs:=r)]
mutual
theorem LN {N:List Str} {b:Addr} {i:Nat} {k:Str} {p:Dc} (e:p.named N) (f:k∈N):∀d:Dc,d.named N->(put b i k p d).named N
 |leaf v,h=>h
 |row a xs,h=>by
  simp only[put]
  split
  ·simp only[named]at h⊢
   rw[Eu]at h⊢
   intro x c
   rcases List.mem_append.mp c with c|c
   ·exact h x (List.mem_of_mem_take c)
   ·rcases List.mem_cons.mp c with rfl|c
    ·exact e
    ·exact h x (List.mem_of_mem_drop c)
  ·simp only[named]at h⊢
   exact GP e f xs h
 |tab a ks xs,h=>by
  simp only[put]
  simp only[named]at h
  split
  ·simp only[named]
   refine⟨fun x c=>?_,?_⟩
   ·rcases List.mem_append.mp c with c|c
    ·exact h.1 x c
    ·rw[List.mem_singleton.mp c];exact f
   ·rw[Eu]
    intro x c
    rcases List.mem_append.mp c with c|c
    ·exact Eu.mp h.2 x c
    ·rw[List.mem_singleton.mp c];exact e
  ·simp only[named]
   exact⟨h.1,GP e f xs h.2⟩
theorem GP {N:List Str} {b:Addr} {i:Nat} {k:Str} {p:Dc} (a:p.named N) (c:k∈N):∀xs:List Dc,Dx N xs->Dx N (putL b i k p xs)
 |[],h=>h
 |x::r,h=>by
  simp only[Dx,putL]at h⊢
  exact⟨LN a c x h.1,GP a c r h.2⟩
end
def Iw:Dc->Prop
 |leaf v=>HA v
 |row _ xs=>xs=[]
 |tab _ ks xs=>ks=[]/\xs=[]
theorem Iw.ok {p:Dc} (h:Iw p):p.ok:=by
 cases p with
 |leaf v=>exact h
 |row a b=>cases(show b=[]from h);simp[Dc.ok,Gd]
 |tab a c b=>obtain⟨rfl,rfl⟩:=(show c=[]/\b=[]from h);simp[Dc.ok,Gd]
theorem Iw.named {p:Dc} {N:List Str} (h:Iw p):p.named N:=by
 cases p with
 |leaf v=>trivial
 |row a b=>cases(show b=[]from h);simp[Dc.named,Dx]
 |tab a c b=>obtain⟨rfl,rfl⟩:=(show c=[]/\b=[]from h);simp[Dc.named,Dx]
theorem Iw.size {p:Dc} (h:Iw p):p.size=1:=by
 cases p with
 |leaf v=>rfl
 |row a b=>cases(show b=[]from h);simp[Dc.size,Ae]
 |tab a c b=>obtain⟨rfl,rfl⟩:=(show c=[]/\b=[]from h);simp[Dc.size,Ae]
theorem Iw.nodup {p:Dc} (h:Iw p):p.addrs.Nodup:=by
 cases p with
 |leaf v=>simp[addrs]
 |row a b=>cases(show b=[]from h);simp[addrs,AH]
 |tab a c b=>obtain⟨rfl,rfl⟩:=(show c=[]/\b=[]from h);simp[addrs,AH]
def Iy:Dc->String
 |leaf (.int _)=>"int"
 |leaf _=>"str"
 |row _ _=>"list"
 |tab _ _ _=>"dict"
theorem Dy {H:Hp} {d:Dc} (h:d.At H):NG H d.val d.Iy:=by
 cases d with
 |leaf v=>
  rcases(show Lf v from h)with⟨i,rfl⟩|⟨x,rfl,_⟩
  ·exact .int i
  ·exact .str x
 |row a b=>simp only[At]at h;exact .lst h.1
 |tab a c b=>simp only[At]at h;exact .dK h.1
def sub:Dc->List V->Option Dc
 |d,[]=>some d
 |row _ xs,.int i::r=>if 0<=i then(xs[i.toNat]?).bind fun x=>sub x r else none
 |tab _ ks xs,.str k::r=>((ks.zip xs).lookup k).bind fun x=>sub x r
 |_,_=>none
def BB (v:V):Prop:=(∃k:Nat,v=.int (k:Int))∨∃x:Str,v=.str x/\BS x=true
theorem BB.flat {v:V} (h:BB v):BR v=true:=by
 rcases h with⟨k,rfl⟩|⟨x,rfl,_⟩<;>rfl
theorem Aj {ks:List Str} {xs:List Dc} {k:Str} {x:Dc} (h:(ks.zip xs).lookup k=some x):k∈ks/\x∈xs:=by
 induction ks generalizing xs with
 |nil=>simp at h
 |cons y r a=>
  cases xs with
  |nil=>simp at h
  |cons z b=>
   simp only[List.zip_cons_cons,List.lookup_cons]at h
   by_cases e:k=y
   ·subst e
    simp at h
    subst h
    exact⟨List.mem_cons_self,List.mem_cons_self⟩
   ·have:(k==y)=false:=by simpa using e
    rw[this]at h
    have:=a h
    exact⟨List.mem_cons_of_mem _ this.1,List.mem_cons_of_mem _ this.2⟩
theorem Ef {d:Dc} (f:d.ok) {zs:List V}:∀{e:Dc},d.sub zs=some e->(∀z∈zs,BB z)/\zs.length+e.size<=d.size/\e.ok:=by
 induction zs generalizing d with
 |nil=>
  intro e h
  cases d<;>(simp only[sub,Option.some.injEq]at h;subst h;exact⟨fun z b=>(nomatch b),by simp,f⟩)
 |cons z r m=>
  intro e h
  cases d with
  |leaf v=>simp[sub]at h
  |row a j=>
   cases z with
   |int i=>
    simp only[sub]at h
    by_cases l:0<=i
    ·rw[if_pos l]at h
     cases c:j[i.toNat]? with
     |none=>rw[c]at h;simp at h
     |some x=>
      rw[c]at h
      have g:=AAD c
      simp only[ok]at f
      obtain⟨a1,a2,a3⟩:=m (d:=x) (BC.mp f x g) h
      have:=Bn g
      refine⟨fun z b=>?_,?_,a3⟩
      ·rcases List.mem_cons.mp b with rfl|b
       ·exact .inl ⟨i.toNat,by rw[Int.toNat_of_nonneg l]⟩
       ·exact a1 z b
      ·simp only[List.length_cons,size];lia
    ·rw[if_neg l]at h;simp at h
   |_=>simp[sub]at h
  |tab a n j=>
   cases z with
   |str k=>
    simp only[sub]at h
    cases c:(n.zip j).lookup k with
    |none=>rw[c]at h;simp at h
    |some x=>
     rw[c]at h
     obtain⟨mk,g⟩:=Aj c
     simp only[ok]at f
     obtain⟨a1,a2,a3⟩:=m (d:=x) (BC.mp f.2 x g) h
     have:=Bn g
     refine⟨fun z b=>?_,?_,a3⟩
     ·rcases List.mem_cons.mp b with rfl|b
      ·exact .inr ⟨k,rfl,f.1 k mk⟩
      ·exact a1 z b
     ·simp only[List.length_cons,size];lia
   |_=>simp[sub]at h
theorem sub_snoc {d:Dc} {zs:List V} {e:Dc} (h:d.sub zs=some e) (f:List V):d.sub (zs++f)=e.sub f:=by
 induction zs generalizing d with
 |nil=>cases d<;>(simp only[sub,Option.some.injEq]at h;subst h;rfl)
 |cons z r g=>
  cases d with
  |leaf v=>simp[sub]at h
  |row a c=>
   cases z with
   |int i=>
    simp only[sub,List.cons_append]at h⊢
    by_cases j:0<=i
    ·rw[if_pos j]at h⊢
     cases b:c[i.toNat]? with
     |none=>rw[b]at h;simp at h
     |some x=>rw[b]at h;exact g (d:=x) h
    ·rw[if_neg j]at h;simp at h
   |_=>simp[sub]at h
  |tab a l c=>
   cases z with
   |str k=>
    simp only[sub,List.cons_append]at h⊢
    cases b:(l.zip c).lookup k with
    |none=>rw[b]at h;simp at h
    |some x=>rw[b]at h;exact g (d:=x) h
   |_=>simp[sub]at h
theorem Cv {ks:List Str} {xs:List Dc} (h:ks.length=xs.length) (k:Str):BX (kvs ks xs) (Sum.inr k)=((ks.zip xs).lookup k).map val:=by
 induction ks generalizing xs with
 |nil=>simp[kvs,Tc]
 |cons y r c=>
  cases xs with
  |nil=>simp at h
  |cons z b=>
   have e:kvs (y::r) (z::b)=(Sum.inr y,z.val)::kvs r b:=rfl
   rw[e]
   by_cases a:k=y
   ·subst a
    rw[Bx rfl]
    simp
   ·rw[By (by intro z;exact a (Sum.inr.inj z).symm),c (by simpa using h)]
    have:(k==y)=false:=by simpa using a
    simp[List.zip_cons_cons,List.lookup_cons,this]
theorem ER {ks:List Str} {xs:List Dc} (h:ks.length=xs.length) {k:Str} (a:k∈ks):∃x,(ks.zip xs).lookup k=some x/\x∈xs:=by
 induction ks generalizing xs with
 |nil=>cases a
 |cons y r b=>
  cases xs with
  |nil=>simp at h
  |cons z c=>
   by_cases e:k=y
   ·subst e
    exact⟨z,by simp,List.mem_cons_self⟩
   ·obtain⟨x,d,f⟩:=b (xs:=c) (by simpa using h) ((List.mem_cons.mp a).resolve_left e)
    refine⟨x,?_,List.mem_cons_of_mem _ f⟩
    have:(k==y)=false:=by simpa using e
    simp[List.zip_cons_cons,List.lookup_cons,this,d]
end Dc
abbrev Oq:Str:="abcdefghijklmnopqrstuvwxyz"
theorem QY:Oq.length=26:=by decide+kernel
theorem MR:W'.length=26:=by decide+kernel
theorem UC (i:Int) (b:0<=i) (d:i<26):∃c,NX (sgn Oq) i=some c/\Sz c=true:=by
 obtain⟨n,rfl⟩:=Int.eq_ofNat_of_zero_le b
 have a:n<W'.length:=by rw[MR];lia
 exact⟨W'[n],Cb (AAA a),Jn (List.getElem_mem a)⟩
theorem HB (r:Int):0<=r % 26/\r % 26<26:=⟨Int.emod_nonneg _ (by decide),Int.emod_lt_of_pos _ (by decide)⟩
def eJ (v:V):Prop:=∃c,v=.str ⟨#[c]⟩/\Sz c=true
theorem LO:∀ys:List V,(∀y∈ys,eJ y)->∃zs:List Str,ys=zs.map V.str/\(∀z∈zs,z.length=1)/\((zs.map sgn).flatten).length=ys.length/\((zs.map sgn).flatten).all Sz=true
 |[],_=>⟨[],rfl,by simp,rfl,rfl⟩
 |y::r,h=>by
  obtain⟨c,e,b⟩:=h y List.mem_cons_self
  obtain⟨zs,d,f,g,i⟩:=LO r fun z a=>h z (List.mem_cons_of_mem _ a)
  refine⟨⟨#[c]⟩::zs,by rw[e,d];rfl,?_,?_,?_⟩
  ·intro z a
   rcases List.mem_cons.mp a with rfl|a
   ·rfl
   ·exact f z a
  ·show(sgn ⟨#[c]⟩++(zs.map sgn).flatten).length=_
   rw[List.length_append,g]
   show 1+r.length=r.length+1
   lia
  ·show(sgn ⟨#[c]⟩++(zs.map sgn).flatten).all Sz=true
   rw[List.all_append,i]
   show([c].all Sz&&true)=true
   simp[b]
inductive QZ (K:AAE) (c:List V) (H:Hp) (Q:VK) (b:XK):Prop
 |mk (a:Addr) (d:List Int) (k:Nat) (e:c=[.ref a,.int (k:Int)]) (f:A_ K H a (d.map V.int)) (g:∀r:Int,0<=r->Q (.int r) H):QZ K c H Q b
def MS (K:AAE):Sp:=fun b H Q a=>QZ K b H Q a
inductive UD (b:List V) (H:Hp) (Q:VK) (a:XK):Prop
 |mk (c:Int) (k:Nat) (d:b=[.int c,.int (k:Int)]) (e:k<=1000) (f:∀r:Int,0<=r->r<2305843009213693951->Q (.int r) H):UD b H Q a
def HE:Sp:=fun b H Q a=>UD b H Q a
def UE:Nat->Int->Int
 |0,n=>n
 |k+1,n=>UE k n/1000000
def Nv (c:Int) (k:Nat):Int:=(((c+3)*1181783497276652981 % 2305843009213693951+((k:Int)+1)*614889782588491411) % 2305843009213693951)*(((c+3)*1181783497276652981 % 2305843009213693951+((k:Int)+1)*614889782588491411) % 2305843009213693951) % 999999999999999989
def Jt (c:Int) (k:Nat):Int:=if c % 4=0/\4*10 ^ 60<=c then UE k (c/4) % 1000000 else(Nv c k+1)*(Nv c k/1000003+7) % 2305843009213693951/7919
theorem UG (c:Int) (k:Nat):0<=Jt c k/\Jt c k<2305843009213693951:=by
 unfold Jt
 split
 ·have a:=Int.emod_nonneg (UE k (c/4)) (show(1000000:Int)≠0 by decide)
  have b:=Int.emod_lt_of_pos (UE k (c/4)) (show(0:Int)<1000000 by decide)
  lia
 ·have a:=Int.emod_nonneg ((Nv c k+1)*(Nv c k/1000003+7)) (show(2305843009213693951:Int)≠0 by decide)
  have b:=Int.emod_lt_of_pos ((Nv c k+1)*(Nv c k/1000003+7)) (show(0:Int)<2305843009213693951 by decide)
  lia
inductive Qa (b:List V) (H:Hp) (Q:VK) (a:XK):Prop
 |mk (c:Int) (k:Nat) (d:b=[.int c,.int (k:Int)]) (e:k<=1000) (f:Q (.int (Jt c k)) H):Qa b H Q a
def MT:Sp:=fun b H Q a=>Qa b H Q a
theorem UH {a:List V} {H:Hp} {Q:VK} {E:XK} (h:HE a H Q E):MT a H Q E:=by
 obtain⟨c,k,e,b,q⟩:=h
 exact⟨c,k,e,b,q _ (UG c k).1 (UG c k).2⟩
theorem UI {ys:List Str} (P:Nat->Str->Prop) (h:∀(j:Nat) y,ys[j]?=some y->P j y) (inj:∀(i j:Nat) y,i<j->j<ys.length->P i y->P j y->False):ys.Nodup:=by
 refine List.pairwise_iff_getElem.mpr fun i j d b a e=>?_
 have f:=h i _ (AAA d)
 have c:=h j _ (AAA b)
 rw[<-e]at c
 exact inj i j _ a b f c
inductive Nw (b:List V) (H:Hp) (Q:VK) (a:XK):Prop
 |mk (c:Int) (d:Int) (e:b=[.int c,.int d]) (f:∀(p:Addr) (ys:List Str) (H':Hp),AG H H'->H p=none->H' p=some (.lst (ys.map V.str))->ys.length=6->ys.Nodup->(∀y∈ys,BS y=true)->Q (.ref p) H'):Nw b H Q a
def MU:Sp:=fun b H Q a=>Nw b H Q a
inductive XC (b:List V) (H:Hp) (Q:VK) (a:XK):Prop
 |mk (c:Int) (d:b=[.int c]) (e:∀v H',HA v->AG H H'->Q v H'):XC b H Q a
inductive XD (e:List V) (H:Hp) (Q:VK) (b:XK):Prop
 |mk (c:Int) (d:Int) (m:Int) (f:e=[.int c,.int d,.int m]) (g:∀(p:Dc) (H':Hp),AG H H'->p.At H'->p.Iw->(∀a∈p.addrs,∀o u,H' a≠some (.CK o u))->(∀a∈p.addrs,H a=none)->Q p.val H'):XD e H Q b
def PN (N:List Str) (b:Addr) (y:V) (H H':Hp):Prop:=
 (∃a i,H b=some (.lst a)/\H' b=some (.lst (a.take i++y::a.drop i)))∨∃c k,H b=some (.dK c)/\(Sum.inr k:Key)∉c.map (·.1)/\(BS k=true/\k∈N)/\H' b=some (.dK (c++[(Sum.inr k,y)]))
inductive XE (K:AAE) (a:List V) (H:Hp) (Q:VK) (d:XK):Prop
 |mk (b:Addr) (n:Addr) (y:V) (ys:List Str) (c:Int) (f:a=[.ref b,y,.ref n,.int c]) (g:0<=c) (h:A_ K H n (ys.map V.str)) (i:ys.length<=100) (j:(∀y∈ys,BS y=true)) (k:((∃a,H b=some (.lst a)/\a.length<=1000)∨∃e,H b=some (.dK e)/\e.length<=1000)) (l:(∀H',aM b H H'->PN ys b y H H'->Q (.bl true) H')) (m:∀H',AG H H'->Q (.bl false) H'):XE K a H Q d
structure Made (H H':Hp) (d:Dc):Prop where
 same:AG H H'
 at_:d.At H'
 ok:d.ok
 nd:d.addrs.Nodup
 own:∀a∈d.addrs,∀o u,H' a≠some (.CK o u)
 new:∀a∈d.addrs,H a=none
inductive aN (K:AAE) (c:List V) (H:Hp) (Q:VK) (b:XK):Prop
 |mk (a:Addr) (n:Addr) (e:List Int) (k:Nat) (ys:List Str) (f:c=[.ref a,.int (k:Int),.ref n]) (g:A_ K H a (e.map V.int)) (h:e.length<=63) (i:k<=1000) (j:H n=some (.lst (ys.map V.str))) (l:ys.length<=100) (m:(∀y∈ys,BS y=true)) (o:∀(t:Addr) (d:Dc) (H':Hp),Made H H' d->H' t=some (.tup [d.val,.int (d.size:Int)])->d.size<=40->(ys≠[]->d.named ys)->Q (.ref t) H'):aN K c H Q b
inductive XF (K:AAE) (c:List V) (H:Hp) (Q:VK) (b:XK):Prop
 |mk (a:Addr) (n:Addr) (e:List Int) (k:Nat) (ys:List Str) (f:c=[.ref a,.int (k:Int),.ref n]) (g:A_ K H a (e.map V.int)) (h:e.length<=63) (i:k<=1000) (j:H n=some (.lst (ys.map V.str))) (l:ys.length<=100) (m:(∀y∈ys,BS y=true)) (o:∀(t:Addr) (d:Dc) (H':Hp),Made H H' d->H' t=some (.tup [d.val,.int (d.size:Int)])->d.size<=24->(ys≠[]->d.named ys)->Q (.ref t) H'):XF K c H Q b
inductive UJ (K:AAE) (c:List V) (H:Hp) (Q:VK) (b:XK):Prop
 |mk (a:Addr) (d:List Int) (e:c=[.ref a]) (f:A_ K H a (d.map V.int)) (g:d.length<=63) (h:∀H',Q (.bl true) H'):UJ K c H Q b
def Nx (K:AAE):Sp:=fun b H Q a=>UJ K b H Q a
theorem BA {n:Nat} (h:n<=1000):n<=sizeLine:=Nat.le_of_lt (Ar h)
theorem Aq {x y:V}:[x,y].length<=sizeLine:=BA (show 2<=1000 by decide)
theorem CM {x:V}:[x].length<=sizeLine:=BA (show 1<=1000 by decide)
theorem CQ (a:List V) (lv:V):GA (a++[lv]) none (some (-1))=a:=by
 have b:HT.CF (a++[lv]).length (a++[lv]).length (some (-1))=a.length:=by
  simp only[HT.CF,List.length_append,List.length_singleton]
  rw[if_pos (by decide)]
  lia
 unfold GA
 rw[b,HT.TR,List.drop_zero,Nat.sub_zero]
 exact List.take_left
theorem UK {P:Program} {w:World} {K:AAE} {mg:Str->Option Value} {base:Heap} {f:Addr} {b:FuncData} {ps:List Str} {sp:Sp} (no:∀a H Q E,¬sp a H Q E):Bb P w K mg base Dk 0 f b ps sp:=
 ⟨fun a H Q E h=>absurd h (no a H Q E),fun A outer s H args c a Q E _ _ _ _ h=>absurd h (no a H Q E)⟩
theorem Dc.there {H:Hp} {d:Dc} {b:Addr} (h:d.At H) (a:b∈d.addrs):H b≠none:=by
 have f:∀u,Rd H b u->H b≠none:=fun u r z=>by
  rcases r with r|⟨o,r⟩<;>rw[r]at z<;>cases z
 rcases Dc.Ht d h a with⟨c,e,_⟩|⟨g,i,e,_⟩
 ·exact f _ e
 ·exact f _ e
theorem Rd.exact {H:Hp} {b:Addr} {u:HO} (r:Rd H b u) (no:∀o u,H b≠some (.CK o u)):H b=some u:=r.elim id fun⟨o,e⟩=>absurd e (no o u)
theorem Bs {H H':Hp} {a:Addr} (h:H a≠none) (no:∀o u,H a≠some (.CK o u)) (s:∀o,H a=some o->H' a=some o):∀o u,H' a≠some (.CK o u):=fun o u e=>by
 cases q:H a with
 |none=>exact h q
 |some x=>
  rw[s x q]at e
  cases e
  exact no o u q
structure Cj (H Hi:Hp) (d:Dc) (L:Addr) (ts:List Addr):Prop where
 made:Made H Hi d
 nL:H L=none
 eL:Hi L=some (.lst (ts.map V.ref))
 out:L∉d.addrs
 hold:∀t∈ts,∃b k,Hi t=some (.tup [.ref b,.int k])/\b∈d.addrs
theorem Made.up {H b c:Hp} {d:Dc} (D:Made H b d) (s:AG b c):Made H c d:=⟨D.same.trans s,Dc.Ad s D.at_,D.ok,D.nd,fun a e=>Bs (Dc.there D.at_ e) (D.own a e) (s a),D.new⟩
theorem Cj.up {H a c:Hp} {d:Dc} {L:Addr} {f:List Addr} (D:Cj H a d L f) (s:AG a c):Cj H c d L f:=
 ⟨D.made.up s,D.nL,s _ _ D.eL,D.out,fun t g=>let⟨b,k,e,h⟩:=D.hold t g;⟨b,k,s _ _ e,h⟩⟩
theorem Cj.push {H c:Hp} {d:Dc} {L t b:Addr} {k:Int} {g:List Addr} (D:Cj H c d L g) (n:c t=some (.tup [.ref b,.int k])) (r:b∈d.addrs):Cj H (upd c L (.lst (g.map V.ref++[.ref t]))) d L (g++[t]):=by
 have p:∀a∈d.addrs,∀o,c a=some o->upd c L (.lst (g.map V.ref++[.ref t])) a=some o:=fun a f o e=>by
  have j:a≠L:=fun z=>D.out (by rw[<-z];exact f)
  rw[AN j]
  exact e
 refine⟨⟨D.made.same.put D.nL,Dc.Bk d p D.made.at_,D.made.ok,D.made.nd,fun a f=>Bs (Dc.there D.made.at_ f) (D.made.own a f) (p a f),D.made.new⟩,D.nL,by rw[AE,List.map_append];rfl,D.out,fun i l=>?_⟩
 ·have q:∀{i:Addr} {s:List V},c i=some (.tup s)->i≠L:=fun h=>Di h D.eL (by intro z;cases z)
  rcases List.mem_append.mp l with h|h
  ·obtain⟨u,v,e,m⟩:=D.hold i h
   exact⟨u,v,by rw[AN (q e)];exact e,m⟩
  ·rw[List.mem_singleton.mp h]
   exact⟨b,k,by rw[AN (q n)];exact n,r⟩
theorem Made.laid {N:List Str} {H G j f:Hp} {d p:Dc} {b:Addr} (D:Made H G d) (s:AG G j) (O:p.At j) (pk:p.ok) (pn:p.addrs.Nodup) (R:∀a∈p.addrs,∀o u,j a≠some (.CK o u)) (new:∀a∈p.addrs,G a=none) (t:b∈d.addrs) (c:aM b j f) (P:PN N b p.val j f):
  ∃d':Dc,d'.val=d.val/\d'.size=d.size+p.size/\Made H f d'/\(∀a∈p.addrs,a∈d'.addrs)/\(∀a∈d.addrs,a∈d'.addrs)/\(∀a∈d'.addrs,a∈d.addrs∨a∈p.addrs)/\p.At f/\((∃y∈N,BS y=true)->p.named N->d.named N->d'.named N):=by
 have Q:∀x∈d.addrs,x∉p.addrs:=fun x S I=>Dc.there D.at_ S (new x I)
 have v:p.At f:=Dc.Bk p (fun a g o e=>c a o (fun z=>Q b t (by rw[<-z];exact g)) e) O
 have T:AG H f:=fun a o e=>c a o (Bq e (D.new b t)) ((D.same.trans s) a o e)
 have U:∀a∈d.addrs,a≠b->∀o,j a=some o->f a=some o:=fun a _ h o e=>c a o h e
 have at2:=Dc.Ad s D.at_
 have w:∀o u,f b≠some (.CK o u):=fun o u e=>by
  rcases P with⟨A,i,_,z⟩|⟨q,k,_,_,⟨_,_⟩,z⟩<;>rw[z]at e<;>cases e
 have go:∀(i:Nat) (k:Str),(BS k=true)->((∃y∈N,BS y=true)->k∈N)->(∀A,Rd j b (.lst A)->f b=some (.lst (A.take i++p.val::A.drop i)))->(∀q,Rd j b (.dK q)->(Sum.inr k:Key)∉q.map (·.1)/\f b=some (.dK (q++[(Sum.inr k,p.val)])))->
   ∃d':Dc,d'.val=d.val/\d'.size=d.size+p.size/\Made H f d'/\(∀a∈p.addrs,a∈d'.addrs)/\(∀a∈d.addrs,a∈d'.addrs)/\(∀a∈d'.addrs,a∈d.addrs∨a∈p.addrs)/\p.At f/\((∃y∈N,BS y=true)->p.named N->d.named N->d'.named N):=fun i k J m B C=>by
  refine⟨Dc.put b i k p d,Dc.QV ..,Dc.Nr d t D.nd,⟨T,Dc.Tw v B C d U D.nd at2,Dc.UB pk J d D.ok,Dc.LJ pn d D.nd Q,fun a g=>?_,fun a g=>?_⟩,fun a g=>(Dc.DK d a).2.2 t g,fun a g=>(Dc.DK d a).2.1 g,fun a g=>((Dc.DK d a).1 g).imp id fun z=>z.2,v,fun V W X=>Dc.LN W (m V) d X⟩
  ·by_cases n:a=b
   ·subst n
    exact w
   ·rcases(Dc.DK d a).1 g with h|h
    ·exact Bs (Dc.there at2 h) ((D.up s).own a h) (fun o=>c a o n)
    ·exact Bs (Dc.there O h.2) (R a h.2) (fun o=>c a o n)
  ·rcases(Dc.DK d a).1 g with h|h
   ·exact D.new a h
   ·exact D.same.free (new a h.2)
 have E:∀u,Rd j b u->j b=some u:=fun u r=>r.exact ((D.up s).own b t)
 rcases P with⟨A,i,l,K⟩|⟨q,k,l,J,⟨Y,Z⟩,K⟩
 ·obtain⟨F,L,m⟩:∃F:Str,BS F=true/\((∃y∈N,BS y=true)->F∈N):=by
   by_cases h:∃y∈N,BS y=true
   ·obtain⟨y,h1,h2⟩:=h
    exact⟨y,h2,fun _=>h1⟩
   ·exact⟨"a",by decide+kernel,fun z=>absurd z h⟩
  refine go i F L m (fun M e=>?_) (fun q e=>?_)
  ·rw[E _ e]at l;cases l;exact K
  ·rw[E _ e]at l;cases l
 ·refine go 0 k Y (fun _=>Z) (fun M e=>?_) (fun zN e=>?_)
  ·rw[E _ e]at l;cases l
  ·rw[E _ e]at l;cases l;exact⟨J,K⟩
theorem Cj.laid {N:List Str} {H l f g:Hp} {d p:Dc} {b L:Addr} {v:List Addr} (D:Cj H l d L v) (s:AG l f) (E:p.At f) (j:p.Iw) (F:∀a∈p.addrs,∀o u,f a≠some (.CK o u)) (new:∀a∈p.addrs,l a=none) (w:b∈d.addrs) (c:aM b f g) (x:PN N b p.val f g):
  ∃d':Dc,d'.val=d.val/\d'.size=d.size+1/\Cj H g d' L v/\(∀a∈p.addrs,a∈d'.addrs)/\p.At g/\((∃y∈N,BS y=true)->d.named N->d'.named N):=by
 obtain⟨d',G,A,m,I,J,K,q,M⟩:=D.made.laid s E j.ok j.nodup F new w c x
 rw[j.size]at A
 have B:=D.up s
 refine⟨d',G,A,⟨m,D.nL,?_,?_,fun t O=>?_⟩,I,q,fun P n=>M P j.named n⟩
 ·exact c _ _ (fun z=>D.out (by rw[z];exact w)) B.eL
 ·intro h
  rcases K L h with h|h
  ·exact D.out h
  ·have:=new L h
   rw[D.eL]at this
   cases this
 ·obtain⟨C,k,e,r⟩:=B.hold t O
  refine⟨C,k,c _ _ ?_ e,J C r⟩
  rcases x with⟨Q,i,z,_⟩|⟨R,S,z,_⟩
  ·exact Di e z (by intro z;cases z)
  ·exact Di e z (by intro z;cases z)
namespace Dc
mutual
def slim:Dc->Prop
 |leaf _=>True
 |row _ xs=>Ju xs
 |tab _ _ xs=>xs.length<64/\Ju xs
def Ju:List Dc->Prop
 |[]=>True
 |x::r=>slim x/\Ju r
end
theorem Eg:∀{xs:List Dc},Ju xs->∀x∈xs,slim x
 |[],_,x,a=>nomatch a
 |y::r,h,x,a=>by
  simp only[Ju]at h
  rcases List.mem_cons.mp a with rfl|a
  ·exact h.1
  ·exact Eg h.2 x a
mutual
theorem Fp:∀d:Dc,d.size<64->d.slim
 |leaf _,_=>trivial
 |row a xs,h=>by
  simp only[size]at h
  simp only[slim]
  exact Jv xs (by lia)
 |tab a ks xs,h=>by
  simp only[size]at h
  simp only[slim]
  have:=Es xs
  exact⟨by lia,Jv xs (by lia)⟩
theorem Jv:∀xs:List Dc,Ae xs<64->Ju xs
 |[],_=>trivial
 |x::r,h=>by
  simp only[Ae]at h
  simp only[Ju]
  exact⟨Fp x (by lia),Jv r (by lia)⟩
end
def GQ (ks:List Str) (xs:List Dc) (k:Str):Nat:=(((ks.zip xs).lookup k).map size).getD 0
theorem Ny:∀{ks:List Str} {xs:List Dc},ks.length=xs.length->ks.Nodup->(ks.map (GQ ks xs)).sum=Ae xs
 |[],xs,h,_=>by
  cases xs with
  |nil=>rfl
  |cons x r=>simp at h
 |k::ks,[],h,_=>by simp at h
 |k::ks,x::xs,h,n=>by
  obtain⟨a,b⟩:=List.nodup_cons.mp n
  have c:GQ (k::ks) (x::xs) k=x.size:=by simp[GQ]
  have d:ks.map (GQ (k::ks) (x::xs))=ks.map (GQ ks xs):=List.map_congr_left fun y e=>by
   have f:y≠k:=fun z=>a (z▸e)
   have:(y==k)=false:=by simpa using f
   simp[GQ,List.zip_cons_cons,List.lookup_cons,this]
  rw[List.map_cons,List.sum_cons,c,d,Ny (by simpa using h) b]
  simp only[Ae]
theorem LP {ks a:List Str} {xs:List Dc} (h:ks.length=xs.length) (n:ks.Nodup) (p:a.Perm ks):(a.map (GQ ks xs)).sum=Ae xs:=by
 rw[(p.map _).sum_nat,Ny h n]
theorem FG {xs:List Dc} {i:Nat} {x:Dc} (h:xs[i]?=some x):Ae (xs.take (i+1))=Ae (xs.take i)+x.size:=by
 rw[List.take_add_one,h,BP]
 simp[Ae]
end Dc
section
variable{X:Cx} {pins:List (Addr×Obj)} {σ:St} {H:Hp} {s:Shared} {a:Addr} {kvs:List (Key×V)}
theorem Inv.freeze (I:Inv X pins σ H s) (e:H a=some (.dK kvs)):∃o,s.heap.get? a=some o/\Inv X pins σ (upd H a (.CK o (.dK kvs))) s:=by
 have ok:=(show BM X.prog X.w H s.heap a (.dK kvs)from I.BV a _ e)
 obtain⟨z,g,h,i,o,j,k,f,r⟩:=id ok
 refine⟨o,f,?_⟩
 have c:∀b u,H b=some u->u≠.dK kvs->b≠a:=fun b u q n w=>by
  subst w
  rw[e]at q
  exact n (AAC q).symm
 have un:Un X.fs [] H (upd H a (.CK o (.dK kvs))) s.heap s.heap:=
  ⟨fun b d q _ _ _=>q,fun b d q _ _ _=>⟨d.slots,q⟩,fun b d q n _=>by rw[AN (fun w=>by subst w;rw[e]at n;cases n)];exact n,fun b d q _=>⟨d,q⟩,
   fun b l q=>by rw[AN (c b _ q (by intro z;cases z))];exact q,fun b d u q=>by rw[AN (c b _ q (by intro z;cases z))];exact q,fun b m q=>⟨#[],by rw[AN (c b _ q (by intro z;cases z)),q];simp⟩⟩
 have BV:F' X.prog X.w (upd H a (.CK o (.dK kvs))) s.heap:=I.BV.write (by rw[e];trivial) (.inl rfl) (fun b u _ q=>q) ⟨o,f⟩ ⟨f,ok⟩
 exact I.un (h':=s.heap) (t':=s.toks) un BV
theorem Inv.jn {o:Obj} (I:Inv X pins σ H s) (e:H a=some (.CK o (.dK kvs))) (nf:∀o u,X.H₀ a≠some (.CK o u)):Inv X pins σ (upd H a (.dK kvs)) s:=by
 have ok:=(show BM X.prog X.w H s.heap a (.CK o (.dK kvs))from I.BV a _ e)
 have d:∀b u,H b=some u->u≠.CK o (.dK kvs)->b≠a:=fun b u q n w=>by
  subst w
  rw[e]at q
  exact n (AAC q).symm
 have f:∀b,H b=none->b≠a:=fun b n w=>by subst w;rw[e]at n;cases n
 have B:=I.base
 refine⟨I.ok,I.os,I.bare,⟨B.keep,B.slot,fun b g q n i=>by rw[AN (f b (B.free b g q n i))];exact B.free b g q n i,B.there,fun b h q=>by rw[AN (d b _ (B.Km b h q) (by intro z;cases z))];exact B.Km b h q,
  fun b g u q=>by rw[AN (fun w=>nf g u (by rw[<-w];exact q))];exact B.JU b g u q,fun b m q=>?_⟩,I.loc,I.cell,by rw[AN (f _ I.free)];exact I.free,fun x c q=>by rw[AN (f _ (I.ET x c q))];exact I.ET x c q,
  fun p t=>let⟨y,j,A⟩:=I.pin p t;⟨y,by rw[AN (f _ j)];exact j,A⟩,fun b u q=>?_,I.len⟩
 ·obtain⟨more,k⟩:=B.Lw b m q
  exact⟨more,by rw[AN (d b _ k (by intro z;cases z))];exact k⟩
 ·by_cases l:b=a
  ·subst l
   rw[AE]at q
   cases q
   exact ok.2
  ·rw[AN l]at q
   exact(I.BV b u q).Kl (fun c v _ r=>r) (fun c r=>by rw[AN (d c _ r (by intro z;cases z))];exact r) fun c h r=>by rw[AN (d c _ r (by intro z;cases z))];exact r
theorem Inv.nf (I:Inv X pins σ H s) (e:H a=some (.dK kvs)):∀o u,X.H₀ a≠some (.CK o u):=fun o u q=>by
 have:=I.base.JU a o u q
 rw[e]at this
 cases this
end
def PR (a:Addr) (o:Obj) (kvs:List (Key×V)) (k:Hp->Prop):Hp->Prop:=fun H=>H a=some (.CK o (.dK kvs))/\k (upd H a (.dK kvs))
inductive UL (t:TE) (σ:St) (H:Hp) (Q:VK):Prop
 |mk (a:_) (kvs:_) (b:H a=some (.dK kvs)) (c:∀o,t σ (upd H a (.CK o (.dK kvs))) fun v=>PR a o kvs (Q v)):UL t σ H Q
def eK (t:TE):TE:=fun a H Q=>UL t a H Q
inductive aO (t:TS) (D:Ends) (σ:St) (H:Hp):Prop
 |mk (a:_) (kvs:_) (b:H a=some (.dK kvs)) (c:∀o,t ⟨fun σ=>PR a o kvs (D.nx σ),fun v=>PR a o kvs (D.rt v),fun σ=>PR a o kvs (D.bk σ),fun σ=>PR a o kvs (D.ct σ)⟩ σ (upd H a (.CK o (.dK kvs)))):aO t D σ H
section
variable{X:Cx}
theorem aP {e:Expr} {t:TE} (h:PE X e t):PE X e (eK t):=by
 rintro pins s c H Q I ⟨a,kvs,b,d⟩
 obtain⟨o,l,f⟩:=I.freeze b
 exact Bl (h pins s c _ _ f (d o)) fun u m ⟨v,n,g,i,j,k⟩=>⟨v,_,g.jn j (I.nf b),i,k⟩
theorem UM {e:Expr} {t u:TE} (h:PE X e t) (h':PE X e u):PE X e (fun σ H Q=>t σ H Q∨u σ H Q):=by
 rintro pins s σ H Q I (q|q)
 ·exact h pins s σ H Q I q
 ·exact h' pins s σ H Q I q
theorem aQ {e:Stmt} {t u:TS} (h:PS X e t) (h':PS X e u):PS X e (fun D σ H=>t D σ H∨u D σ H):=by
 rintro pins s σ H D I (q|q)
 ·exact h pins s σ H D I q
 ·exact h' pins s σ H D I q
end
def jo (a:Addr) (o:Obj) (kvs:List (Key×V)):It:=
 ⟨fun i H=>H a=some (.CK o (.dK kvs))/\i<kvs.length,fun i H x b=>b=H/\∃k v,kvs[i]?=some (k,v)/\x=kV k,fun i H=>H a=some (.CK o (.dK kvs))/\i=kvs.length⟩
def eM (c:TE):TI:=fun d H R=>c d H fun x b=>∃a o kvs,x=.ref a/\b a=some (.CK o (.dK kvs))/\R (jo a o kvs) b
theorem XG {P:Program} {w:World} {k:Key} {u:Value} (h:(A' P w).is k u=true):RelV (kV k) u:=by
 rcases Bc (k:=k) (v:=u) h with⟨i,t,rfl,rfl⟩|⟨x,t,rfl,rfl⟩
 ·exact⟨t,rfl⟩
 ·exact⟨t,rfl⟩
theorem RZ {P:Program} {w:World} {K:AAE} {tg:Expr} {a it:Addr} {o:Obj} {kvs:List (Key×V)} {vs:List (Key×Value)} {ep:Nat} (sk:a≠it) (rel:KV kvs vs) (hD:∀h:Heap,h.get? a=some o->h.DictAt (A' P w) a vs ep):
  Turn P w K tg (jo a o kvs) [it] it (fun i h=>h.IsKeyIter it a i vs.length ep)where
 mem:=by simp
 obj:=fun i h st b hb=>by
  have e:b=it:=by simpa using hb
  subst e
  obtain⟨ob,h1,_,h3⟩:=st
  exact⟨ob,h1,fun v z=>by rw[h3]at z;cases z⟩
 keep:=fun i h h' st k=>st.at fun ob e=>k it (by simp) ob e
 item:=fun X hp hw _ hc i pins s σ H E I hf st go=>by
  subst hp hw
  have f:=hf it (by simp)
  obtain⟨ga,gi⟩:=go
  have jq:=hD s.heap (show BM X.prog X.w H s.heap a (.CK o (.dK kvs))from I.BV a _ ga).1
  refine(Walks.dictKeys (knd:=A' X.prog X.w) (I.ok.hd hc) it a sk vs ep).item i s _ E (by rw[<-rel.length];exact gi) ⟨st,jq⟩ fun v h' tk hP TM kept=>?_
  obtain⟨k,x,vG,hk⟩:=hP
  obtain⟨ob,h1,h2,h3⟩:=TM.1
  have jr:∃y,kvs[i]?=some (k,y):=by
   have e:=congrArg (fun l=>l[i]?) (KV.keys rel)
   simp only[List.getElem?_map,vG,AAA gi]at e
   have e:kvs[i].1=k:=by simpa using e
   exact⟨kvs[i].2,by rw[AAA gi,<-e]⟩
  obtain⟨y,hy⟩:=jr
  refine⟨v,rfl,QP (o:=ob) h1 h2 h3 (by decide) ⟨kV k,H,I.turned (fun b vH hb e=>kept b vH (by simp[hb]) e) f.1 f.2.1 f.2.2.2.1 f.2.2.2.2.1 f.2.2.2.2.2,XG hk,⟨rfl,k,y,hy,rfl⟩,TM.1,fun b hb=>?_⟩⟩
  have e:b=it:=by simpa using hb
  subst e
  exact f.1
 done:=fun X hp hw _ hc i pins s σ H E I hf st stop=>by
  subst hp hw
  have f:=hf it (by simp)
  obtain⟨ga,gi⟩:=stop
  have gi:i=vs.length:=by rw[gi];exact rel.length
  subst gi
  have jq:=hD s.heap (show BM X.prog X.w H s.heap a (.CK o (.dK kvs))from I.BV a _ ga).1
  refine(Walks.dictKeys (knd:=A' X.prog X.w) (I.ok.hd hc) it a sk vs ep).done s _ E ⟨st,jq⟩ fun h' tk kept=>?_
  exact⟨rfl,I.turned (fun b ob hb e=>kept b ob (by simp[hb]) e) f.1 f.2.1 f.2.2.2.1 f.2.2.2.2.1 f.2.2.2.2.2⟩
 self:=fun A i s Q E st hQ=>wpAny_pyIter_keyiter st hQ
section
variable{X:Cx} {tg:Expr}
theorem XH {l:Expr} {k:TE} (p:PE X l k):PI X tg l (eM k):=by
 intro pins s r H R I h
 refine Bl (p pins s r H _ I h) fun v c t=>t.elim fun x m g u y=>?_
 obtain⟨a,o,kvs,rfl,A,q⟩:=y
 cases u
 have ok:=(show BM X.prog X.w m c.heap a (.CK o (.dK kvs))from g.BV a _ A)
 obtain⟨n,z,B,G,i,C⟩:=ok
 obtain⟨J,d⟩:=C.dictAt
 obtain⟨K,D,f,E⟩:=id d
 rw[n]at f
 cases f
 have j:a<c.heap.objs.size:=Heap.lt_size n
 refine wpAny_pyIter_dict B d ⟨c.heap.objs.size,[c.heap.objs.size],_,jo a o kvs,m,rfl,g.kept (t':=c.toks) fun b L e=>Heap.get?_push_of_some _ e,
  RZ (Nat.ne_of_lt j) i (fun h e=>⟨o,D,e,E⟩),⟨_,Heap.get?_push_size _ rfl,rfl,rfl⟩,fun b F=>?_,q⟩
 have e:b=c.heap.objs.size:=by simpa using F
 subst e
 exact g.NN (Nat.le_refl _) g.fresh
end
def FH (H H':Hp):Prop:=∀b u,Rd H b u->Rd H' b u
theorem AG.r {H H':Hp} (s:AG H H'):FH H H':=fun b u r=>r.up fun o=>s b o
theorem FH.trans {H a c:Hp} (s:FH H a) (t:FH a c):FH H c:=fun b u r=>t b u (s b u r)
theorem FH.CK {H:Hp} {a:Addr} {o:Obj} {kvs:List (Key×V)} (e:H a=some (.dK kvs)):FH H (upd H a (.CK o (.dK kvs))):=fun b u r=>by
 by_cases c:b=a
 ·subst c
  rcases r with r|⟨d,r⟩
  ·rw[e]at r;cases r;exact .inr ⟨o,AE⟩
  ·rw[e]at r;cases r
 ·exact r.up fun d q=>by rw[AN c];exact q
theorem Dc.UN {H H':Hp} {d:Dc} (s:FH H H') (h:d.At H):d.At H':=Dc.QW d (fun a _ u r=>s a u r) h
end L2
namespace PySem
open PyProof.Rows PySem.F PySem.Spec
theorem Jw:typeLookup (.type "list") "keys"=pure none:=by rw[typeLookup_type,builtinLookup_eq_fast];kernel_rfl
theorem Jx {prog:Program} {w:World} {A:Around} {E:Value->Shared->Prop} {s:Shared} {a:Addr} {o:Obj} {xs:Array Value} {k:Nat} {Q:Option Value->Shared->Prop}
  (j:s.heap.get? a=some o) (l:o.cls=.type "list") (b:o.data=.seq xs k) (m:o.dict=none) (p:A.handled=none)
  (h:∀h' tk e,Heap.NewExcOf s.heap h' e "AttributeError"->Q none {s with heap:=h',toks:=tk}):
  wpAny (model prog w) A (getAttr? (.ref a) "keys") Q E s:=by
 obtain⟨c,ES,q,r⟩:=o
 simp only at l b m
 subst l b m
 obtain⟨t,g,d,tk,os⟩:=s
 have n:∀f,(⟨t,g,d,f,os⟩:Shared).TypeIs (.ref a) "list":=fun _=>⟨_,j,rfl⟩
 have u:=sub_AttributeError
 have v:=F.slot_list_getattribute.lookup
 have x:=F.slot_list_getattribute.bind (.ref a)
 have y:=am_list_getattr_none
 unfold getAttr? getAttrBy? getAttrBy
 repeat (any_goals (first|assumption|exact n _|((with_reducible show wpAny _ _ (call (Value.builtin "list.__getattribute__") _ _) _ _ _);refine call_meets F.slot_list_getattribute (n _) am_entry_list_getattribute (F.args_list_getattribute_2 _ _) (meets_getattribute_miss_list a xs k r "keys" _ Jw (by decide+kernel) (by decide+kernel)) ⟨j,p,fun h' f e i=>?_⟩)|wp_step))
 obtain⟨z,B,C⟩:=i.there
 show wpAny _ _ (getattributeRaised _ _ _ _ _ _ _) _ _ _
 unfold getattributeRaised
 repeat (any_goals (first|assumption|wp_step))
 exact h _ _ _ i.of
theorem FI:entryFor table "dict.update.loop"=some Builtin.«dict.update.loop»:=entryFor_of_tree (by kernel_rfl)
theorem Cd:plainId "dict.update.loop"=true:=by decide+kernel
section
variable{prog:Program} {w:World} {K:Type} [DecidableEq K] {knd:KeyKind prog w K} {A:Around} {R:Result->Shared->Prop}
theorem Ra {I l d:Addr} {items:Array Value} {more:List (K×Value)} (hh:A.handled=none) (F:l≠I) (h:d≠I) (G:d≠l) (hlen:items.size=more.length) (hsz:more.length<=100000):
  ∀(k i:Nat) (s:Shared),more.length-i=k->i<=more.length->s.heap.IsListIter I l i->s.heap.IsList l items->s.heap.DictOf knd d (merged [] (more.take i))->
   (∀(j:Nat) x c,more[j]?=some (x,c)->∃t a,items[j]?=some (.ref t)/\t≠d/\t≠I/\IsTup s.heap t #[a,c]/\knd.is x a=true)->
   (∀h' tk,h'.DictOf knd d (merged [] more)->(∀b o,b≠d->b≠I->s.heap.get? b=some o->h'.get? b=some o)->R (.ok (.ret .none)) {s with heap:=h',toks:=tk})->
   codeAny (model prog w) A (.builtin "dict.update.loop" ⟨[.ref d,.ref I,rawInt (i:Int),.none],[]⟩) R s:=by
 have W:=Walks.list (prog:=prog) (w:=w) (A:=A.in1) hh I l F items
 intro k
 induction k with
 |zero=>
  intro i s hk hi m H D J L
  have M:i=more.length:=by lia
  subst M
  refine codeAny_builtin FI ?_
  rw[Around.under_plainId Cd _]
  show wpAny _ A.in1 (pyNext (.ref I)>>=_) _ _ s
  refine wpAny_bind (W.done s _ _ (by rw[hlen];exact⟨m,H⟩) fun h' tk kept=>?_)
  rw[List.take_length]at D
  obtain⟨o,N,O,P,r⟩:=D
  show wpAny _ A.in1 (Builtin.Dict.addKeywords d []>>=_) _ _ _
  exact wpAny_bind (wpAny_pure (wpAny_pure (L h' tk ⟨o,N,O,kept _ _ (by simp[h]) P,r⟩ fun b o _ hb e=>kept b o (by simp[hb]) e)))
 |succ k ih=>
  intro i s hk hi m H D J L
  have n:i<more.length:=by lia
  obtain⟨⟨x,c⟩,hm⟩:∃p,more[i]?=some p:=⟨_,AAA n⟩
  obtain⟨t,a,ht,td,tI,tup,f⟩:=J i x c hm
  refine codeAny_builtin FI ?_
  rw[Around.under_plainId Cd _]
  show wpAny _ A.in1 (pyNext (.ref I)>>=_) _ _ s
  refine wpAny_bind (W.item i s _ _ (by rw[hlen];exact n) ⟨m,H⟩ fun v h' tk hv y kept=>?_)
  rw[ht]at hv
  cases hv
  obtain⟨ot,Q,q,nt,z⟩:=tup
  have g:h'.get? t=some ot:=kept _ _ (by simp[tI]) Q
  have hT:({s with heap:=h',toks:=tk}:Shared).TypeIs (.ref t) "tuple":=⟨_,g,q⟩
  obtain⟨ct,dt,dat,slt⟩:=ot
  simp only at q z
  subst q z
  obtain⟨o,N,O,P,r⟩:=id D
  have S:h'.DictOf knd d (merged [] (more.take i)):=⟨o,N,O,kept _ _ (by simp[h]) P,r⟩
  have T:(merged [] (more.take i)).length<=sizeLine:=by
   have:=merged_length_le ([]:List (K×Value)) (more.take i)
   rw[List.length_take,List.length_nil]at this
   have e:sizeLine=16777216:=sizeLine_eq
   lia
  show wpAny _ A.in1 (holding [Value.ref t] _>>=_) _ _ _
  refine wpAny_bind (wpAny_holding (wpAny_bind (wpAny_tryCatch ?_)))
  unfold Builtin.Dict.pairItems
  refine wpAny_bind (wpAny_typeOf hT ?_)
  rw[if_pos (by decide)]
  unfold seqItems?
  refine wpAny_bind ?_
  refine wpAny_bind (wpAny_load g ?_)
  refine wpAny_pure (wpAny_pure ?_)
  show wpAny _ A.in1 (holding [a,c] (dictSet d a c)) _ _ _
  refine wpAny_holding ?_
  unfold dictSet
  try with_reducible refine wpAny_holding ?_
  refine wpAny_bind (knd.pyHash f ?_)
  refine wpAny_dictSetHashed_pairs (hsz:=T) f S fun h2 B u=>?_
  have e1:stored (merged [] (more.take i)) x c=merged [] (more.take (i+1)):=(merged_take_succ [] more i (x,c) hm).symm
  rw[e1]at B
  have kp:∀b o,b≠d->b≠I->s.heap.get? b=some o->h2.get? b=some o:=fun b o E U e=>by
   rw[u.2 b E]
   exact kept b o (by simp[U]) e
  have ic:((i:Int)+1)=((i+1:Nat):Int):=by simp
  refine wpAny_pure ⟨plainId_quiet Cd _,?_⟩
  rw[ic]
  refine ih (i+1) _ (by lia) n (y.1.at fun o e=>by rw[u.2 I (Ne.symm h)];exact e) (y.2.at fun o e=>by rw[u.2 l (Ne.symm G)];exact e) B (fun j k2 v2 hj=>?_) (fun U V X Y=>L U V X fun b o E h4 e=>Y b o E h4 (kp b o E h4 e))
  obtain⟨t2,C,a1,a2,a3,⟨Z,b1,b2⟩,a5⟩:=J j k2 v2 hj
  exact⟨t2,C,a1,a2,a3,⟨Z,kp _ _ a2 a3 b1,b2⟩,a5⟩
end
end PySem
namespace L2
open PySem PySem.Spec PyProof.Rows
section
variable{X:Cx}
inductive Qb (K:AAE) (xs:List V) (H:Hp) (Q:VK):Prop
 |mk (l:Addr) (a:List Addr) (kvs:List (Key×V)) (b:xs=[.ref l]) (c:A_ K H l (a.map V.ref)) (d:a.length=kvs.length) (e:(∀(j:Nat) k v,kvs[j]?=some (k,v)->∃t,a[j]?=some t/\H t=some (.tup [kV k,v]))) (f:kvs.length<=1000) (g:∀p,H p=none->Q (.ref p) (upd H p (.dK (DF [] kvs)))):Qb K xs H Q
def aR (K:AAE):List V->Hp->VK->Prop:=fun a H Q=>Qb K a H Q
theorem Iz (hc:X.calm=true):EX X (.type "dict") (aR X.K):=by
 intro pins s σ H xs us Q I r h
 obtain⟨l,f,kvs,rfl,hl,hlen,hp,hz,q⟩:=h
 obtain⟨u,rfl,ru⟩:=vals1 r
 cases ru
 obtain⟨n,rv,pl,_⟩:=I.list hl
 obtain⟨W,nl,L,x,Y,C⟩:=id pl
 have M:X.A.in1.handled=none:=I.ok.hd hc
 refine callType_codes (Q₁:=fun N B=>N=.ref s.heap.objs.size/\B={s with heap:=s.heap.push {cls:=.type "dict",data:=.dict #[]}}) F.kt_called_dict (F.kt_typeCall_dict_1 _) F.entry_dict_init (kt_code_dict_new _ ⟨rfl,rfl⟩) ?_
 rintro N B ⟨rfl,rfl⟩
 have g:(s.heap.push {cls:=.type "dict",data:=.dict #[]}).DictOf (A' X.prog X.w) s.heap.objs.size []:=Heap.DictOf.new s.heap
 refine⟨g.typeIs,F.args_dict_init_2 _ _,?_⟩
 unfold Builtin.«dict.__init__»
 refine wpAny_bind ?_
 unfold Builtin.Dict.selfAndRest
 refine wpAny_bind (wpAny_notOrdered_dict g.typeIs ?_)
 show wpAny _ _ (pure (s.heap.objs.size,[Value.ref l])) _ _ _
 refine wpAny_pure ?_
 show wpAny _ _ (Builtin.Dict.updateFrom "dict.__init__" s.heap.objs.size (.ref l) [] .none) _ _ _
 unfold Builtin.Dict.updateFrom
 have c:(s.heap.push {cls:=.type "dict",data:=.dict #[]}).get? l=some W:=Heap.get?_push_of_some _ L
 have Z:({s with heap:=s.heap.push {cls:=.type "dict",data:=.dict #[]}}:Shared).TypeIs (.ref l) "list":=⟨_,c,x⟩
 refine wpAny_bind (wpAny_typeOf Z ?_)
 rw[if_pos (by decide)]
 refine wpAny_bind (Jx c x C Y M fun D zO e1 ne1=>?_)
 rw[if_pos (show(Option.isNone (none:Option Value))=true from rfl)]
 have i:∀b o,(s.heap.push {cls:=.type "dict",data:=.dict #[]}).get? b=some o->D.get? b=some o:=ne1.keeps
 have O:∀b o,s.heap.get? b=some o->D.get? b=some o:=fun b o e=>i b o (Heap.get?_push_of_some _ e)
 have vI:D.IsList l n.toArray:=⟨W,i _ _ c,x,nl,C⟩
 refine wpAny_bind (wpAny_rule ?_)
 refine wpAny_bind (wpAny_pyIter_list vI ?_)
 refine wpAny_pure ⟨plainId_quiet Cd _,?_⟩
 obtain⟨od,es,ep,P,rd⟩:=id g
 have y:s.heap.objs.size<D.objs.size:=Heap.lt_size (i _ _ P)
 have R:l<s.heap.objs.size:=Heap.lt_size L
 have vJ:∀kvs:List (Key×V),(∀p∈kvs,∃(t:Addr),H t=some (.tup [kV p.1,p.2]))->True:=fun _ _=>trivial
 have E:∀(t:Addr) k v,H t=some (.tup [kV k,v])->∃a d,IsTup s.heap t #[a,d]/\(A' X.prog X.w).is k a=true/\RelV v d:=fun t k v e=>by
  obtain⟨z,r2,tp,_⟩:=I.tuple (Ap.of e)
  cases r2 with
  |cons ra rr=>
   cases rr with
   |cons rb rr=>
    cases rr
    exact⟨_,_,tp,Gq ra,rb⟩
 obtain⟨more,G⟩:∃more:List (Key×Value),KV kvs more/\∀(j:Nat) m d,more[j]?=some (m,d)->∃t a,f[j]?=some t/\IsTup s.heap t #[a,d]/\(A' X.prog X.w).is m a=true:=by
  have gen:∀(kvs:List (Key×V)) (f:List Addr),(∀(j:Nat) k v,kvs[j]?=some (k,v)->∃t,f[j]?=some t/\H t=some (.tup [kV k,v]))->
    ∃more:List (Key×Value),KV kvs more/\∀(j:Nat) m d,more[j]?=some (m,d)->∃t a,f[j]?=some t/\IsTup s.heap t #[a,d]/\(A' X.prog X.w).is m a=true:=by
   intro kvs
   induction kvs with
   |nil=>exact fun f _=>⟨[],.nil,fun j m d e=>by simp at e⟩
   |cons p r ih=>
    intro f h
    obtain⟨k,v⟩:=p
    obtain⟨t,e1,e2⟩:=h 0 k v rfl
    obtain⟨a,d,a1,a2,a3⟩:=E t k v e2
    obtain⟨more,b1,b2⟩:=ih f.tail (fun j k v e=>by
     obtain⟨t,c1,c2⟩:=h (j+1) k v (by simpa using e)
     exact⟨t,by rw[List.getElem?_tail];exact c1,c2⟩)
    refine⟨(k,d)::more,.cons ⟨rfl,a3⟩ b1,fun j m S e=>?_⟩
    cases j with
    |zero=>
     have e:(k,d)=(m,S):=by simpa using e
     cases e
     exact⟨t,a,e1,a1,a2⟩
    |succ j=>
     obtain⟨t,a,c1,c2,c3⟩:=b2 j m S (by simpa using e)
     exact⟨t,a,by rw[List.getElem?_tail]at c1;exact c1,c2,c3⟩
  exact gen kvs f hp
 obtain⟨J,hm⟩:=G
 have T:n.length=f.length:=by rw[<-rv.length,List.length_map]
 have U:∀(j:Nat) t,f[j]?=some t->n.toArray[j]?=some (.ref t):=fun j t e=>by
  obtain⟨u,D,h2⟩:=rv.get (show(f.map V.ref)[j]?=some (.ref t)by rw[List.getElem?_map,e];rfl)
  cases h2
  simpa using D
 show codeAny _ _ (.builtin "dict.update.loop" ⟨[.ref s.heap.objs.size,.ref D.objs.size,rawInt ((0:Nat):Int),.none],[]⟩) _ _
 refine Ra (knd:=A' X.prog X.w) (l:=l) (items:=n.toArray) (more:=more) M (Nat.ne_of_lt (Nat.lt_trans R y)) (Nat.ne_of_lt y) (Nat.ne_of_gt R) (by rw[List.size_toArray,T,hlen];exact J.length) (by rw[<-J.length];lia) more.length 0 _ (by simp) (Nat.zero_le _)
  ⟨_,Heap.get?_push_size _ rfl,rfl,rfl⟩ ⟨W,Heap.get?_push_of_some _ (i _ _ c),x,nl,C⟩ ⟨od,es,ep,Heap.get?_push_of_some _ (i _ _ P),rd⟩ (fun j m d e=>?_) (fun h2 vK hd2 vL=>⟨rfl,?_⟩)
 ·obtain⟨t,a,c1,⟨ot,c2,vM⟩,c3⟩:=hm j m d e
  have:t<s.heap.objs.size:=Heap.lt_size c2
  exact⟨t,a,U j t c1,Nat.ne_of_lt this,Nat.ne_of_lt (Nat.lt_trans this y),⟨ot,Heap.get?_push_of_some _ (O _ _ c2),vM⟩,c3⟩
 ·have iF:(DF [] kvs).length<=sizeLine:=by
   have:=EN kvs []
   exact BA (by simp at this;lia)
  refine⟨.ref s.heap.objs.size,_,I.laid (t':=vK) (fun b o e=>?_) (Nat.le_refl _) (MI iF (beq_eq_false_iff_ne.mpr (Ne.symm (Nat.ne_of_lt I.big))) (KV.merge J .nil) hd2),rfl,q _ I.fresh⟩
  have:=Heap.lt_size e
  exact vL b o (Nat.ne_of_lt this) (Nat.ne_of_lt (Nat.lt_trans this y)) (Heap.get?_push_of_some _ (O _ _ e))
end
theorem Nz {x:V} (h:BR x=true):Kk x x=true:=by
 cases x<;>simp_all [BR,Kk]
section
variable{X:Cx}
theorem Rb {pins:List (Addr×Obj)} {σ:St} {H:Hp} {s:Shared} {A:Around} {xs ys:List V} {its a:List Value} (d:Vals xs its) (e:Vals ys a) (f:∀z∈xs,BR z=true) (g:∀z∈ys,BR z=true)
  (j:Nat) (h:j<its.toArray.size) (i:j<a.toArray.size):SeqAt.EqAt A s its.toArray[j] a.toArray[j] (Kk (xs.getD j .BL) (ys.getD j .BL)):=by
 have k:its.toArray.size=xs.length:=by rw[List.size_toArray];exact d.length.symm
 have l:a.toArray.size=ys.length:=by rw[List.size_toArray];exact e.length.symm
 have b:j<xs.length:=by rw[<-k];exact h
 have c:j<ys.length:=by rw[<-l];exact i
 obtain⟨m,n,o⟩:=d.get (AAA b)
 obtain⟨p,q,r⟩:=e.get (AAA c)
 have t:its.toArray[j]=m:=by
  have:=(AAB n).2
  simpa using this
 have u:a.toArray[j]=p:=by
  have:=(AAB q).2
  simpa using this
 rw[t,u]
 have v:xs.getD j .BL=xs[j]:=by rw[List.getD_eq_getElem?_getD,AAA b];rfl
 have w:ys.getD j .BL=ys[j]:=by rw[List.getD_eq_getElem?_getD,AAA c];rfl
 rw[v,w]
 exact MG o r (f _ (List.getElem_mem b)) (g _ (List.getElem_mem c))
inductive eN (K:AAE) (c:Bool) (x:V) (y:V) (H:Hp) (Q:VK):Prop
 |mk (a:Addr) (b:Addr) (xs:List V) (ys:List V) (d:x=.ref a) (e:y=.ref b) (f:A_ K H a xs) (g:A_ K H b ys) (h:(∀z∈xs,BR z=true)) (i:(∀z∈ys,BR z=true)) (j:Q (.bl (if c then !Bz xs ys else Bz xs ys)) H):eN K c x y H Q
theorem UO {a:Expr} {f:TA} {p pos:Pos} (l:Gl X "range") (m:X.mg "range"=none) (n:PA X [a] f) (u:starEach [a] X.env=[(false,eval a X.env)]:=by rfl):
  PE X (.Call (.Name "range" p) [a] [] pos) (fun d H Q=>f d H fun g c=>∃j:Int,g=[.int j]/\∀r,c r=none->Q (.ref r) (upd c r (.Ze 0 j))):=by
 intro pins s d H Q I h
 refine Call_ (FN I l m boot_range (PyProof.Rows.callWith_type1 (Bl (n pos pins s d H _ I h) fun z i v=>v.elim fun g c k w x=>?_) u rfl))
 obtain⟨j,e,q⟩:=x
 subst e
 cases w with
 |cons r y=>
  cases y
  obtain⟨t,rfl⟩:=r
  exact call_range_1 ⟨.ref i.heap.objs.size,upd c i.heap.objs.size (.Ze 0 j),k.laid (fun b o e=>Heap.get?_push_of_some _ e) (Nat.le_refl _) ⟨_,_,_,Heap.get?_push_size _ rfl⟩,rfl,q _ k.fresh⟩
inductive Eh (xs:List V) (H:Hp) (Q:VK):Prop
 |mk (r:Addr) (n:Nat) (a:xs=[.ref r]) (b:H r=some (.Ze 0 (n:Int))) (c:n<=1000) (d:∀l,H l=none->Q (.ref l) (upd H l (.lst ((List.range n).map fun(i:Nat)=>V.int (i:Int))))):Eh xs H Q
def I_:List V->Hp->VK->Prop:=fun a H Q=>Eh a H Q
theorem Kt (o:X.calm=true):EX X (.type "list") I_:=by
 intro pins s K H L M Q I r h
 obtain⟨g,n,rfl,p,x,q⟩:=h
 obtain⟨u,rfl,y⟩:=vals1 r
 cases y
 obtain⟨t,u,v,e⟩:=(show BM X.prog X.w H s.heap g (.Ze 0 (n:Int))from I.BV g _ p)
 have f:X.A.handled=none:=I.ok.hd o
 refine call_list_range (n:=n) f e (small_one (by lia) (by lia) (by lia) (by lia)) (by rw[rangeSize_one];split<;>lia) (by lia) fun B C b D E F j=>?_
 have G:((List.range n).map fun(i:Nat)=>V.int (i:Int)).length<=sizeLine:=by rw[List.length_map,List.length_range];exact BA x
 refine⟨.ref s.heap.objs.size,_,I.laid (t':=C) E (Nat.le_refl _) (show BM X.prog X.w _ B _ (.lst _)from⟨G,b.toList,D,?_,by rw[Array.toArray_toList];exact F⟩),rfl,q _ I.fresh⟩
 have gen:∀(n:Nat) (l:List Value),l.length=n->(∀(i:Nat) v,l[i]?=some v->∃t,v=Value.int (0+(i:Int)*1) t)->Vals ((List.range n).map fun(i:Nat)=>V.int (i:Int)) l:=by
  intro n
  induction n with
  |zero=>intro l c _;rw[List.eq_nil_of_length_eq_zero c];exact .nil
  |succ n J=>
   intro l c k
   have a:l≠[]:=fun z=>by rw[z]at c;cases c
   have m:l=l.dropLast++[l.getLast a]:=(List.dropLast_concat_getLast a).symm
   rw[List.range_succ,List.map_append,m]
   refine(J l.dropLast (by rw[List.length_dropLast,c];rfl) fun i v d=>?_).append (.cons ?_ .nil)
   ·refine k i v ?_
    rw[m,List.getElem?_append_left ((AAB d).1)]
    exact d
   ·have:l[n]?=some (l.getLast a):=by
     rw[List.getLast_eq_getElem]
     have:l.length-1=n:=by lia
     rw[AAA (by lia)]
     congr 1
     simp[this]
    obtain⟨t,e⟩:=k n _ this
    exact⟨t,by rw[e];congr 1;lia⟩
 exact gen n b.toList (by rw[Array.length_toList];exact j.1) fun i v d=>j.2 i v (by rw[<-Array.getElem?_toList];exact d)
inductive HF (xs:List V) (H:Hp) (Q:VK):Prop
 |mk (a:_) (kvs:_) (b:xs=[.ref a]) (c:Rd H a (.dK kvs)) (d:∀p,H p=none->Q (.ref p) (upd H p (.dK kvs))):HF xs H Q
inductive MV (xs:List V) (H:Hp) (Q:VK):Prop
 |mk (a:_) (kvs:_) (b:xs=[V.ref a]) (c:Rd H a (.dK kvs)) (d:Q (.int kvs.length) H):MV xs H Q
end
namespace Dc
mutual
def deep:Dc->Nat
 |leaf _=>1
 |row _ xs=>1+Cn xs
 |tab _ _ xs=>1+Cn xs
def Cn:List Dc->Nat
 |[]=>0
 |x::r=>max (deep x) (Cn r)
end
theorem HG (d:Dc):1<=d.deep:=by cases d<;>simp only[deep]<;>lia
theorem Bf:∀{xs:List Dc} {x:Dc},x∈xs->x.deep<=Cn xs
 |[],_,h=>nomatch h
 |y::r,x,h=>by
  simp only[Cn]
  rcases List.mem_cons.mp h with rfl|h
  ·lia
  ·have:=Bf h
   lia
mutual
theorem Bo:∀d:Dc,d.deep<=d.size
 |leaf _=>Nat.le_refl _
 |row a xs=>by simp only[deep,size];have:=GR xs;lia
 |tab a b xs=>by simp only[deep,size];have:=GR xs;lia
theorem GR:∀xs:List Dc,Cn xs<=Ae xs
 |[]=>Nat.le_refl _
 |x::r=>by simp only[Cn,Ae];have:=Bo x;have:=GR r;lia
end
mutual
def parts:Dc->List Dc
 |leaf v=>[leaf v]
 |row a xs=>row a xs::PU xs
 |tab a ks xs=>tab a ks xs::PU xs
def PU:List Dc->List Dc
 |[]=>[]
 |x::r=>parts x++PU r
end
structure BD (e d:Dc):Prop where
 at_:∀{H:Hp},d.At H->e.At H
 ok:d.ok->e.ok
 slim:d.slim->e.slim
 deep:e.deep<=d.deep
 size:e.size<=d.size
 addrs:∀a∈e.addrs,a∈d.addrs
theorem BD.refl (d:Dc):BD d d:=⟨id,id,id,Nat.le_refl _,Nat.le_refl _,fun _ h=>h⟩
theorem BD.trans {e d c:Dc} (p:BD e d) (q:BD d c):BD e c:=⟨fun h=>p.at_ (q.at_ h),fun h=>p.ok (q.ok h),fun h=>p.slim (q.slim h),Nat.le_trans p.deep q.deep,Nat.le_trans p.size q.size,fun a h=>q.addrs a (p.addrs a h)⟩
theorem BD.row {x:Dc} {a:Addr} {xs:List Dc} (h:x∈xs):BD x (row a xs):=
 ⟨fun q=>by simp only[At]at q;exact CD q.2 x h,fun q=>by simp only[Dc.ok]at q;exact BC.mp q x h,fun q=>by simp only[Dc.slim]at q;exact Eg q x h,
  by simp only[Dc.deep];have:=Bf h;lia,by simp only[Dc.size];have:=Bn h;lia,fun c b=>by simp only[Dc.addrs];exact List.mem_cons_of_mem _ (GK h b)⟩
theorem BD.tab {x:Dc} {a:Addr} {ks:List Str} {xs:List Dc} (h:x∈xs):BD x (tab a ks xs):=
 ⟨fun q=>by simp only[At]at q;exact CD q.2.2.2 x h,fun q=>by simp only[Dc.ok]at q;exact BC.mp q.2 x h,fun q=>by simp only[Dc.slim]at q;exact Eg q.2 x h,
  by simp only[Dc.deep];have:=Bf h;lia,by simp only[Dc.size];have:=Bn h;lia,fun c b=>by simp only[Dc.addrs];exact List.mem_cons_of_mem _ (GK h b)⟩
mutual
def CS:Dc->Dc->Prop
 |leaf v,leaf w=>v=w
 |row _ xs,row _ ys=>Ba xs ys
 |tab _ ks xs,tab _ a ys=>ks=a/\Ba xs ys
 |_,_=>False
def Ba:List Dc->List Dc->Prop
 |[],[]=>True
 |x::r,y::t=>CS x y/\Ba r t
 |_,_=>False
end
theorem HH:∀{xs ys:List Dc},Ba xs ys->xs.length=ys.length
 |[],[],_=>rfl
 |[],_::_,h=>by simp[Ba]at h
 |_::_,[],h=>by simp[Ba]at h
 |x::r,y::t,h=>by simp only[Ba]at h;simp only[List.length_cons,HH h.2]
theorem HI {xs a ys b:List Dc}:Ba xs ys->Ba a b->Ba (xs++a) (ys++b):=by
 induction xs generalizing ys with
 |nil=>
  intro h c
  cases ys with
  |nil=>exact c
  |cons y t=>simp[Ba]at h
 |cons x r d=>
  intro h c
  cases ys with
  |nil=>simp[Ba]at h
  |cons y t=>
   simp only[Ba,List.cons_append]at h⊢
   exact⟨h.1,d h.2 c⟩
mutual
theorem LQ:∀d:Dc,CS d d
 |leaf _=>by simp[CS]
 |row _ xs=>by simp only[CS];exact GS xs
 |tab _ _ xs=>by simp only[CS];exact⟨trivial,GS xs⟩
theorem GS:∀xs:List Dc,Ba xs xs
 |[]=>by simp[Ba]
 |x::r=>by simp only[Ba];exact⟨LQ x,GS r⟩
end
mutual
theorem Fq:∀d e:Dc,CS d e->d.ok->e.ok
 |leaf v,e,h,k=>by cases e<;>simp_all [CS,ok]
 |row a xs,e,h,k=>by
  cases e with
  |row b ys=>simp only[CS]at h;simp only[ok]at k⊢;exact Jy xs ys h k
  |_=>simp[CS]at h
 |tab a ks xs,e,h,k=>by
  cases e with
  |tab b c ys=>simp only[CS]at h;simp only[ok]at k⊢;exact⟨h.1▸k.1,Jy xs ys h.2 k.2⟩
  |_=>simp[CS]at h
theorem Jy:∀xs ys:List Dc,Ba xs ys->Gd xs->Gd ys
 |[],[],_,_=>by simp[Gd]
 |[],_::_,h,_=>by simp[Ba]at h
 |_::_,[],h,_=>by simp[Ba]at h
 |x::r,y::t,h,k=>by simp only[Ba]at h;simp only[Gd]at k⊢;exact⟨Fq x y h.1 k.1,Jy r t h.2 k.2⟩
end
mutual
theorem Du:∀d e:Dc,CS d e->d.size=e.size
 |leaf v,e,h=>by cases e<;>simp_all [CS,size]
 |row a xs,e,h=>by
  cases e with
  |row b ys=>simp only[CS]at h;simp only[size,GU xs ys h]
  |_=>simp[CS]at h
 |tab a ks xs,e,h=>by
  cases e with
  |tab b c ys=>simp only[CS]at h;simp only[size,GU xs ys h.2]
  |_=>simp[CS]at h
theorem GU:∀xs ys:List Dc,Ba xs ys->Ae xs=Ae ys
 |[],[],_=>rfl
 |[],_::_,h=>by simp[Ba]at h
 |_::_,[],h=>by simp[Ba]at h
 |x::r,y::t,h=>by simp only[Ba]at h;simp only[Ae,Du x y h.1,GU r t h.2]
end
def kids:Dc->List Dc
 |leaf _=>[]
 |row _ xs=>xs
 |tab _ _ xs=>xs
def XI:Dc->List V->Prop
 |leaf _,l=>l=[]
 |row _ xs,l=>l=(List.range xs.length).map fun(i:Nat)=>V.int (i:Int)
 |tab _ ks _,l=>∃a:List Str,l=a.map V.str/\a.Perm ks/\sortedS a=true
end Dc
structure BQ (H H':Hp) (d:Dc):Prop where
 same:AG H H'
 at_:d.At H'
 nd:d.addrs.Nodup
 own:∀a∈d.addrs,∀o u,H' a≠some (.CK o u)
 new:∀a∈d.addrs,H a=none
theorem BQ.up {H b c:Hp} {d:Dc} (D:BQ H b d) (s:AG b c):BQ H c d:=⟨D.same.trans s,Dc.Ad s D.at_,D.nd,fun a e=>Bs (Dc.there D.at_ e) (D.own a e) (s a),D.new⟩
inductive Qc (n:Nat) (b:List V) (H:Hp) (Q:VK) (a:XK):Prop
 |mk (d:Dc) (c:b=[d.val]) (e:d.At H) (f:d.deep<=n) (g:d.size<=900) (h:∀(d':Dc) (H':Hp),BQ H H' d'->Dc.CS d d'->Q d'.val H'):Qc n b H Q a
def Jz (n:Nat):Sp:=fun b H Q a=>Qc n b H Q a
inductive UP (n:Nat) (b:List V) (H:Hp) (Q:VK) (a:XK):Prop
 |mk (d:Dc) (e:Dc) (c:b=[d.val,e.val]) (f:d.At H) (g:e.At H) (h:Dc.CS d e) (i:d.slim) (j:d.deep<=n) (k:d.size<=900) (l:∀H',AG H H'->Q (.bl true) H'):UP n b H Q a
inductive UQ (n:Nat) (b:List V) (H:Hp) (Q:VK) (a:XK):Prop
 |mk (d:Dc) (c:b=[d.val]) (e:d.At H) (f:d.deep<=n) (g:d.size<=900) (h:∀(p:Addr) (H':Hp),AG H H'->H p=none->H' p=some (.lst (d.parts.map Dc.val))->Q (.ref p) H'):UQ n b H Q a
inductive UR (b:List V) (H:Hp) (Q:VK) (a:XK):Prop
 |mk (d:Dc) (c:b=[d.val]) (e:d.At H) (f:d.slim) (g:d.size<=900) (h:∀(p:Addr) (l:List V) (H':Hp),AG H H'->H p=none->H' p=some (.lst l)->d.XI l->Q (.ref p) H'):UR b H Q a
inductive US (b:List V) (H:Hp) (Q:VK) (a:XK):Prop
 |mk (d:Dc) (e:b=[d.val]) (f:d.At H) (g:d.slim) (h:d.size<=900) (i:∀(p:Addr) (c:List Dc) (H':Hp),AG H H'->H p=none->H' p=some (.lst (c.map Dc.val))->c.Perm d.kids->Q (.ref p) H'):US b H Q a
inductive Rc (b:List V) (H:Hp) (Q:VK) (a:XK):Prop
 |mk (d:Dc) (c:b=[d.val]) (e:d.At H) (f:d.slim) (g:d.size<=900) (h:∀H',AG H H'->Q (.int (d.size:Int)) H'):Rc b H Q a
inductive UT (b:List V) (H:Hp) (Q:VK) (a:XK):Prop
 |mk (d:Dc) (c:b=[d.val]) (e:d.At H) (f:d.ok) (g:d.slim) (h:d.size<=900) (i:∀H',AG H H'->Q (.bl true) H'):UT b H Q a
def Dc.kindS:Dc->Str
 | .leaf (.str _)=>"text"
 | .leaf _=>"number"
 | .row _ _=>"row"
 | .tab _ _ _=>"table"
inductive XJ (b:List V) (H:Hp) (Q:VK) (a:XK):Prop
 |mk (d:Dc) (c:b=[d.val]) (e:d.At H) (f:Q (.str d.kindS) H):XJ b H Q a
inductive UU (n:Nat) (b:List V) (H:Hp) (Q:VK) (a:XK):Prop
 |mk (d:Dc) (t:Addr) (xs:List V) (c:b=[d.val,.ref t]) (e:d.At H) (f:d.ok) (g:d.slim) (h:d.deep<=n) (i:H t=some (.tup xs)) (j:xs.length+d.size<=1000) (k:∀(p:Addr) (ps:List Addr) (H':Hp),AG H H'->H p=none->H' p=some (.lst (ps.map V.ref))->ps.length=d.size->(∀q∈ps,∃zs,H' q=some (.tup (xs++zs))/\(d.sub zs).isSome=true)->Q (.ref p) H'):UU n b H Q a
def back (a:Addr) (H H':Hp):Hp:=fun b=>if b=a then H a else H' b
theorem Qd {a b:Addr} {H H':Hp} (h:b≠a):back a H H' b=H' b:=if_neg h
theorem XM {a:Addr} {H H':Hp}:back a H H' a=H a:=if_pos rfl
theorem UW {a:Addr} {H H':Hp} {u:HO} (e:H a=some u):back a H H'=upd H' a u:=by
 funext b
 unfold back upd
 split
 ·exact e
 ·rfl
theorem Rf {a:Addr} {H H':Hp} (e:H a=H' a):back a H H'=H':=by
 funext b
 unfold back
 split
 ·rename_i h;rw[h,e]
 ·rfl
structure S_ (a:Addr) (o:Obj) (kvs:List (Key×V)) (H Hf:Hp):Prop where
 at_:Hf a=some (.CK o (.dK kvs))
 rd:FH H Hf
 ne:∀b,b≠a->Hf b=H b
 zP:Rd H a (.dK kvs)
theorem S_.free {a b:Addr} {o:Obj} {kvs:List (Key×V)} {H c:Hp} (F:S_ a o kvs H c) (h:c b=none):H b=none/\b≠a:=by
 have d:b≠a:=fun z=>by rw[z,F.at_]at h;cases h
 rw[F.ne b d]at h
 exact⟨h,d⟩
theorem S_.back {a:Addr} {o:Obj} {kvs:List (Key×V)} {H d f:Hp} (F:S_ a o kvs H d) (s:AG d f):AG H (back a H f):=fun b u e=>by
 by_cases c:b=a
 ·subst c;rw[XM];exact e
 ·rw[Qd c]
  exact s b u (by rw[F.ne b c];exact e)
inductive Qe (t:TE) (σ:St) (H:Hp) (Q:VK):Prop
 |mk (a:_) (kvs:_) (c:Rd H a (.dK kvs)) (d:∀o b,S_ a o kvs H b->t σ b fun v H'=>H' a=some (.CK o (.dK kvs))/\Q v (back a H H')):Qe t σ H Q
def aS (t:TE):TE:=fun a H Q=>Qe t a H Q
inductive XN (t:TS) (D:Ends) (σ:St) (H:Hp):Prop
 |mk (a:_) (kvs:_) (c:Rd H a (.dK kvs)) (d:∀o b,S_ a o kvs H b->t ⟨fun σ H'=>H' a=some (.CK o (.dK kvs))/\D.nx σ (back a H H'),fun v H'=>H' a=some (.CK o (.dK kvs))/\D.rt v (back a H H'),fun σ H'=>H' a=some (.CK o (.dK kvs))/\D.bk σ (back a H H'),fun σ H'=>H' a=some (.CK o (.dK kvs))/\D.ct σ (back a H H')⟩ σ b):XN t D σ H
theorem S_.of {a:Addr} {o:Obj} {kvs:List (Key×V)} {H:Hp} (e:H a=some (.dK kvs)):S_ a o kvs H (upd H a (.CK o (.dK kvs))):=⟨AE,FH.CK e,fun b c=>AN c,.inl e⟩
theorem S_.same {a:Addr} {o:Obj} {kvs:List (Key×V)} {H:Hp} (e:H a=some (.CK o (.dK kvs))):S_ a o kvs H H:=⟨e,fun _ _ r=>r,fun _ _=>rfl,.inr ⟨o,e⟩⟩
section
variable{X:Cx}
theorem XO {e:Expr} {t:TE} (h:PE X e t):PE X e (aS t):=by
 rintro pins s c H Q I ⟨a,kvs,r,d⟩
 rcases r with r|⟨o,r⟩
 ·refine aP h pins s c H Q I ⟨a,kvs,r,fun o=>?_⟩
  have:=d o _ (S_.of r)
  have e:(fun v b=>b a=some (.CK o (.dK kvs))/\Q v (back a H b))=fun v=>PR a o kvs (Q v):=by
   funext v b
   unfold PR
   rw[UW r]
  rw[e]at this
  exact this
 ·refine Bl (h pins s c H _ I (d o H (S_.same r))) fun u l ⟨v,g,i,j,k,f⟩=>⟨v,g,i,j,?_⟩
  rw[Rf (r.trans k.symm)]at f
  exact f
end
theorem MW {J:It} {q:TE} {fs:List Nat} {σ:St} {H:Hp} {Q:VK} (n:Nat) (item:Nat->V) (P:Addr->Nat->Hp->Prop) (s:∀D,H D=none->P D 0 (upd H D (.lst [])))
  (j:∀D i d,i<n->P D i d->J.go i d) (t:∀D i d v H',i<n->P D i d->J.Sy i d v H'->v=item i/\H'=d) (k:∀D d,P D n d->J.stop n d)
  (u:∀D i d,H D=none->i<n->P D i d->q (some (item i)::CH σ fs) d fun y f=>∃ys,f D=some (.lst ys)/\ys.length<sizeLine/\P D (i+1) (upd f D (.lst (ys++[y]))))
  (w:∀D d,H D=none->P D n d->Q (.ref D) d):Hq J To q fs σ H Q:=by
 intro D l
 refine⟨fun i m d=>m=n-i/\i<=n/\P D i d,⟨n,rfl,Nat.zero_le _,s D l⟩,?_⟩
 rintro i m d ⟨rfl,x,p⟩
 by_cases g:i<n
 ·refine .inr ⟨j D i d g p,fun v r y=>?_⟩
  obtain⟨rfl,rfl⟩:=t D i d v r g p y
  unfold To
  dsimp only
  rw[if_pos rfl]
  have h:=u D i r l g p
  have e:(fun(y:V) (f:Hp)=>∃ys,f D=some (.lst ys)/\ys.length<sizeLine/\∃o,o<n-i/\o=n-(i+1)/\i+1<=n/\P D (i+1) (upd f D (.lst (ys++[y]))))=fun y f=>∃ys,f D=some (.lst ys)/\ys.length<sizeLine/\P D (i+1) (upd f D (.lst (ys++[y]))):=by
   funext y f
   refine propext ⟨fun⟨ys,a,b,o,_,_,_,c⟩=>⟨ys,a,b,c⟩,fun⟨ys,a,b,c⟩=>⟨ys,a,b,n-(i+1),by lia,rfl,g,c⟩⟩
  rw[<-e]at h
  exact h
 ·have e:i=n:=by lia
  subst e
  exact .inl ⟨k D d p,w D d l p⟩
structure Av (H H':Hp) (es:List Dc):Prop where
 same:AG H H'
 at_:Dc.CY H' es
 nd:(Dc.AH es).Nodup
 own:∀a∈Dc.AH es,∀o u,H' a≠some (.CK o u)
 new:∀a∈Dc.AH es,H a=none
theorem Av.nil {H H':Hp} (s:AG H H'):Av H H' []:=⟨s,trivial,.nil,fun a h=>(nomatch h),fun a h=>(nomatch h)⟩
theorem Dc.FV {H:Hp} {c:List Dc} {b:Addr} (h:Dc.CY H c) (a:b∈Dc.AH c):H b≠none:=by
 induction c with
 |nil=>cases a
 |cons x r d=>
  simp only[Dc.CY]at h
  simp only[Dc.AH,List.mem_append]at a
  rcases a with a|a
  ·exact Dc.there h.1 a
  ·exact d h.2 a
theorem Av.frame {H e c:Hp} {b:List Dc} (F:Av H e b) (s:AG H c) (f:∀a∈Dc.AH b,∀o,e a=some o->c a=some o):Av H c b:=
 ⟨s,Dc.BJ b f F.at_,F.nd,fun a d=>Bs (Dc.FV F.at_ d) (F.own a d) (f a d),F.new⟩
theorem Av.up {H b c:Hp} {d:List Dc} (F:Av H b d) (s:AG b c):Av H c d:=F.frame (F.same.trans s) fun a _=>s a
theorem Av.snoc {H j k:Hp} {g:List Dc} {d:Dc} (F:Av H j g) (f:BQ j k d):Av H k (g++[d]):=by
 have h:=F.up f.same
 have i:Dc.AH (g++[d])=Dc.AH g++d.addrs:=by rw[Dc.AU];simp[Dc.AH]
 refine⟨h.same,(Dc.Bi _ _).mpr ⟨h.at_,by simp only[Dc.CY];exact⟨f.at_,trivial⟩⟩,?_,fun a c=>?_,fun a c=>?_⟩
 ·rw[i]
  refine List.nodup_append.mpr ⟨F.nd,f.nd,fun a c b l e=>?_⟩
  subst e
  exact Dc.FV F.at_ c (f.new a l)
 ·rw[i]at c
  rcases List.mem_append.mp c with c|c
  ·exact h.own a c
  ·exact f.own a c
 ·rw[i]at c
  rcases List.mem_append.mp c with c|c
  ·exact F.new a c
  ·exact F.same.free (f.new a c)
theorem Av.row {H H':Hp} {c:List Dc} {D:Addr} (F:Av H H' c) (d:H D=none) (f:D∉Dc.AH c) (e:H' D=some (.lst (c.map Dc.val))):BQ H H' (.row D c):=by
 refine⟨F.same,by simp only[Dc.At];exact⟨.inl e,F.at_⟩,?_,fun a b=>?_,fun a b=>?_⟩
 ·simp only[Dc.addrs];exact List.nodup_cons.mpr ⟨f,F.nd⟩
 ·simp only[Dc.addrs,List.mem_cons]at b
  rcases b with rfl|b
  ·intro o u z;rw[e]at z;cases z
  ·exact F.own a b
 ·simp only[Dc.addrs,List.mem_cons]at b
  rcases b with rfl|b
  ·exact d
  ·exact F.new a b
theorem Av.tab {H H':Hp} {c:List Dc} {ks:List Str} {D:Addr} (F:Av H H' c) (d:H D=none) (f:D∉Dc.AH c) (l:ks.length=c.length) (g:ks.Nodup) (e:H' D=some (.dK (Dc.kvs ks c))):BQ H H' (.tab D ks c):=by
 refine⟨F.same,by simp only[Dc.At];exact⟨.inl e,l,g,F.at_⟩,?_,fun a b=>?_,fun a b=>?_⟩
 ·simp only[Dc.addrs];exact List.nodup_cons.mpr ⟨f,F.nd⟩
 ·simp only[Dc.addrs,List.mem_cons]at b
  rcases b with rfl|b
  ·intro o u z;rw[e]at z;cases z
  ·exact F.own a b
 ·simp only[Dc.addrs,List.mem_cons]at b
  rcases b with rfl|b
  ·exact d
  ·exact F.new a b
theorem HJ:∀(more kvs:List (Key×V)),((kvs++more).map (·.1)).Nodup->DF kvs more=kvs++more
 |[],kvs,_=>by simp[DF]
 |p::r,kvs,h=>by
  have a:BX kvs p.1=none:=by
   cases e:BX kvs p.1 with
   |none=>rfl
   |some v=>
    have:=Wu e
    rw[List.map_append,List.map_cons]at h
    obtain⟨_,_,b⟩:=List.nodup_append.mp h
    exact absurd rfl (b p.1 this p.1 List.mem_cons_self)
  show DF (putK kvs p.1 p.2) r=_
  rw[Gp p.2 a,HJ r (kvs++[(p.1,p.2)]) (by simpa using h)]
  simp
namespace Dc
theorem J_ {a:Str} {x:Dc}:∀(ks:List Str) (xs:List Dc) (i:Nat),ks.Nodup->ks[i]?=some a->xs[i]?=some x->(ks.zip xs).lookup a=some x
 |[],_,_,_,h,_=>by simp at h
 |y::r,[],_,_,_,h=>by simp at h
 |y::r,z::t,0,_,c,d=>by simp at c d;subst c d;simp
 |y::r,z::t,i+1,e,c,d=>by
  obtain⟨f,g⟩:=List.nodup_cons.mp e
  have b:r[i]?=some a:=by simpa using c
  have j:a≠y:=fun z=>f (z▸AAD b)
  have:(a==y)=false:=by simpa using j
  simp only[List.zip_cons_cons,List.lookup_cons,this]
  exact J_ r t i g b (by simpa using d)
theorem DR {ks:List Str} {xs:List Dc} (h:ks.length=xs.length):(kvs ks xs).length=xs.length:=by
 have:=congrArg List.length (CZ (ks:=ks) (xs:=xs) h)
 rw[List.length_map,List.length_map]at this
 rw[this,h]
theorem PV {ks:List Str} {xs:List Dc} (h:ks.length=xs.length) (g:ks.Nodup) {i:Nat} {k:Key} {v:V} (e:(kvs ks xs)[i]?=some (k,v)):
  ∃a x,ks[i]?=some a/\xs[i]?=some x/\k=Sum.inr a/\v=x.val/\(ks.zip xs).lookup a=some x/\BX (kvs ks xs) (Sum.inr a)=some x.val:=by
 have f:i<xs.length:=by rw[<-DR h];exact(AAB e).1
 obtain⟨x,d⟩:∃x,xs[i]?=some x:=⟨_,AAA f⟩
 obtain⟨a,b⟩:∃a,ks[i]?=some a:=⟨_,AAA (by rw[h];exact f)⟩
 have lk:=J_ ks xs i g b d
 have c:=e
 unfold kvs at c
 rw[List.getElem?_map]at c
 have j:(ks.zip (xs.map val))[i]?=some (a,x.val):=by
  rw[List.getElem?_zip_eq_some]
  exact⟨b,by rw[List.getElem?_map,d];rfl⟩
 rw[j]at c
 have c:=AAC c
 exact⟨a,x,b,d,(congrArg Prod.fst c).symm,(congrArg Prod.snd c).symm,lk,by rw[Cv h,lk];rfl⟩
end Dc
def aT:V->Bool
 | .int _=>true
 |_=>false
def eO:V->Bool
 | .str x=>BS x
 |_=>false
def Short (v:V):Prop:=∀x,v=.str x->x.length<=1000
inductive UX (b:List V) (H:Hp) (Q:VK) (a:XK):Prop
 |mk (v:_) (T:_) (c:b=[v]) (d:NG H v T) (e:Q (.bl (aT v)) H):UX b H Q a
inductive PX (b:List V) (H:Hp) (Q:VK) (a:XK):Prop
 |mk (x:Str) (c:b=[.str x]) (d:x.length<=1000) (e:∀H',AG H H'->Q (.bl ((sgn x).all Sz)) H'):PX b H Q a
inductive XP (b:List V) (H:Hp) (Q:VK) (a:XK):Prop
 |mk (v:_) (T:_) (c:b=[v]) (d:NG H v T) (e:Short v) (f:∀H',AG H H'->Q (.bl (eO v)) H'):XP b H Q a
inductive UY (b:List V) (H:Hp) (Q:VK) (a:XK):Prop
 |mk (d:Dc) (c:b=[d.val]) (e:d.At H) (f:d.ok) (g:d.size<=900) (h:∀H',AG H H'->Q (.bl true) H'):UY b H Q a
def js (H b:Hp) (c:V):Dc->Prop
 | .leaf v=>c=v/\Dc.Lf v
 | .row _ xs=>∃a,c=.ref a/\b a=some (.lst (xs.map Dc.val))/\H a=none
 | .tab _ ks xs=>∃a,c=.ref a/\b a=some (.dK (Dc.kvs ks xs))/\H a=none
def rootOf (p:V×Dc):Option Addr:=match p.1 with
 | .ref a=>some a
 |_=>none
abbrev roots (ps:List (V×Dc)):List Addr:=ps.filterMap rootOf
def Yz:List (V×Dc)->List Dc->Prop
 |[],[]=>True
 |p::ps,e::a=>e.val=p.1/\Dc.CS p.2 e/\Yz ps a
 |_,_=>False
structure so (H Hi:Hp) (L:Addr) (tv:V) (d:Dc) (ps:List (V×Dc)):Prop where
 same:AG H Hi
 nL:H L=none
 eL:Hi L=some (.lst (ps.map (·.1)))
 out:∀p∈ps,js H Hi p.1 p.2
 src:∀p∈ps,p.2.At H/\p.2.slim
 nd:(roots ps).Nodup
 zQ:L∉roots ps
 vN:∀(es:List Dc) (H':Hp),Yz ps es->Av H H' es->(∀c∈Dc.AH es,Hi c=none∨c∈roots ps)->(∀b o,b≠L->b∉roots ps->Hi b=some o->H' b=some o)->∃e:Dc,e.val=tv/\Dc.CS d e/\BQ H H' e
def aU (H:Hp) (Q:VK):Dc->Prop
 | .leaf v=>Q v H
 | .row _ xs=>∀p,H p=none->Q (.ref p) (upd H p (.lst (xs.map Dc.val)))
 | .tab _ ks xs=>∀p,H p=none->Q (.ref p) (upd H p (.dK (Dc.kvs ks xs)))
inductive UZ (b:List V) (H:Hp) (Q:VK) (a:XK):Prop
 |mk (d:Dc) (c:b=[d.val]) (e:d.At H) (f:aU H Q d):UZ b H Q a
inductive Rg (b:List V) (H:Hp) (Q:VK) (a:XK):Prop
 |mk (d:Dc) (c:b=[d.val]) (e:d.At H) (f:d.slim) (g:d.size<=900) (h:∀(d':Dc) (H':Hp),BQ H H' d'->Dc.CS d d'->Q d'.val H'):Rg b H Q a
def GV (ks:List Str) (a:List V):List (Key×V):=(ks.zip a).map fun p=>(Sum.inr p.1,p.2)
theorem Dz (ks:List Str) (xs:List Dc):Dc.kvs ks xs=GV ks (xs.map Dc.val):=rfl
theorem N_:∀{ks:List Str} {a:List V} {j:Nat} {k:Str},ks.length=a.length->ks.Nodup->ks[j]?=some k->BX (GV ks a) (Sum.inr k)=a[j]?
 |[],_,_,_,_,_,h=>by simp at h
 |y::r,[],_,_,h,_,_=>by simp at h
 |y::r,v::a,0,k,_,_,h=>by
  simp at h
  subst h
  exact Bx rfl
 |y::r,v::a,j+1,k,c,d,h=>by
  obtain⟨e,f⟩:=List.nodup_cons.mp d
  have b:r[j]?=some k:=by simpa using h
  have g:¬(Sum.inr y:Key)=Sum.inr k:=fun z=>e (by rw[Sum.inr.inj z];exact AAD b)
  show BX ((Sum.inr y,v)::GV r a) (Sum.inr k)=_
  rw[By g,N_ (by simpa using c) f b]
  simp
theorem J' {ks:List Str} {a:List V} {j:Nat} {k:Str} (d:ks.length=a.length) (e:ks.Nodup) (h:ks[j]?=some k) (c:V):putK (GV ks a) (Sum.inr k) c=GV ks (a.set j c):=by
 have i:j<a.length:=by rw[<-d];exact(AAB h).1
 have l:BX (GV ks a) (Sum.inr k)=some a[j]:=by rw[N_ d e h,AAA i]
 unfold putK
 rw[if_pos (by rw[DU,l];rfl)]
 have gen:∀(ks:List Str) (a:List V) (j:Nat),ks.length=a.length->ks.Nodup->ks[j]?=some k->(GV ks a).map (fun b=>if b.1=Sum.inr k then(b.1,c)else b)=GV ks (a.set j c):=by
  intro ks
  induction ks with
  |nil=>intro a j _ _ h;simp at h
  |cons y r m=>
   intro a j d e h
   cases a with
   |nil=>simp at d
   |cons v a=>
    obtain⟨f,n⟩:=List.nodup_cons.mp e
    cases j with
    |zero=>
     simp at h
     subst h
     have o:(GV r a).map (fun b=>if b.1=Sum.inr y then(b.1,c)else b)=GV r a:=by
      have:∀p∈GV r a,(fun b:Key×V=>if b.1=Sum.inr y then(b.1,c)else b) p=id p:=fun p s=>by
       obtain⟨q,t,rfl⟩:=List.mem_map.mp s
       have u:q.1∈r:=(List.of_mem_zip t).1
       exact if_neg fun z=>f (by rw[<-Sum.inr.inj z];exact u)
      rw[List.map_congr_left this,List.map_id]
     show(if(Sum.inr y:Key)=Sum.inr y then(Sum.inr y,c)else(Sum.inr y,v))::(GV r a).map _=(Sum.inr y,c)::GV r a
     rw[if_pos rfl,o]
    |succ j=>
     have g:r[j]?=some k:=by simpa using h
     have w:¬(Sum.inr y:Key)=Sum.inr k:=fun z=>f (by rw[Sum.inr.inj z];exact AAD g)
     show(if(Sum.inr y:Key)=Sum.inr k then(Sum.inr y,c)else(Sum.inr y,v))::(GV r a).map _=(Sum.inr y,v)::GV r (a.set j c)
     rw[if_neg w,m a j (by simpa using d) n g]
 exact gen ks a j d e h
theorem OA {xs ys:List Dc} (p:xs.Perm ys):(Dc.AH xs).Perm (Dc.AH ys):=by
 induction p with
 |nil=>exact .refl _
 |cons x _ a=>simp only[Dc.AH];exact a.append_left _
 |swap x y l=>
  simp only[Dc.AH,<-List.append_assoc]
  exact(List.perm_append_comm).append_right _
 |trans _ _ b c=>exact b.trans c
namespace Dc
inductive Eqv:Dc->Dc->Prop where
 |leaf (v:V):Eqv (leaf v) (leaf v)
 |row {a b:Addr} {xs ys:List Dc} (l:xs.length=ys.length) (h:∀(i:Nat) x y,xs[i]?=some x->ys[i]?=some y->Eqv x y):Eqv (row a xs) (row b ys)
 |tab {a b:Addr} {ks c:List Str} {xs ys:List Dc} (p:ks.Perm c) (h:∀k x y,(ks.zip xs).lookup k=some x->(c.zip ys).lookup k=some y->Eqv x y):Eqv (tab a ks xs) (tab b c ys)
theorem Ua {ks:List Str}:∀{xs ys:List Dc},Ba xs ys->∀{k:Str} {x y:Dc},(ks.zip xs).lookup k=some x->(ks.zip ys).lookup k=some y->∃i:Nat,xs[i]?=some x/\ys[i]?=some y:=by
 induction ks with
 |nil=>intro xs ys _ k x y h;simp at h
 |cons z r d=>
  intro xs ys c k x y a b
  cases xs with
  |nil=>simp at a
  |cons j xs=>
   cases ys with
   |nil=>simp at b
   |cons l ys=>
    simp only[Ba]at c
    simp only[List.zip_cons_cons,List.lookup_cons]at a b
    by_cases e:k=z
    ·subst e
     simp at a b
     exact⟨0,by simp[a],by simp[b]⟩
    ·have:(k==z)=false:=by simpa using e
     rw[this]at a b
     obtain⟨i,f,g⟩:=d c.2 a b
     exact⟨i+1,by simpa using f,by simpa using g⟩
mutual
theorem KA:∀d e:Dc,CS d e->Eqv d e
 |leaf v,e,h=>by
  cases e with
  |leaf w=>
   have:v=w:=by simpa[CS]using h
   subst this;exact .leaf v
  |_=>simp[CS]at h
 |row a c,e,h=>by
  cases e with
  |row b f=>
   simp only[CS]at h
   exact .row (HH h) (Hv c f h)
  |_=>simp[CS]at h
 |tab a n c,e,h=>by
  cases e with
  |tab b o f=>
   simp only[CS]at h
   obtain⟨rfl,h⟩:=h
   refine .tab (.refl _) fun k x y g j=>?_
   obtain⟨i,l,m⟩:=Ua h g j
   exact Hv c f h i x y l m
  |_=>simp[CS]at h
theorem Hv:∀xs ys:List Dc,Ba xs ys->∀(i:Nat) x y,xs[i]?=some x->ys[i]?=some y->Eqv x y
 |[],_,_,i,x,y,h,_=>by simp at h
 |_::_,[],h,_,_,_,_,_=>by simp[Ba]at h
 |c::r,d::t,h,0,x,y,a,b=>by
  simp only[Ba]at h
  simp at a b
  subst a b
  exact KA _ _ h.1
 |c::r,d::t,h,i+1,x,y,a,b=>by
  simp only[Ba]at h
  exact Hv r t h.2 i x y (by simpa using a) (by simpa using b)
end
theorem Eqv.symm {d e:Dc} (h:Eqv d e):Eqv e d:=by
 induction h with
 |leaf v=>exact .leaf v
 |row l _ a=>exact .row l.symm fun i x y b c=>a i y x c b
 |tab p _ a=>exact .tab p.symm fun k x y b c=>a k y x c b
inductive Wf:Dc->Prop where
 |leaf (v:V):Wf (leaf v)
 |row {a:Addr} {xs:List Dc} (h:∀x∈xs,Wf x):Wf (row a xs)
 |tab {a:Addr} {ks:List Str} {xs:List Dc} (l:ks.length=xs.length) (n:ks.Nodup) (h:∀x∈xs,Wf x):Wf (tab a ks xs)
mutual
theorem EI {H:Hp}:∀d:Dc,d.At H->d.Wf
 |leaf v,_=>.leaf v
 |row a xs,h=>by simp only[At]at h;exact .row (PY xs h.2)
 |tab a ks xs,h=>by simp only[At]at h;exact .tab h.2.1 h.2.2.1 (PY xs h.2.2.2)
theorem PY {H:Hp}:∀xs:List Dc,CY H xs->∀x∈xs,x.Wf
 |[],_,x,a=>nomatch a
 |y::r,h,x,a=>by
  simp only[CY]at h
  have b:=EI y h.1
  have c:=PY r h.2
  rcases List.mem_cons.mp a with e|a
  ·rw[e];exact b
  ·exact c x a
end
def ix (ks:List Str) (k:Str):Nat:=ks.findIdx (·==k)
theorem Dg {ks:List Str} {k:Str} (h:k∈ks):ks[ix ks k]?=some k:=by
 have a:ix ks k<ks.length:=List.findIdx_lt_length_of_exists ⟨k,h,by simp⟩
 rw[AAA a]
 have b:(ks[ix ks k]==k)=true:=List.findIdx_getElem (w:=a)
 exact congrArg some (eq_of_beq b)
theorem CB {ks:List Str} {xs:List Dc} {k:Str} {x:Dc} (l:ks.length=xs.length) (n:ks.Nodup) (h:(ks.zip xs).lookup k=some x):xs[ix ks k]?=some x:=by
 have b:=(Aj h).1
 have e:=Dg b
 have c:=(AAB e).1
 obtain⟨y,a⟩:∃y,xs[ix ks k]?=some y:=⟨_,AAA (by rw[<-l];exact c)⟩
 have:=J_ ks xs _ n e a
 rw[h]at this
 cases this
 exact a
def Aw:Dc->List V->Dc->Dc
 |_,[],n=>n
 |row a xs,.int i::r,n=>row a (match xs[i.toNat]? with|some x=>xs.set i.toNat (Aw x r n)|none=>xs)
 |tab a ks xs,.str k::r,n=>tab a ks (match xs[ix ks k]? with|some x=>xs.set (ix ks k) (Aw x r n)|none=>xs)
 |d,_::_,_=>d
theorem Ca {a:Addr} {xs:List Dc} {i:Nat} {x:Dc} (h:xs[i]?=some x) (r:List V) (n:Dc):Aw (row a xs) (.int (i:Int)::r) n=row a (xs.set i (Aw x r n)):=by
 simp only[Aw,Int.toNat_natCast,h]
theorem Cw {a:Addr} {ks:List Str} {xs:List Dc} {k:Str} {x:Dc} (h:xs[ix ks k]?=some x) (r:List V) (n:Dc):Aw (tab a ks xs) (.str k::r) n=tab a ks (xs.set (ix ks k) (Aw x r n)):=by
 simp only[Aw,h]
theorem Bu {d:Dc} {z:V} {r:List V} {e:Dc} (h:d.sub (z::r)=some e):(∃a xs i x,d=row a xs/\z=.int ((i:Nat):Int)/\xs[i]?=some x/\x.sub r=some e)∨∃a ks xs k x,d=tab a ks xs/\z=.str k/\(ks.zip xs).lookup k=some x/\x.sub r=some e:=by
 cases d with
 |leaf v=>simp[sub]at h
 |row a xs=>
  cases z with
  |int i=>
   simp only[sub]at h
   by_cases c:0<=i
   ·rw[if_pos c]at h
    cases b:xs[i.toNat]? with
    |none=>rw[b]at h;simp at h
    |some x=>rw[b]at h;exact .inl ⟨a,xs,i.toNat,x,rfl,by rw[Int.toNat_of_nonneg c],b,h⟩
   ·rw[if_neg c]at h;simp at h
  |_=>simp[sub]at h
 |tab a ks xs=>
  cases z with
  |str k=>
   simp only[sub]at h
   cases b:(ks.zip xs).lookup k with
   |none=>rw[b]at h;simp at h
   |some x=>rw[b]at h;exact .inr ⟨a,ks,xs,k,x,rfl,rfl,b,h⟩
  |_=>simp[sub]at h
theorem As (d:Dc):d.sub []=some d:=by cases d<;>rfl
theorem Ew {a:Addr} {xs:List Dc} {i:Nat} {x:Dc} (h:xs[i]?=some x) (r:List V):(row a xs).sub (.int (i:Int)::r)=x.sub r:=by
 simp only[sub]
 rw[if_pos (by lia),Int.toNat_natCast,h]
 rfl
theorem Ex {a:Addr} {ks:List Str} {xs:List Dc} {k:Str} {x:Dc} (h:(ks.zip xs).lookup k=some x) (r:List V):(tab a ks xs).sub (.str k::r)=x.sub r:=by
 simp only[sub,h]
 rfl
theorem BD.sub {f:List V}:∀{d e:Dc},d.sub f=some e->BD e d:=by
 induction f with
 |nil=>intro d e h;rw[As]at h;cases h;exact .refl d
 |cons z r g=>
  intro d e h
  rcases Bu h with⟨a,j,i,x,rfl,rfl,b,c⟩|⟨a,l,j,k,x,rfl,rfl,b,c⟩
  ·exact(g c).trans (.row (AAD b))
  ·exact(g c).trans (.tab (Aj b).2)
theorem D_ {b:List V}:∀{d e n:Dc},d.sub b=some e->n.val=e.val->(Aw d b n).val=d.val:=by
 induction b with
 |nil=>intro d e n h c;rw[As]at h;cases h;cases d<;>exact c
 |cons z r l=>
  intro d e n h c
  rcases Bu h with⟨a,g,i,x,rfl,rfl,f,j⟩|⟨a,m,g,k,x,rfl,rfl,f,j⟩
  ·rw[Ca f];rfl
  ·simp only[Aw];rfl
theorem IX {xs:List Dc} {i:Nat} {x y:Dc} (h:xs[i]?=some x) (e:y.val=x.val):(xs.set i y).map val=xs.map val:=by
 refine List.ext_getElem? fun j=>?_
 rw[List.getElem?_map,List.getElem?_map]
 by_cases a:i=j
 ·subst a
  rw[List.getElem?_set_self (AAB h).1,h]
  exact congrArg some e
 ·rw[List.getElem?_set_ne a]
theorem Co {xs:List Dc} {i:Nat} {x:Dc} (h:xs[i]?=some x):∃l r,xs=l++x::r/\∀y,xs.set i y=l++y::r:=by
 have a:=(AAB h).1
 have b:=(AAB h).2
 refine⟨xs.take i,xs.drop (i+1),?_,fun y=>List.set_eq_take_append_cons_drop .. |>.trans (if_pos a)⟩
 rw[<-b,List.getElem_cons_drop,List.take_append_drop]
theorem CN {m:List V}:∀{d e n:Dc},d.Wf->d.addrs.Nodup->d.sub m=some e->∃l r,d.addrs=l++e.addrs++r/\(Aw d m n).addrs=l++n.addrs++r:=by
 induction m with
 |nil=>intro d e n _ _ h;rw[As]at h;cases h;exact⟨[],[],by simp,by cases d<;>simp[Aw]⟩
 |cons z r y=>
  intro d e n w b h
  rcases Bu h with⟨a,A,i,x,rfl,rfl,g,o⟩|⟨a,D,A,k,x,rfl,rfl,g,o⟩
  ·cases w with
   |row p=>
    obtain⟨l,t,j,q⟩:=Co g
    simp only[addrs,List.nodup_cons]at b
    rw[j,AU]at b
    simp only[AH]at b
    have c:x.addrs.Nodup:=((List.nodup_append.mp (List.nodup_append.mp b.2).2.1)).1
    obtain⟨l2,s,u,v⟩:=y (n:=n) (p x (AAD g)) c o
    refine⟨a::(AH l++l2),s++AH t,?_,?_⟩
    ·simp only[addrs];rw[j,AU];simp only[AH];rw[u];simp
    ·rw[Ca g];simp only[addrs];rw[q,AU];simp only[AH];rw[v];simp
  ·cases w with
   |tab B C p=>
    have f:=CB B C g
    obtain⟨l,t,j,q⟩:=Co f
    simp only[addrs,List.nodup_cons]at b
    rw[j,AU]at b
    simp only[AH]at b
    have c:x.addrs.Nodup:=((List.nodup_append.mp (List.nodup_append.mp b.2).2.1)).1
    obtain⟨l2,s,u,v⟩:=y (n:=n) (p x (AAD f)) c o
    refine⟨a::(AH l++l2),s++AH t,?_,?_⟩
    ·simp only[addrs];rw[j,AU];simp only[AH];rw[u];simp
    ·rw[Cw f];simp only[addrs];rw[q,AU];simp only[AH];rw[v];simp
theorem XQ {H H':Hp} {J:List V}:∀{d e n:Dc},d.addrs.Nodup->d.sub J=some e->n.val=e.val->n.At H'->(∀a∈d.addrs,a∉e.addrs->∀o,H a=some o->H' a=some o)->d.At H->(Aw d J n).At H':=by
 induction J with
 |nil=>intro d e n _ h _ G _ _;rw[As]at h;cases h;cases d<;>exact G
 |cons z r S=>
  intro d e n E h I G f q
  have PE:=BD.sub h
  rcases Bu h with⟨a,u,i,x,rfl,rfl,F,v⟩|⟨a,K,u,k,x,rfl,rfl,F,v⟩
  ·obtain⟨l,t,s,L⟩:=Co F
   have w:=BD.sub v
   simp only[At]at q
   simp only[addrs,List.nodup_cons]at E
   have M:a∉e.addrs:=fun z=>E.1 (by rw[s,AU];simp only[AH];exact List.mem_append_right _ (List.mem_append_left _ (w.addrs a z)))
   have g:=E.2
   rw[s,AU]at g
   simp only[AH]at g
   obtain⟨T,N,O⟩:=List.nodup_append.mp g
   obtain⟨P,U,Q⟩:=List.nodup_append.mp N
   have p:=q.2
   rw[s]at p
   obtain⟨R,y⟩:=(Bi _ _).mp p
   simp only[CY]at y
   have A:∀c,c∈AH u->c∉e.addrs->∀o,H c=some o->H' c=some o:=fun c b B o j=>f c (by simp only[addrs];exact List.mem_cons_of_mem _ b) B o j
   have m:∀c,c∈AH l∨c∈x.addrs∨c∈AH t->c∈AH u:=fun c b=>by
    rw[s,AU]
    simp only[AH,List.mem_append]
    exact b
   have C:=S (n:=n) P v I G (fun c b B o j=>A c (m c (.inr (.inl b))) B o j) y.1
   rw[Ca F]
   simp only[At]
   refine⟨?_,?_⟩
   ·rw[IX F (D_ v I)]
    exact q.1.up (f a (by simp[addrs]) M)
   ·rw[L]
    refine(Bi _ _).mpr ⟨BJ l (fun c b o j=>A c (m c (.inl b)) (fun z=>O c b c (List.mem_append_left _ (w.addrs c z)) rfl) o j) R,?_⟩
    simp only[CY]
    exact⟨C,BJ t (fun c b o j=>A c (m c (.inr (.inr b))) (fun z=>Q c (w.addrs c z) c b rfl) o j) y.2⟩
  ·simp only[At]at q
   have D:=CB q.2.1 q.2.2.1 F
   obtain⟨l,t,s,L⟩:=Co D
   have w:=BD.sub v
   simp only[addrs,List.nodup_cons]at E
   have M:a∉e.addrs:=fun z=>E.1 (by rw[s,AU];simp only[AH];exact List.mem_append_right _ (List.mem_append_left _ (w.addrs a z)))
   have g:=E.2
   rw[s,AU]at g
   simp only[AH]at g
   obtain⟨T,N,O⟩:=List.nodup_append.mp g
   obtain⟨P,U,Q⟩:=List.nodup_append.mp N
   have p:=q.2.2.2
   rw[s]at p
   obtain⟨R,y⟩:=(Bi _ _).mp p
   simp only[CY]at y
   have A:∀c,c∈AH u->c∉e.addrs->∀o,H c=some o->H' c=some o:=fun c b B o j=>f c (by simp only[addrs];exact List.mem_cons_of_mem _ b) B o j
   have m:∀c,c∈AH l∨c∈x.addrs∨c∈AH t->c∈AH u:=fun c b=>by
    rw[s,AU]
    simp only[AH,List.mem_append]
    exact b
   have C:=S (n:=n) P v I G (fun c b B o j=>A c (m c (.inr (.inl b))) B o j) y.1
   rw[Cw D]
   simp only[At]
   refine⟨?_,by rw[List.length_set];exact q.2.1,q.2.2.1,?_⟩
   ·have:kvs K (u.set (ix K k) (Aw x r n))=kvs K u:=by unfold kvs;rw[IX D (D_ v I)]
    rw[this]
    exact q.1.up (f a (by simp[addrs]) M)
   ·rw[L]
    refine(Bi _ _).mpr ⟨BJ l (fun c b o j=>A c (m c (.inl b)) (fun z=>O c b c (List.mem_append_left _ (w.addrs c z)) rfl) o j) R,?_⟩
    simp only[CY]
    exact⟨C,BJ t (fun c b o j=>A c (m c (.inr (.inr b))) (fun z=>Q c (w.addrs c z) c b rfl) o j) y.2⟩
def room:Dc->V->Bool
 |row _ xs,.int i=>decide (0<=i)&&decide (i<=(xs.length:Int))
 |tab _ ks _,.str k=> !ks.contains k
 |_,_=>false
def CT:Dc->V->Dc->Dc
 |row a xs,.int i,v=>row a (xs.take i.toNat++v::xs.drop i.toNat)
 |tab a ks xs,.str k,v=>tab a (ks++[k]) (xs++[v])
 |d,_,_=>d
def B_:Dc->V->Dc
 |row a xs,.int i=>row a (xs.eraseIdx i.toNat)
 |tab a ks xs,.str k=>tab a (ks.eraseIdx (ix ks k)) (xs.eraseIdx (ix ks k))
 |d,_=>d
theorem sub_one {d:Dc} {z:V} {x:Dc} (h:d.sub [z]=some x):(∃a xs i,d=row a xs/\z=.int ((i:Nat):Int)/\xs[i]?=some x)∨∃a ks xs k,d=tab a ks xs/\z=.str k/\(ks.zip xs).lookup k=some x:=by
 rcases Bu h with⟨a,xs,i,y,c,e,f,b⟩|⟨a,ks,xs,k,y,c,e,f,b⟩
 ·rw[As]at b;cases b;exact .inl ⟨a,xs,i,c,e,f⟩
 ·rw[As]at b;cases b;exact .inr ⟨a,ks,xs,k,c,e,f⟩
theorem DL {e:Dc} {z:V} (h:e.room z=true):(∃a xs i,e=row a xs/\z=.int ((i:Nat):Int)/\i<=xs.length)∨∃a ks xs k,e=tab a ks xs/\z=.str k/\k∉ks:=by
 cases e with
 |leaf v=>cases z<;>simp[room]at h
 |row a xs=>
  cases z with
  |int i=>
   simp only[room,Bool.and_eq_true,decide_eq_true_eq]at h
   exact .inl ⟨a,xs,i.toNat,rfl,by rw[Int.toNat_of_nonneg h.1],by lia⟩
  |_=>simp[room]at h
 |tab a ks xs=>
  cases z with
  |str k=>
   simp only[room,Bool.not_eq_true',List.contains_eq_mem,decide_eq_false_iff_not]at h
   exact .inr ⟨a,ks,xs,k,rfl,rfl,h⟩
  |_=>simp[room]at h
theorem HK (e:Dc) (z:V) (v:Dc):(CT e z v).val=e.val:=by
 cases e<;>cases z<;>rfl
theorem OB (e:Dc) (z:V):(B_ e z).val=e.val:=by
 cases e<;>cases z<;>rfl
theorem mem_set {xs:List Dc} {i:Nat} {y z:Dc} (h:z∈xs.set i y):z∈xs∨z=y:=List.mem_or_eq_of_mem_set h
theorem XR {m:List V}:∀{d e n:Dc},d.Wf->d.sub m=some e->n.Wf->(Aw d m n).Wf:=by
 induction m with
 |nil=>intro d e n _ h j;cases d<;>exact j
 |cons z r p=>
  intro d e n w h j
  rcases Bu h with⟨a,s,i,x,rfl,rfl,l,o⟩|⟨a,t,s,k,x,rfl,rfl,l,o⟩
  ·cases w with
   |row c=>
    rw[Ca l]
    refine .row fun y b=>?_
    rcases mem_set b with b|rfl
    ·exact c y b
    ·exact p (c x (AAD l)) o j
  ·cases w with
   |tab q f c=>
    have g:=CB q f l
    rw[Cw g]
    refine .tab (by rw[List.length_set];exact q) f fun y b=>?_
    rcases mem_set b with b|rfl
    ·exact c y b
    ·exact p (c x (AAD g)) o j
theorem Hw {xs:List Dc} {i:Nat} {x y:Dc} (h:xs[i]?=some x):Ae (xs.set i y)+x.size=Ae xs+y.size:=by
 obtain⟨l,t,a,b⟩:=Co h
 rw[b,a,BP,BP]
 simp only[Ae]
 lia
theorem Ei {f:List V}:∀{d e n:Dc},d.Wf->d.sub f=some e->(Aw d f n).size+e.size=d.size+n.size:=by
 induction f with
 |nil=>intro d e n _ h;rw[As]at h;cases h;cases d<;>simp only[Aw]<;>lia
 |cons z r m=>
  intro d e n w h
  rcases Bu h with⟨a,o,i,x,rfl,rfl,c,g⟩|⟨a,q,o,k,x,rfl,rfl,c,g⟩
  ·cases w with
   |row j=>
    have:=m (n:=n) (j x (AAD c)) g
    have:=Hw (y:=Aw x r n) c
    rw[Ca c]
    simp only[size]
    lia
  ·cases w with
   |tab p l j=>
    have b:=CB p l c
    have:=m (n:=n) (j x (AAD b)) g
    have:=Hw (y:=Aw x r n) b
    rw[Cw b]
    simp only[size]
    lia
theorem Eqv.sub {j:List V}:∀{d d' e:Dc},d.Wf->d'.Wf->Eqv d d'->d.sub j=some e->∃f,d'.sub j=some f/\Eqv e f:=by
 induction j with
 |nil=>intro d d' e _ _ q h;rw[As]at h;cases h;exact⟨d',As d',q⟩
 |cons z r A=>
  intro d d' e w B q h
  rcases Bu h with⟨a,D,i,x,rfl,rfl,c,m⟩|⟨a,G,D,k,x,rfl,rfl,c,m⟩
  ·cases q with
   |@row _ b _ C l n=>
    cases w with
    |row o=>
     cases B with
     |row s=>
      obtain⟨y,g⟩:∃y,C[i]?=some y:=⟨_,AAA (by rw[<-l];exact(AAB c).1)⟩
      obtain⟨f,t,u⟩:=A (o x (AAD c)) (s y (AAD g)) (n i x y c g) m
      exact⟨f,by rw[Ew g];exact t,u⟩
  ·cases q with
   |@tab _ b _ H _ C p n=>
    cases w with
    |tab I J o=>
     cases B with
     |tab v E s=>
      obtain⟨y,g,F⟩:=ER v (p.mem_iff.mp (Aj c).1)
      obtain⟨f,t,u⟩:=A (o x (Aj c).2) (s y F) (n k x y c g) m
      exact⟨f,by rw[Ex g];exact t,u⟩
end Dc
theorem PZ {a:Type} {l:List a} {i:Nat} (h:i<l.length):(l[i]::l.eraseIdx i).Perm l:=by
 have b:l=l.take i++l[i]::l.drop (i+1):=by rw[List.getElem_cons_drop,List.take_append_drop]
 rw[List.eraseIdx_eq_take_drop_succ]
 exact(List.perm_middle.symm).trans (by rw[<-b])
namespace Dc
theorem OC {ks:List Str} {k:Str} (h:k∈ks):ix ks k<ks.length:=(AAB (Dg h)).1
theorem Qf {e x:Dc} {z:V} (d:e.Wf) (h:e.sub [z]=some x):(B_ e z).Wf:=by
 rcases sub_one h with⟨a,l,i,rfl,rfl,f⟩|⟨a,n,l,k,rfl,rfl,f⟩
 ·cases d with
  |row b=>exact .row fun y c=>b y (List.mem_of_mem_eraseIdx c)
 ·cases d with
  |tab g m b=>
   have j:=OC (Aj f).1
   refine .tab ?_ (List.Nodup.sublist (List.eraseIdx_sublist _ _) m) fun y c=>b y (List.mem_of_mem_eraseIdx c)
   rw[List.length_eraseIdx_of_lt j,List.length_eraseIdx_of_lt (by rw[<-g];exact j),g]
theorem H_ {e v:Dc} {z:V} (h:e.room z=true):(CT e z v).size=e.size+v.size:=by
 rcases DL h with⟨a,b,i,rfl,rfl,c⟩|⟨a,d,b,k,rfl,rfl,f⟩
 ·simp only[CT,size,BP,Ae]
  have:=Dw b ((i:Int).toNat)
  lia
 ·simp only[CT,size,BP,Ae]
  lia
theorem IY {xs:List Dc} {i:Nat} {x:Dc} (h:xs[i]?=some x):Ae (xs.eraseIdx i)+x.size=Ae xs:=by
 obtain⟨l,t,c,d⟩:=Co h
 have e:=(AAB h).1
 have a:xs.eraseIdx i=xs.take i++xs.drop (i+1):=List.eraseIdx_eq_take_drop_succ ..
 have b:xs=xs.take i++x::xs.drop (i+1):=by
  rw[<-(AAB h).2,List.getElem_cons_drop,List.take_append_drop]
 rw[a,BP]
 have:=congrArg Ae b
 rw[BP]at this
 simp only[Ae]at this
 lia
theorem Rh {e x:Dc} {z:V} (c:e.Wf) (h:e.sub [z]=some x):(B_ e z).size+x.size=e.size:=by
 rcases sub_one h with⟨a,d,i,rfl,rfl,b⟩|⟨a,j,d,k,rfl,rfl,b⟩
 ·simp only[B_,size,Int.toNat_natCast]
  have:=IY b
  lia
 ·cases c with
  |tab f g l=>
   simp only[B_,size]
   have:=IY (CB f g b)
   lia
end Dc
theorem BQ.edit {H I j:Hp} {t e n:Dc} {J:List V} {b:Addr} (F:BQ H I t) (v:t.sub J=some e) (M:e.val=.ref b) (s:b∈e.addrs) (N:n.val=.ref b) (w:n.At j) (A:∀a o,a≠b->I a=some o->j a=some o) (B:n.addrs.Nodup)
  (k:∀c∈n.addrs,∀o u,j c≠some (.CK o u)) (g:∀c∈n.addrs,c∈e.addrs∨(c∉t.addrs/\H c=none)):BQ H j (t.Aw J n):=by
 have P:=Dc.BD.sub v
 have O:=P.addrs b s
 have wt:=Dc.EI t F.at_
 obtain⟨l,r,K,C⟩:=Dc.CN (n:=n) wt F.nd v
 have nd:=F.nd
 rw[K]at nd
 obtain⟨D,E,i⟩:=List.nodup_append.mp nd
 obtain⟨G,Q,m⟩:=List.nodup_append.mp D
 have mt:∀c,c∈t.addrs↔(c∈l∨c∈e.addrs)∨c∈r:=fun c=>by rw[K,List.mem_append,List.mem_append]
 refine⟨fun a o h=>A a o (Bq h (F.new b O)) (F.same a o h),Dc.XQ F.nd v (N.trans M.symm) w (fun a T R o h=>A a o (fun z=>R (by rw[z];exact s)) h) F.at_,?_,fun c d=>?_,fun c d=>?_⟩
 ·rw[C]
  refine List.nodup_append.mpr ⟨List.nodup_append.mpr ⟨G,B,fun x f y p z=>?_⟩,E,fun x f y p z=>?_⟩
  ·subst z
   rcases g x p with h|h
   ·exact m x f x h rfl
   ·exact h.1 ((mt x).mpr (.inl (.inl f)))
  ·subst z
   rcases List.mem_append.mp f with f|f
   ·exact i x (List.mem_append_left _ f) x p rfl
   ·rcases g x f with h|h
    ·exact i x (List.mem_append_right _ h) x p rfl
    ·exact h.1 ((mt x).mpr (.inr p))
 ·rw[C,List.mem_append,List.mem_append]at d
  have q:c∈t.addrs->c≠b->∀o u,j c≠some (.CK o u):=fun L S=>Bs (Dc.there F.at_ L) (F.own c L) (fun o=>A c o S)
  rcases d with(d|d)|d
  ·exact q ((mt c).mpr (.inl (.inl d))) fun z=>m c d c (by rw[z];exact s) rfl
  ·exact k c d
  ·exact q ((mt c).mpr (.inr d)) fun z=>i c (List.mem_append_right _ (by rw[z];exact s)) c d rfl
 ·rw[C,List.mem_append,List.mem_append]at d
  rcases d with(d|d)|d
  ·exact F.new c ((mt c).mpr (.inl (.inl d)))
  ·rcases g c d with h|h
   ·exact F.new c (P.addrs c h)
   ·exact h.2
  ·exact F.new c ((mt c).mpr (.inr d))
namespace Dc
theorem Pa {e v:Dc} {z:V} (h:e.room z=true):(CT e z v).addrs.Perm (e.addrs++v.addrs):=by
 rcases DL h with⟨a,b,i,rfl,rfl,d⟩|⟨a,f,b,k,rfl,rfl,g⟩
 ·simp only[CT,addrs,AU,AH,List.cons_append]
  have c:AH b=AH (b.take ((i:Int).toNat))++AH (b.drop ((i:Int).toNat)):=by rw[<-AU,List.take_append_drop]
  rw[c,List.append_assoc]
  exact((List.perm_append_comm).append_left _).cons _
 ·simp only[CT,addrs,AU,AH,List.cons_append,List.append_nil]
  exact .refl _
theorem IZ {xs:List Dc} {i:Nat} {x:Dc} (h:xs[i]?=some x):(x.addrs++AH (xs.eraseIdx i)).Perm (AH xs):=by
 have a:=(AAB h).1
 have b:=(AAB h).2
 have:=OA (PZ a)
 rw[b]at this
 simpa only[AH]using this
theorem Pb {e x:Dc} {z:V} (c:e.Wf) (h:e.sub [z]=some x):(x.addrs++(B_ e z).addrs).Perm e.addrs:=by
 rcases sub_one h with⟨a,d,i,rfl,rfl,b⟩|⟨a,j,d,k,rfl,rfl,b⟩
 ·simp only[B_,addrs,Int.toNat_natCast]
  exact(List.perm_middle).trans ((IZ b).cons _)
 ·cases c with
  |tab f g l=>
   simp only[B_,addrs]
   exact(List.perm_middle).trans ((IZ (CB f g b)).cons _)
theorem LR {H:Hp} {xs:List Dc} {i:Nat} (h:CY H xs):CY H (xs.eraseIdx i):=by
 have gen:∀l:List Dc,(∀x∈l,x.At H)->CY H l:=by
  intro l
  induction l with
  |nil=>intro _;trivial
  |cons x r a=>intro h;simp only[CY];exact⟨h x List.mem_cons_self,a fun y b=>h y (List.mem_cons_of_mem _ b)⟩
 exact gen _ fun x c=>CD h x (List.mem_of_mem_eraseIdx c)
theorem Ri {ks:List Str} {xs:List Dc} (l:ks.length=xs.length) (n:ks.Nodup) {k:Str} (d:k∈ks):Ec (kvs ks xs) (Sum.inr k)=kvs (ks.eraseIdx (ix ks k)) (xs.eraseIdx (ix ks k)):=by
 induction ks generalizing xs with
 |nil=>cases d
 |cons y r g=>
  cases xs with
  |nil=>simp at l
  |cons x t=>
   obtain⟨h,i⟩:=List.nodup_cons.mp n
   have e:kvs (y::r) (x::t)=(Sum.inr y,x.val)::kvs r t:=rfl
   rw[e]
   by_cases a:y=k
   ·subst a
    have b:ix (y::r) y=0:=by simp[ix,List.findIdx_cons]
    rw[b,RV rfl]
    simp only[List.eraseIdx_zero,List.tail_cons]
    refine Nh fun f=>?_
    rw[CZ (by simpa using l)]at f
    obtain⟨o,j,m⟩:=List.mem_map.mp f
    exact h (by rw[<-Sum.inr.inj m];exact j)
   ·have c:k∈r:=(List.mem_cons.mp d).resolve_left (fun z=>a z.symm)
    have b:ix (y::r) k=ix r k+1:=by
     have:(y==k)=false:=by simpa using a
     simp[ix,List.findIdx_cons,this]
    rw[b,LF (fun z=>a (Sum.inr.inj z)),g (by simpa using l) i c]
    rfl
end Dc
inductive Ub (b:List V) (H:Hp) (Q:VK) (a:XK):Prop
 |mk (d:Dc) (z:V) (c:b=[d.val,z]) (e:d.At H) (f:Dc.BB z) (g:Q (.bl (d.sub [z]).isSome) H):Ub b H Q a
inductive Uc (b:List V) (H:Hp) (Q:VK) (a:XK):Prop
 |mk (d:Dc) (t:Addr) (xs:List V) (e:Dc) (c:b=[d.val,.ref t]) (f:d.At H) (g:H t=some (.tup xs)) (h:(∀z∈xs,Dc.BB z)) (i:d.sub xs=some e) (j:Q e.val H):Uc b H Q a
inductive Rj (c:List V) (H:Hp) (Q:VK) (a:XK):Prop
 |mk (d:Dc) (t:Addr) (b:List V) (lv:V) (e:Dc) (f:c=[d.val,.ref t]) (g:d.At H) (h:H t=some (.tup (b++[lv]))) (i:(∀z∈b++[lv],Dc.BB z)) (j:d.sub b=some e) (k:∀H',AG H H'->Q e.val H'):Rj c H Q a
inductive XS (c:List V) (H:Hp) (Q:VK) (a:XK):Prop
 |mk (d:Dc) (t:Addr) (b:List V) (lv:V) (e:Dc) (x:Dc) (f:c=[d.val,.ref t]) (g:d.At H) (h:H t=some (.tup (b++[lv]))) (i:(∀z∈b++[lv],Dc.BB z)) (j:d.sub b=some e) (k:e.sub [lv]=some x) (l:∀H',AG H H'->Q e.val H'):XS c H Q a
inductive XT (b:List V) (H:Hp) (Q:VK) (a:XK):Prop
 |mk (d:Dc) (z:V) (c:b=[d.val,z]) (e:d.At H) (f:Dc.BB z) (g:Q (.bl (d.room z)) H):XT b H Q a
inductive aV (c:List V) (H:Hp) (Q:VK) (b:XK):Prop
 |mk (d:Dc) (v:Dc) (t:Addr) (a:List V) (lv:V) (e:Dc) (h:c=[d.val,.ref t,v.val]) (i:d.At H) (j:d.slim) (k:d.size<=800) (l:v.At H) (m:v.slim) (n:v.size<=900) (o:H t=some (.tup (a++[lv]))) (p:(∀z∈a++[lv],Dc.BB z)) (q:d.sub a=some e) (f:e.room lv=true) (g:∀(d':Dc) (H':Hp),BQ H H' d'->Dc.Eqv (d.Aw a (e.CT lv v)) d'->Q d'.val H'):aV c H Q b
inductive Ud (f:List V) (H:Hp) (Q:VK) (b:XK):Prop
 |mk (d:Dc) (t:Addr) (a:List V) (lv:V) (e:Dc) (x:Dc) (g:f=[d.val,.ref t]) (h:d.At H) (i:d.slim) (j:d.size<=900) (k:H t=some (.tup (a++[lv]))) (l:(∀z∈a++[lv],Dc.BB z)) (m:d.sub a=some e) (n:e.sub [lv]=some x) (o:∀(q:Addr) (d' c:Dc) (H':Hp),Av H H' [d',c]->H' q=some (.tup [d'.val,c.val])->Dc.Eqv (d.Aw a (e.B_ lv)) d'->Dc.Eqv x c->Q (.ref q) H'):Ud f H Q b
inductive Ue (b:List V) (H:Hp) (Q:VK) (a:XK):Prop
 |mk (c:Int) (k:Nat) (d:b=[.int c,.int (k:Int)]) (e:k<=1000) (f:∀v H',HA v->AG H H'->Q v H'):Ue b H Q a
inductive Rl (b:List V) (H:Hp) (Q:VK) (a:XK):Prop
 |mk (c:Int) (d:b=[.int c]) (e:∀(p:Addr) (ys:List Str) (H':Hp),AG H H'->H p=none->H' p=some (.lst (ys.map V.str))->ys.length=6->ys.Nodup->(∀y∈ys,BS y=true)->Q (.ref p) H'):Rl b H Q a
section
variable{X:Cx} {CX:NV} {k:Nat} {f:Addr} {fd:FuncData} {ps:List Str} {ds:List Value} {Yl:List V} {sp:Sp} {E:XK} {x:Str} {p pos:Pos} {e:Expr} {es:List Expr} {t:TA} {tf:TE}
end
inductive OD (b:Addr) (c:List V) (H:Hp) (Q:VK) (a:XK):Prop
 |mk (d:Dc) (e:c=[d.val,.ref b]) (f:d.At H) (g:d.slim) (h:d.size<=900) (i:∀(p:Addr) (ws:List Dc) (H':Hp),AG H H'->H p=none->H' p=some (.lst (ws.map Dc.val))->ws.length=d.size->Q (.ref p) H'):OD b c H Q a
namespace Dc
theorem Ey {f:List V}:∀{d e:Dc},d.Wf->d.sub f=some e->e.Wf:=by
 induction f with
 |nil=>
  intro d e w h
  rw[As]at h
  cases h
  exact w
 |cons z r g=>
  intro d e w h
  rcases Bu h with⟨a,j,i,x,rfl,rfl,b,c⟩|⟨a,l,j,k,x,rfl,rfl,b,c⟩
  ·cases w with
   |row w=>exact g (w x (AAD b)) c
  ·cases w with
   |tab _ _ w=>exact g (w x (Aj b).2) c
theorem Ku {d:Dc} {z:V} {r:List V} (h:d.sub [z]=none):d.sub (z::r)=none:=by
 cases q:d.sub (z::r)with
 |none=>rfl
 |some e=>
  rcases Bu q with⟨a,c,i,x,rfl,rfl,b,_⟩|⟨a,f,c,k,x,rfl,rfl,b,_⟩
  ·rw[Ew b,As]at h
   cases h
  ·rw[Ex b,As]at h
   cases h
theorem KC {lv:V} {b:List V}:∀{d x:Dc},d.sub (b++[lv])=some x->∃e,d.sub b=some e/\e.sub [lv]=some x:=by
 induction b with
 |nil=>intro d x h;exact⟨d,As d,h⟩
 |cons z r l=>
  intro d x h
  rw[List.cons_append]at h
  rcases Bu h with⟨a,m,i,y,rfl,rfl,c,f⟩|⟨a,n,m,k,y,rfl,rfl,c,f⟩
  ·obtain⟨e,g,j⟩:=l f
   exact⟨e,by rw[Ew c];exact g,j⟩
  ·obtain⟨e,g,j⟩:=l f
   exact⟨e,by rw[Ex c];exact g,j⟩
theorem Rm {l b:List V}:∀{d x:Dc},d.sub (b++l)=some x->∃e,d.sub b=some e/\e.sub l=some x:=by
 induction b with
 |nil=>intro d x h;exact⟨d,As d,h⟩
 |cons z r m=>
  intro d x h
  rw[List.cons_append]at h
  rcases Bu h with⟨a,n,i,y,rfl,rfl,c,f⟩|⟨a,o,n,k,y,rfl,rfl,c,f⟩
  ·obtain⟨e,g,j⟩:=m f
   exact⟨e,by rw[Ew c];exact g,j⟩
  ·obtain⟨e,g,j⟩:=m f
   exact⟨e,by rw[Ex c];exact g,j⟩
end Dc
theorem MX {J:It} {q:TT} {r:TE} {fs:List Nat} {σ:St} {H:Hp} {Q:VK} (n:Nat) (item:Nat->V) (P:Addr->Nat->Hp->Prop) (t:∀D,H D=none->P D 0 (upd H D (.lst [])))
  (j:∀D i d,i<n->P D i d->J.go i d) (u:∀D i d v H',i<n->P D i d->J.Sy i d v H'->v=item i/\H'=d) (k:∀D d,P D n d->J.stop n d)
  (w:∀D i d,H D=none->i<n->P D i d->q (some (item i)::CH σ fs) d fun ok H4=>if ok=true then r (some (item i)::CH σ fs) H4 fun y g=>∃ys,g D=some (.lst ys)/\ys.length<sizeLine/\P D (i+1) (upd g D (.lst (ys++[y])))else P D (i+1) H4)
  (x:∀D d,H D=none->P D n d->Q (.ref D) d):Hq J q r fs σ H Q:=by
 intro D l
 refine⟨fun i m d=>m=n-i/\i<=n/\P D i d,⟨n,rfl,Nat.zero_le _,t D l⟩,?_⟩
 rintro i m d ⟨rfl,A,p⟩
 by_cases f:i<n
 ·refine .inr ⟨j D i d f p,fun v s y=>?_⟩
  obtain⟨rfl,rfl⟩:=u D i d v s f p y
  have o:=w D i s l f p
  have e:(fun(y:V) (g:Hp)=>∃ys,g D=some (.lst ys)/\ys.length<sizeLine/\∃h,h<n-i/\h=n-(i+1)/\i+1<=n/\P D (i+1) (upd g D (.lst (ys++[y]))))=fun y g=>∃ys,g D=some (.lst ys)/\ys.length<sizeLine/\P D (i+1) (upd g D (.lst (ys++[y]))):=by
   funext y g
   refine propext ⟨fun⟨ys,a,b,h,_,_,_,c⟩=>⟨ys,a,b,c⟩,fun⟨ys,a,b,c⟩=>⟨ys,a,b,n-(i+1),by omega,rfl,f,c⟩⟩
  have z:∀H4:Hp,(∃h,h<n-i/\h=n-(i+1)/\i+1<=n/\P D (i+1) H4)=P D (i+1) H4:=fun H4=>propext ⟨fun⟨_,_,_,_,c⟩=>c,fun c=>⟨n-(i+1),by omega,rfl,f,c⟩⟩
  dsimp only
  simp only[e,z]
  exact o
 ·have e:i=n:=by omega
  subst e
  exact .inl ⟨k D d p,x D d l p⟩
section
variable{X:Cx}
inductive LS (K:AAE) (x:V) (y:V) (H:Hp) (Q:VK):Prop
 |mk (a:Addr) (b:Addr) (xs:List V) (ys:List V) (c:x=.ref a) (d:y=.ref b) (e:Ap K H a xs) (f:Ap K H b ys) (g:(∀z∈xs,BR z=true)) (h:(∀z∈ys,BR z=true)) (i:Q (.bl (!Bz xs ys)) H):LS K x y H Q
def OE (K:AAE):V->V->Hp->VK->Prop:=fun x y H Q=>LS K x y H Q
theorem MY (l:X.A.units<cLine):Ep X (compareOp .NotEq) (OE X.K):=by
 intro pins s σ H x y v u Q I m n h
 obtain⟨a,b,d,f,rfl,rfl,o,p,r,t,q⟩:=h
 cases m
 cases n
 obtain⟨g,i,w,_⟩:=I.tuple o
 obtain⟨c,k,z,_⟩:=I.tuple p
 have B:g.toArray.size=d.length:=by rw[List.size_toArray];exact i.length.symm
 have C:c.toArray.size=f.length:=by rw[List.size_toArray];exact k.length.symm
 refine SeqAt.RcNeAt.tuples (e:=fun j=>Kk (d.getD j .BL) (f.getD j .BL)) w z l (fun j D E=>Rb (pins:=pins) (σ:=σ) (H:=H) i k r t j D E) _ _ _ _ ?_
 rw[B,C]
 exact⟨.bl (!Bz d f),H,I,rfl,q⟩
end
theorem OF (zs:List V):Bz zs []=decide (zs=[]):=by
 unfold Bz
 cases zs with
 |nil=>rfl
 |cons z r=>simp
inductive Rn (n:Nat) (b:List V) (H:Hp) (Q:VK) (a:XK):Prop
 |mk (d:Dc) (e:Dc) (c:b=[d.val,e.val]) (f:d.At H) (g:e.At H) (h:Dc.Eqv d e) (i:d.size<=63) (j:d.deep<=n) (k:∀H',AG H H'->Q (.bl true) H'):Rn n b H Q a
inductive Pc (c:List V) (H:Hp) (Q:VK) (a:XK):Prop
 |mk (d:Dc) (t:Addr) (b:List V) (lv:V) (e:Dc) (x:Dc) (f:c=[d.val,.ref t]) (g:d.At H) (h:d.size<=40) (i:H t=some (.tup (b++[lv]))) (j:(∀z∈b++[lv],Dc.BB z)) (k:d.sub b=some e) (l:e.sub [lv]=some x) (m:∀H',AG H H'->Q (.bl true) H'):Pc c H Q a
inductive MZ (c:List V) (H:Hp) (Q:VK) (a:XK):Prop
 |mk (d:Dc) (v:Dc) (t:Addr) (b:List V) (lv:V) (e:Dc) (f:c=[d.val,.ref t,v.val]) (g:d.At H) (h:d.size<=40) (i:v.At H) (j:v.size<=10) (k:H t=some (.tup (b++[lv]))) (l:(∀z∈b++[lv],Dc.BB z)) (m:d.sub b=some e) (n:e.room lv=true) (o:∀H',AG H H'->Q (.bl true) H'):MZ c H Q a
inductive Ro (c:List V) (H:Hp) (Q:VK) (b:XK):Prop
 |mk (d:Dc) (t:Addr) (n:Addr) (a:List V) (ys:List Str) (e:Dc) (g:c=[d.val,.ref t,.ref n]) (h:d.At H) (i:d.size<=40) (j:H t=some (.tup a)) (k:(∀z∈a,Dc.BB z)) (l:a.length<=40) (m:d.sub a=some e) (o:H n=some (.lst (ys.map V.str))) (r:ys.length=6) (s:(∀y∈ys,BS y=true)) (f:∀(p:Addr) (ps:List Addr) (H':Hp),AG H H'->H' p=some (.lst (ps.map V.ref))->(∀q∈ps,∃z,H' q=some (.tup (a++[z]))/\Dc.BB z/\e.room z=true)->Q (.ref p) H'):Ro c H Q b
inductive Ug (b:List V) (H:Hp) (Q:VK) (a:XK):Prop
 |mk (c:Int) (n:Addr) (ys:List Str) (d:b=[.int c,.ref n]) (e:H n=some (.lst (ys.map V.str))) (f:ys.length=6) (g:ys.Nodup) (h:∀(v:Dc) (H':Hp),AG H H'->v.At H'->v.size<=10->Q v.val H'):Ug b H Q a
structure zR (S fr:List Addr) (h h':Heap):Prop where
 keep:∀b o,h.get? b=some o->b∉S->b∉fr->h'.get? b=some o
 slot:∀b o,h.get? b=some o->b∈fr->∃sl,h'.get? b=some {o with slots:=sl}
section
variable{M:Model} {A:Around} {E:Value->Shared->Prop} {s:Shared} {base:Heap} {env:Env} {outer:List Env} {L e:Addr} {oe:Obj} {vs:Array Value} {Q:Unit->Shared->Prop}
structure Entry (h:Heap) (T:Addr) (v:Value):Prop where
 ex:∃oT ts,h.get? T=some oT/\oT.data=.fields ts/\ts[3]?=some v
end
section
variable{P:Program} {w:World} {H H':Hp} {h h' h0:Heap} {a e T C:Addr} {o:HO}
structure vO (H:Hp) (h0 h:Heap) (e C:Addr) (oe:Obj) (vs:Array Value) (T:Addr):Prop where
 at_:h.get? e=some oe
 cls:oe.cls=.ref C
 dict:oe.dict=none
 data:oe.data=.fields vs
 sz:1<vs.size
 one:vs[1]?=some (.ref T)
 ne:T≠e
 ent:Entry h T .none
 He:H e=none
 HT:H T=none
 zS:h0.get? e=none
 zT:h0.get? T=none
def vP (P:Program) (w:World):NV:=fun outer H s E e b=>∃(c C:Addr) (H':Hp),e=.ref c/\b.os=s.os/\AllBare b.gens/\Un (Sw outer) [] H H' s.heap b.heap/\F' P w H' b.heap/\(∃d f T,vO H' s.heap b.heap c C d f T)/\E (.ref C) none H'
end
section
variable{X:Cx} {pins:List (Addr×Obj)} {σ:St} {H:Hp} {s s':Shared} {E:XK} {e:Value}
end
section
variable{P:Program} {w:World} {K:AAE} {mg:Str->Option Value} {base:Heap}
end
def XU (K:AAE) (C:Addr) (b:List Value) (newId:String) (o:Obj):Bool:=match o.data with
 | .cls a=>o.cls==.type "type"&&(a.mro.head?==some (.ref C)&&(PySem.W.tailIn K b a.mro.tail&&(o.slots.size==6&&(o.slots[4]?==some (some (.builtin newId))&&(!a.hasDel&&(PySem.W.nsOkIn K a.ns&&PySem.W.nsIn K a.ns "__init__"==some none))))))
 |_=>false
def Pd (K:AAE) (C:Addr) (a:List Value) (newId:String):Bool:=(K.lookup C).any (XU K C a newId)
section
variable{X:Cx}
end
def subIn (K:AAE) (C D:Addr):Bool:=match K.lookup C with
 |some ⟨_,_,.cls a,_⟩=>a.mro.contains (.ref D)
 |_=>false
section
variable{M:Model} {A:Around} {E:Value->Shared->Prop}
end
abbrev Cx.held (X:Cx) (e:Value):Cx:={X with A:=X.A.mark (some e),calm:=false,xe:=fun _ _=>False}
section
variable{X:Cx} {pins:List (Addr×Obj)} {σ:St} {H:Hp} {s s':Shared} {E:XK} {e:Value}
end
section
variable{X:Cx} {CX:NV} {k:Nat} {f C Dd:Addr} {fd:FuncData} {ps:List Str} {sp:Sp} {x y n:Str} {p pos hp yp tp cp:Pos} {e0:Expr} {es:List Expr} {ta:TA} {eP cW:List Value} {nC nD:String} {b0:Stmt} {Uh:List Stmt} {ts:TS}
structure vQ (X:Cx) (y:Str) (C Dd:Addr) (eP cW:List Value) (nC nD:String):Prop where
 gl:Gl X y
 mg:X.mg y=some (.ref Dd)
 qC:Pd X.K C eP nC=true
 qD:Pd X.K Dd cW nD=true
 bs:cW.contains (.type "BaseException")=true
 sub:subIn X.K C Dd=true
 db:(y==("__debug__":Str))=false
end
abbrev Cx.sr (X:Cx) (a:Addr) (b:Obj):Cx:={X with A:=X.A.mark (some (.ref a)),calm:=false,xe:=fun _ _=>False,pn:=(a,b)::X.pn}
section
variable{X:Cx} {pins:List (Addr×Obj)} {σ:St} {H:Hp} {s s':Shared} {E:XK} {e:Value} {ea:Addr} {oe:Obj}
end
section
variable{X:Cx} {k i:Nat} {f C Dd:Addr} {fd:FuncData} {ps:List Str} {sp:Sp} {x y n:Str} {p pos hp yp tp cp:Pos} {e0:Expr} {es:List Expr} {ta:TA} {eP cW:List Value} {nC nD:String} {b0:Stmt} {Uh:List Stmt} {ts:Addr->TS}
def Ends.only (D:Ends):Ends:={nx:=fun _ _=>False,rt:=D.rt}
end
section
variable{X:Cx} {k i j:Nat} {f C Dd:Addr} {fd:FuncData} {ps:List Str} {sp:Sp} {x y n z:Str} {p pos hp yp tp cp zp:Pos} {e0:Expr} {es:List Expr} {ta:TA} {eP cW:List Value} {nC nD:String} {b0:Stmt} {Uh:List Stmt} {ts:TS} {tx:Addr->TS}
end
section
variable{K:AAE} {x D:Addr} {ox:Obj}
abbrev vR:List Value:=[.type "ValueError",.type "Exception",.type "BaseException",.type "object"]
structure vS (K:AAE) (D:Addr):Prop where
 q:Pd K D vR "ValueError.__new__"=true
 ga:PySem.W.findIn K (.ref D) "__getattribute__"=some (some (.builtin "BaseException.__getattribute__"))
 gn:PySem.W.findIn K (.ref D) "__getattr__"=some none
 vT:PySem.W.hasDictIn K D=true
 ha:PySem.W.findIn K (.ref D) "__class__"=some (some (.builtin "object.__class__"))
 hn:PySem.W.specialIn K (.builtin "object.__class__") "__get__"=some (some (.builtin "getset_descriptor.__get__"))
 zU:PySem.W.takesIn K (.builtin "object.__class__")=some true
 hm:PySem.W.mroIn K D (.type "object")=some true
variable{X:Cx} {ea C:Addr} {oe:Obj}
inductive aW (K:AAE) (ea C:Addr) (xs:List V) (H:Hp) (Q:VK):Prop
 |mk (c:V) (u:Value) (b:Bool) (d:xs=[.ref ea,c]) (e:(∀a,RelV c a->a=u)) (f:PySem.W.kitOne K (.ref C) u=some b) (g:Q (.bl b) H):aW K ea C xs H Q
end
section
variable{P:Program} {w:World} {K:AAE} {mg:Str->Option Value} {base:Heap}
end
inductive eQ (P:Program) (w:World) (K:AAE) (mg:Str->Option Value) (base:Heap) (x:Str) (ps:List Str) (n:Nat) (sp:Sp):Prop
 |mk (f:Addr) (a:FuncData) (k:PySem.W.keepIn K (.ref f)=true) (b:Binds K a ps []) (m:mg x=some (.ref f)) (G:Bb P w K mg base (vP P w) n f a ps sp):eQ P w K mg base x ps n sp
structure zV (P:Program) (w:World) (K:AAE) (mg:Str->Option Value) (base:Heap) (x:Str) (ps:List Str) (n:Nat) (sp:Sp):Prop where
 ex:eQ P w K mg base x ps n sp
inductive Rp (C:Addr) (a:List V) (H:Hp) (Q:VK) (E:XK):Prop
 |mk (d:Dc) (t:Addr) (xs:List V) (b:a=[d.val,.ref t]) (c:d.At H) (f:H t=some (.tup xs)) (g:(∀z∈xs,Dc.BB z)) (h:(∀e,d.sub xs=some e->Q e.val H)) (i:(d.sub xs=none->∀H',AG H H'->E (.ref C) none H')):Rp C a H Q E
inductive Rq (C:Addr) (a:List V) (H:Hp) (Q:VK) (E:XK):Prop
 |mk (d:Dc) (t:Addr) (xs:List V) (b:a=[d.val,.ref t]) (c:d.At H) (f:d.slim) (g:d.size<=900) (h:H t=some (.tup xs)) (i:(∀z∈xs,Dc.BB z)) (j:(∀e,d.sub xs=some e->∀(d':Dc) (H':Hp),BQ H H' d'->Dc.CS e d'->Q d'.val H')) (k:(d.sub xs=none->∀H',AG H H'->E (.ref C) none H')):Rq C a H Q E
inductive Pe (b:List V) (H:Hp) (Q:VK) (a:XK):Prop
 |mk (d:Dc) (t:Addr) (xs:List V) (c:b=[d.val,.ref t]) (e:d.At H) (f:H t=some (.tup xs)) (g:(∀z∈xs,Dc.BB z)) (h:∀H',AG H H'->Q (.bl (d.sub xs).isSome) H'):Pe b H Q a
end L2
namespace L2
open PySem
end L2
namespace L2
open PySem PySem.Spec PyProof.Rows
structure eR (k:Nat) (A:Around):Prop where
 dp:A.depth+3*k+5<recursionLimit
 un:A.units+16*k+200<cLine
 gd:A.guards=some []
abbrev ju (A:Around):Around:={A with handled:=none}
structure eS (P:Program) (w:World) (K:AAE) (mg:Str->Option Value) (base:Heap) (CX:NV) (k:Nat) (f:Addr) (fd:FuncData) (ps:List Str) (sp:Sp):Prop where
 len:∀vs H Q E,sp vs H Q E->vs.length=ps.length
 run:∀(A:Around) (outer:List Env) (s:Shared) (H:Hp) (args:Args) (us:List Value) (vs:List V) (Q:VK) (E:XK),eR k A->TQ P w K mg base A outer s H->BindsTo s fd args (ps.zip us)->Vals vs us->sp vs H Q E->
  codeAny (model P w) A (.call (.ref f) args) (CR CX outer P w H s Q E) s
section
variable{P:Program} {w:World} {K:AAE} {mg:Str->Option Value} {base:Heap}
inductive eT (P:Program) (w:World) (K:AAE) (mg:Str->Option Value) (base:Heap) (x:Str) (ps:List Str) (n:Nat) (sp:Sp):Prop
 |mk (f:Addr) (a:FuncData) (k:PySem.W.keepIn K (.ref f)=true) (b:Binds K a ps []) (m:mg x=some (.ref f)) (G:eS P w K mg base Dk n f a ps sp):eT P w K mg base x ps n sp
structure zW (P:Program) (w:World) (K:AAE) (mg:Str->Option Value) (base:Heap) (x:Str) (ps:List Str) (n:Nat) (sp:Sp):Prop where
 ex:eT P w K mg base x ps n sp
end
section
variable{X:Cx} {CX:NV} {k:Nat} {f:Addr} {fd:FuncData} {ps:List Str} {ds:List Value} {Yl:List V} {sp:Sp} {E:XK} {x:Str} {p pos:Pos} {e:Expr} {es:List Expr} {t:TA}
end
def jv (b C:Addr) (h:Heap):Prop:=∃a:Obj,h.get? b=some a/\a.cls=.ref C/\a.dict=none/\PySem.W.notCls a=true
def eU (a C:Addr):HO:=.ext (jv a C)
section
variable{X:Cx} {pins:List (Addr×Obj)} {σ:St} {H:Hp} {s:Shared} {ea C:Addr} {oe:Obj}
inductive aX (K:AAE) (C:Addr) (xs:List V) (H:Hp) (Q:VK):Prop
 |mk (ea:Addr) (c:V) (u:Value) (b:Bool) (d:xs=[.ref ea,c]) (e:H ea=some (eU ea C)) (f:(∀a,RelV c a->a=u)) (g:PySem.W.kitOne K (.ref C) u=some b) (h:Q (.bl b) H):aX K C xs H Q
end
section
variable{X:Cx} {k i j:Nat} {f C Dd:Addr} {fd:FuncData} {ps:List Str} {sp:Sp} {x y n z:Str} {p pos hp yp tp cp zp:Pos} {e0:Expr} {es:List Expr} {ta:TA} {eP cW:List Value} {nC nD:String} {b0:Stmt} {Uh:List Stmt} {tx:TS}
end
inductive Pf (C:Addr) (b:List V) (H:Hp) (Q:VK) (E:XK):Prop
 |mk (d:Dc) (t:Addr) (xs:List V) (c:b=[d.val,.ref t]) (f:d.At H) (g:H t=some (.tup xs)) (h:(∀z∈xs,Dc.BB z)) (i:(∀a lv e,xs=a++[lv]->d.sub a=some e->∀H',AG H H'->Q e.val H')) (j:((xs=[]∨∃a lv,xs=a++[lv]/\d.sub a=none)->∀H',AG H H'->E (.ref C) none H')):Pf C b H Q E
inductive Ui (C:Addr) (a:List V) (H:Hp) (Q:VK) (E:XK):Prop
 |mk (d:Dc) (t:Addr) (xs:List V) (c:a=[d.val,.ref t]) (f:d.At H) (g:H t=some (.tup xs)) (h:(∀z∈xs,Dc.BB z)) (i:(∀b lv e x,xs=b++[lv]->d.sub b=some e->e.sub [lv]=some x->∀H',AG H H'->Q e.val H')) (j:((xs=[]∨d.sub xs=none)->∀H',AG H H'->E (.ref C) none H')):Ui C a H Q E
def Dc.Y_ (d:Dc) (xs:List V):Prop:=∀a b e,xs=a++[b]->d.sub a=some e->e.room b=false
inductive XW (C:Addr) (b:List V) (H:Hp) (Q:VK) (E:XK):Prop
 |mk (d:Dc) (v:Dc) (t:Addr) (xs:List V) (f:b=[d.val,.ref t,v.val]) (g:d.At H) (h:d.slim) (i:d.size<=800) (j:v.At H) (k:v.slim) (l:v.size<=900) (m:H t=some (.tup xs)) (n:(∀z∈xs,Dc.BB z)) (o:(∀a lv e,xs=a++[lv]->d.sub a=some e->e.room lv=true->∀(d':Dc) (H':Hp),BQ H H' d'->Dc.Eqv (d.Aw a (e.CT lv v)) d'->Q d'.val H')) (c:(d.Y_ xs->∀H',AG H H'->E (.ref C) none H')):XW C b H Q E
inductive Rt (C:Addr) (c:List V) (H:Hp) (Q:VK) (E:XK):Prop
 |mk (d:Dc) (t:Addr) (xs:List V) (f:c=[d.val,.ref t]) (g:d.At H) (h:d.slim) (i:d.size<=900) (j:H t=some (.tup xs)) (k:(∀z∈xs,Dc.BB z)) (l:(∀a lv e x,xs=a++[lv]->d.sub a=some e->e.sub [lv]=some x->∀(q:Addr) (d' b:Dc) (H':Hp),Av H H' [d',b]->H' q=some (.tup [d'.val,b.val])->Dc.Eqv (d.Aw a (e.B_ lv)) d'->Dc.Eqv x b->Q (.ref q) H')) (m:((xs=[]∨d.sub xs=none)->∀H',AG H H'->E (.ref C) none H')):Rt C c H Q E
inductive Ru (b:List V) (H:Hp) (Q:VK) (a:XK):Prop
 |mk (d:Dc) (t:Addr) (xs:List V) (c:b=[d.val,.ref t]) (e:d.At H) (f:H t=some (.tup xs)) (g:(∀z∈xs,Dc.BB z)) (h:Q (.bl (d.sub xs).isSome) H):Ru b H Q a
def FW (b:List Addr) (H H':Hp):Prop:=∀a o,a∉b->H a=some o->H' a=some o
inductive Uj (n:Nat) (c:List V) (H:Hp) (Q:VK) (b:XK):Prop
 |mk (d:Dc) (e:c=[d.val]) (f:d.At H) (g:d.addrs.Nodup) (h:(∀a∈d.addrs,∀o u,H a≠some (.CK o u))) (i:d.deep<=n) (j:d.size<=900) (k:∀H',FW d.addrs H H'->Q .BL H'):Uj n c H Q b
inductive Rv (C:Addr) (c:List V) (H:Hp) (Q:VK) (a:XK):Prop
 |mk (b:Addr) (d:c=[.ref b]) (e:H b=some (eU b C)) (f:∀H',AG H H'->Q (.bl true) H'):Rv C c H Q a
inductive XX (c:List V) (H:Hp) (Q:VK) (a:XK):Prop
 |mk (d:Dc) (v:Dc) (t:Addr) (xs:List V) (f:c=[d.val,.ref t,v.val]) (h:d.At H) (i:d.size<=24) (j:v.At H) (k:v.size<=24) (l:H t=some (.tup xs)) (m:(∀z∈xs,Dc.BB z)) (n:(∀b lv e,xs=b++[lv]->d.sub b=some e->e.room lv=true->∀(g:Addr) (d':Dc) (H':Hp),BQ H H' d'->H' g=some (.tup [d'.val])->Dc.Eqv (d.Aw b (e.CT lv v)) d'->Q (.ref g) H')) (o:(d.Y_ xs->∀H',AG H H'->Q .BL H')):XX c H Q a
inductive XY (b:List V) (H:Hp) (Q:VK) (a:XK):Prop
 |mk (d:Dc) (t:Addr) (n:Addr) (xs:List V) (ys:List Str) (c:Int) (e:Dc) (g:b=[d.val,.ref t,.ref n,.int c]) (h:d.At H) (i:d.size<=24) (j:H t=some (.tup xs)) (k:(∀z∈xs,Dc.BB z)) (l:xs.length<=40) (m:d.sub xs=some e) (o:H n=some (.lst (ys.map V.str))) (p:ys.length=6) (q:(∀y∈ys,BS y=true)) (f:∀(w:Addr) (z:V) (H':Hp),AG H H'->H' w=some (.tup (xs++[z]))->Dc.BB z->Q (.ref w) H'):XY b H Q a
inductive Ry (b:List V) (H:Hp) (Q:VK) (a:XK):Prop
 |mk (d:Dc) (v:Dc) (t:Addr) (xs:List V) (c:b=[d.val,.ref t,v.val]) (e:d.At H) (f:d.size<=24) (g:v.At H) (h:v.size<=24) (i:H t=some (.tup xs)) (j:(∀z∈xs,Dc.BB z)) (k:∀H',AG H H'->Q (.bl true) H'):Ry b H Q a
theorem BQ.down {H b c:Hp} {d:Dc} (D:BQ b c d) (s:AG H b):BQ H c d:=⟨s.trans D.same,D.at_,D.nd,D.own,fun a e=>s.free (D.new a e)⟩
inductive Rz (f:List V) (H:Hp) (Q:VK) (a:XK):Prop
 |mk (d:Dc) (t:Addr) (xs:List V) (h:f=[d.val,.ref t]) (i:d.At H) (j:d.size<=24) (k:H t=some (.tup xs)) (l:(∀z∈xs,Dc.BB z)) (m:(∀b lv e x,xs=b++[lv]->d.sub b=some e->e.sub [lv]=some x->∀(g:Addr) (d' c:Dc) (H':Hp),Av H H' [d',c]->H' g=some (.tup [d'.val,c.val])->Dc.Eqv (d.Aw b (e.B_ lv)) d'->Dc.Eqv x c->Q (.ref g) H')) (n:((xs=[]∨d.sub xs=none)->∀H',AG H H'->Q .BL H')):Rz f H Q a
inductive R_ (f:List V) (H:Hp) (Q:VK) (a:XK):Prop
 |mk (d:Dc) (t:Addr) (xs:List V) (i:f=[d.val,.ref t]) (j:d.At H) (k:d.size<=24) (l:H t=some (.tup xs)) (m:(∀z∈xs,Dc.BB z)) (n:(∀b lv e x,xs=b++[lv]->d.sub b=some e->e.sub [lv]=some x->∀(g h:Addr) (d' c:Dc) (H':Hp),Av H H' [d',c]->H' h=some (.tup [d'.val,c.val])->H' g=some (.tup [.ref h])->Dc.Eqv (d.Aw b (e.B_ lv)) d'->Dc.Eqv x c->Q (.ref g) H')) (o:((xs=[]∨d.sub xs=none)->∀H',AG H H'->Q .BL H')):R_ f H Q a
inductive R' (b:List V) (H:Hp) (Q:VK) (a:XK):Prop
 |mk (d:Dc) (t:Addr) (xs:List V) (c:b=[d.val,.ref t]) (e:d.At H) (f:d.size<=24) (g:H t=some (.tup xs)) (h:(∀z∈xs,Dc.BB z)) (i:∀H',AG H H'->Q (.bl true) H'):R' b H Q a
theorem Dc.Ma {H:Hp} {v:Dc} (a:v.At H):∀{xs:List Dc} {i:Nat},Dc.CY H xs->Dc.CY H (xs.set i v)
 |[],_,h=>h
 |x::r,0,h=>by simp only[List.set_cons_zero,Dc.CY]at h⊢;exact⟨a,h.2⟩
 |x::r,i+1,h=>by simp only[List.set_cons_succ,Dc.CY]at h⊢;exact⟨h.1,Dc.Ma a h.2⟩
theorem Dc.HL (d n:Dc):d.Aw [] n=n:=by cases d<;>rfl
theorem Dc.SA {lv:V} {n:Dc} {c:List V}:∀{d e:Dc},d.Wf->d.sub c=some e->d.Aw (c++[lv]) n=d.Aw c (e.Aw [lv] n):=by
 induction c with
 |nil=>intro d e _ h;rw[Dc.As]at h;cases h;rw[Dc.HL];rfl
 |cons z r l=>
  intro d e m h
  rw[List.cons_append]
  rcases Dc.Bu h with⟨a,o,i,y,rfl,rfl,b,f⟩|⟨a,s,o,k,y,rfl,rfl,b,f⟩
  ·cases m with
   |row g=>rw[Dc.Ca b,Dc.Ca b,l (g y (AAD b)) f]
  ·cases m with
   |tab p q g=>
    have j:=Dc.CB p q b
    rw[Dc.Cw j,Dc.Cw j,l (g y (AAD j)) f]
theorem BQ.change {H E F H4:Hp} {m e x v:Dc} {G:List V} {lv:V} {b:Addr} (f:BQ H E m) (w:m.sub G=some e) (J:e.sub [lv]=some x) (k:BQ E F v) (K:e.val=.ref b) (L:b∈e.addrs) (M:(e.Aw [lv] v).val=.ref b) (A:(e.Aw [lv] v).At H4) (B:∀a o,a≠b->F a=some o->H4 a=some o) (N:∀o u,H4 b≠some (.CK o u)):BQ H H4 (m.Aw G (e.Aw [lv] v)):=by
 have C:=f.up k.same
 have P:=Dc.BD.sub w
 have O:=Dc.EI e (P.at_ f.at_)
 have wt:=Dc.EI m f.at_
 have g:e.addrs.Nodup:=by
  obtain⟨l,r,p,_⟩:=Dc.CN (n:=e) wt f.nd w
  have:=f.nd
  rw[p]at this
  exact(List.nodup_append.mp (List.nodup_append.mp this).1).2.1
 have D:∀c∈v.addrs,c∉m.addrs/\H c=none:=fun c d=>⟨fun z=>Dc.there f.at_ z (k.new c d),f.same.free (k.new c d)⟩
 obtain⟨l,r,p,I⟩:=Dc.CN (n:=v) O g J
 rw[p]at g
 obtain⟨Q,R,S⟩:=List.nodup_append.mp g
 obtain⟨T,U,W⟩:=List.nodup_append.mp Q
 have inl:∀c,c∈l->c∈e.addrs:=fun c h=>by rw[p];exact List.mem_append_left _ (List.mem_append_left _ h)
 have inr:∀c,c∈r->c∈e.addrs:=fun c h=>by rw[p];exact List.mem_append_right _ h
 have s:∀c∈(e.Aw [lv] v).addrs,c∈e.addrs∨c∈v.addrs:=fun c d=>by
  rw[I,List.mem_append,List.mem_append]at d
  rcases d with(d|d)|d
  ·exact .inl (inl c d)
  ·exact .inr d
  ·exact .inl (inr c d)
 refine C.edit w K L M A B ?_ (fun c d=>?_) (fun c d=>(s c d).imp id (D c))
 ·rw[I]
  refine List.nodup_append.mpr ⟨List.nodup_append.mpr ⟨T,k.nd,fun y i z t q=>?_⟩,R,fun y i z t q=>?_⟩
  ·subst q
   exact(D y t).1 (P.addrs y (inl y i))
  ·subst q
   rcases List.mem_append.mp i with i|i
   ·exact S y (List.mem_append_left _ i) y t rfl
   ·exact(D y i).1 (P.addrs y (inr y t))
 ·by_cases j:c=b
  ·rw[j];exact N
  ·rcases s c d with h|h
   ·exact Bs (Dc.there C.at_ (P.addrs c h)) (C.own c (P.addrs c h)) fun o=>B c o j
   ·exact Bs (Dc.there k.at_ h) (k.own c h) fun o=>B c o j
inductive OG (C:Addr) (a:List V) (H:Hp) (Q:VK) (E:XK):Prop
 |mk (d:Dc) (v:Dc) (t:Addr) (xs:List V) (c:a=[d.val,.ref t,v.val]) (e:d.At H) (f:d.slim) (g:d.size<=800) (h:v.At H) (i:v.slim) (j:v.size<=900) (k:H t=some (.tup xs)) (l:(∀z∈xs,Dc.BB z)) (m:(∀x,d.sub xs=some x->∀(d':Dc) (H':Hp),BQ H H' d'->Dc.Eqv (d.Aw xs v) d'->Q d'.val H')) (b:(d.sub xs=none->∀H',AG H H'->E (.ref C) none H')):OG C a H Q E
inductive OH (b:List V) (H:Hp) (Q:VK) (a:XK):Prop
 |mk (d:Dc) (v:Dc) (t:Addr) (xs:List V) (c:b=[d.val,.ref t,v.val]) (e:d.At H) (f:d.size<=24) (h:v.At H) (i:v.size<=24) (j:H t=some (.tup xs)) (k:(∀z∈xs,Dc.BB z)) (l:(∀x,d.sub xs=some x->∀(g:Addr) (d':Dc) (H':Hp),BQ H H' d'->H' g=some (.tup [d'.val])->Dc.Eqv (d.Aw xs v) d'->Q (.ref g) H')) (m:(d.sub xs=none->∀H',AG H H'->Q .BL H')):OH b H Q a
inductive SD (K:AAE) (H:Hp):Nat->V->V->Prop
 |flat {n:Nat} {x y:V} (f:BR x=true) (g:BR y=true) (e:Kk x y=true):SD K H n x y
 |same {n:Nat} {a:Addr}:SD K H n (.ref a) (.ref a)
 |lst {n:Nat} {a b:Addr} {xs ys:List V} (c:A_ K H a xs) (d:A_ K H b ys) (l:xs.length=ys.length) (h:∀(i:Nat) u v,xs[i]?=some u->ys[i]?=some v->SD K H n u v):SD K H (n+1) (.ref a) (.ref b)
 |tup {n:Nat} {a b:Addr} {xs ys:List V} (c:Ap K H a xs) (d:Ap K H b ys) (l:xs.length=ys.length) (h:∀(i:Nat) u v,xs[i]?=some u->ys[i]?=some v->SD K H n u v):SD K H (n+1) (.ref a) (.ref b)
theorem SD.self {K:AAE} {H:Hp} {n:Nat} {x:V} (f:BR x=true):SD K H n x x:=.flat f f (Nz f)
inductive JA (K:AAE) (H:Hp) (n:Nat):List V->List V->Prop
 |nil:JA K H n [] []
 |cons {x y:V} {xs ys:List V} (h:SD K H n x y) (t:JA K H n xs ys):JA K H n (x::xs) (y::ys)
theorem JA.length {K:AAE} {H:Hp} {n:Nat} {xs ys:List V} (h:JA K H n xs ys):xs.length=ys.length:=by
 induction h with
 |nil=>rfl
 |cons _ _ a=>rw[List.length_cons,List.length_cons,a]
theorem JA.get {K:AAE} {H:Hp} {n:Nat} {xs ys:List V} (h:JA K H n xs ys):∀(i:Nat) u v,xs[i]?=some u->ys[i]?=some v->SD K H n u v:=by
 induction h with
 |nil=>intro i u v a;cases a
 |cons h _ c=>
  intro i u v a b
  cases i with
  |zero=>cases a;cases b;exact h
  |succ i=>exact c i u v a b
theorem JA.Y' {K:AAE} {H:Hp} {n:Nat}:∀{xs:List V},(∀z∈xs,BR z=true)->JA K H n xs xs
 |[],_=>.nil
 |x::xs,f=>.cons (.self (f x List.mem_cons_self)) (JA.Y' fun z a=>f z (List.mem_cons_of_mem _ a))
section
variable{X:Cx} {pins:List (Addr×Obj)} {σ:St} {H:Hp} {s:Shared}
theorem Uk {its:List Value} {j:Nat} {u:Value} (g:its[j]?=some u) (h:j<its.toArray.size):its.toArray[j]=u:=by
 have:=(AAB g).2
 simpa using this
theorem Ez {xs:List V} {its:List Value} (r:Vals xs its) {j:Nat} (h:j<its.toArray.size):∃x,xs[j]?=some x/\RelV x its.toArray[j]:=by
 have e:its.toArray.size=xs.length:=by rw[List.size_toArray];exact r.length.symm
 have a:j<xs.length:=by rw[<-e];exact h
 obtain⟨u,g,b⟩:=r.get (AAA a)
 exact⟨_,AAA a,by rw[Uk g h];exact b⟩
theorem SD.at (I:Inv X pins σ H s) {n:Nat} {x y:V} (h:SD X.K H n x y):∀{A:Around} {u v:Value},A.units+n<cLine->RelV x u->RelV y v->SeqAt.EqAt A s u v true:=by
 induction h with
 |flat O P e=>
  intro A u v o g i
  have:=MG (A:=A) (s:=s) g i O P
  rw[e]at this
  exact this
 |same=>
  intro A u v o g i
  cases(show u=_ from g)
  cases(show v=_ from i)
  exact SeqAt.EqAt.same _
 |@lst n a b p q r t l h w=>
  intro A u v o g i
  cases(show u=Value.ref a from g)
  cases(show v=Value.ref b from i)
  by_cases e:a=b
  ·rw[e];exact SeqAt.EqAt.same _
  ·refine SeqAt.EqAt.of_refs e ?_
   obtain⟨d,k,z,_⟩:=I.list r
   obtain⟨c,m,B,_⟩:=I.list t
   have C:d.toArray.size=p.length:=by rw[List.size_toArray];exact k.length.symm
   have D:c.toArray.size=q.length:=by rw[List.size_toArray];exact m.length.symm
   have f:=SeqAt.RcAt.lists (A:=A) (e:=fun _=>true) z.isList B.isList (by rw[C,D,l]) (by lia) (fun j E F=>by
    obtain⟨x,G,J⟩:=Ez k E
    obtain⟨y,L,M⟩:=Ez m F
    exact w j x y G L (A:=A.in1) (by show A.units+1+n<cLine;lia) J M)
   have N:(List.range d.toArray.size).all (fun _=>true)=true:=by simp
   rw[N]at f
   exact f
 |@tup n a b p q r t l h w=>
  intro A u v o g i
  cases(show u=Value.ref a from g)
  cases(show v=Value.ref b from i)
  by_cases e:a=b
  ·rw[e];exact SeqAt.EqAt.same _
  ·refine SeqAt.EqAt.of_refs e ?_
   obtain⟨d,k,z,_⟩:=I.tuple r
   obtain⟨c,m,B,_⟩:=I.tuple t
   have C:d.toArray.size=p.length:=by rw[List.size_toArray];exact k.length.symm
   have D:c.toArray.size=q.length:=by rw[List.size_toArray];exact m.length.symm
   have f:=SeqAt.RcAt.tuples (A:=A) (e:=fun _=>true) z B (by lia) (fun j E F=>by
    obtain⟨x,G,J⟩:=Ez k E
    obtain⟨y,L,M⟩:=Ez m F
    exact w j x y G L (A:=A.in1) (by show A.units+1+n<cLine;lia) J M)
   have N:((List.range (min d.toArray.size c.toArray.size)).all (fun _=>true)&&d.toArray.size==c.toArray.size)=true:=by
    rw[C,D,l];simp
   rw[N]at f
   exact f
inductive eV (K:AAE) (c:Bool) (x y:V) (H:Hp) (Q:VK):Prop
 |mk (a b:Addr) (xs ys:List V) (d:x=.ref a) (e:y=.ref b) (f:A_ K H a xs) (g:A_ K H b ys) (h:JA K H 20 xs ys) (q:Q (.bl c) H):eV K c x y H Q
theorem aY (E:X.A.units+64<cLine):Ep X (compareOp .Eq) (eV X.K true):=by
 intro pins s σ H x y v u Q I d f h
 obtain⟨a,b,l,m,rfl,rfl,n,o,h,q⟩:=h
 cases d
 cases f
 obtain⟨g,i,p,_⟩:=I.list n
 obtain⟨c,k,r,_⟩:=I.list o
 have t:g.toArray.size=l.length:=by rw[List.size_toArray];exact i.length.symm
 have w:c.toArray.size=m.length:=by rw[List.size_toArray];exact k.length.symm
 refine SeqAt.eq_listAt (e:=fun _=>true) p.isList r.isList (by rw[t,w,h.length]) (by lia) (fun j z B=>?_) ?_
 ·obtain⟨x,C,d⟩:=Ez i z
  obtain⟨y,D,f⟩:=Ez k B
  exact(h.get j x y C D).at I (A:=X.A.in1) (by show X.A.units+1+20<cLine;lia) d f
 ·refine⟨.bl true,H,I,?_,q⟩
  show Value.bool _=Value.bool _
  congr 1
  simp
end
def jw:Key->PyData
 | .inl i=>.int i
 | .inr x=>.str x
mutual
inductive JB (H:Hp):V->PyData->Prop
 |BL:JB H .BL .none
 |bl (b:Bool):JB H (.bl b) (.bool b)
 |int (i:Int):JB H (.int i) (.int i)
 |str (x:Str):JB H (.str x) (.str x)
 |lst {a:Addr} {xs:List V} {c:List PyData} (h:Rd H a (.lst xs)) (r:E_ H xs c):JB H (.ref a) (.list c)
 |tup {a:Addr} {xs:List V} {c:List PyData} (h:H a=some (.tup xs)) (r:E_ H xs c):JB H (.ref a) (.tuple c)
 |ES {a:Addr} {kvs:List (Key×V)} {c:List PyData} (h:Rd H a (.dK kvs)) (r:E_ H (kvs.map (·.2)) c):JB H (.ref a) (.dict ((kvs.map fun p=>jw p.1).zip c))
 |zX {v:V} {d:PyData} (r:∀H',AG H H'->∀(P:Program) (w:World) (h:Heap),F' P w H' h->∀u,RelV v u->∃e,Reads h u d e/\∀b∈e,∃o,H' b=some o):JB H v d
inductive E_ (H:Hp):List V->List PyData->Prop
 |nil:E_ H [] []
 |cons {x:V} {d:PyData} {xs:List V} {a:List PyData} (h:JB H x d) (t:E_ H xs a):E_ H (x::xs) (d::a)
end
theorem XZ {a:Type} {kvs:List (a×V)} {b:List (a×Value)} (r:KV kvs b):Vals (kvs.map (·.2)) (b.map (·.2)):=by
 unfold KV at r
 induction r with
 |nil=>exact .nil
 |cons h _ c=>exact .cons h.2 c
inductive aZ (xs:List V) (H:Hp) (Q:VK):Prop
 |mk (a:Addr) (d:PyData) (e:xs=[.ref a]) (h:JB H (.ref a) d) (s:d.showable=true) (z:d.shown.length<=sizeLine) (dp:d.depth<=150) (q:Q (.str d.shown) H):aZ xs H Q
theorem HY {x:V} {r:List V}:NX (x::r) 0=some x:=Cb (j:=0) rfl
theorem GD {x y:V} {r:List V}:NX (x::y::r) 1=some y:=Cb (j:=1) rfl
theorem at2 {x y z:V} {r:List V}:NX (x::y::z::r) 2=some z:=Cb (j:=2) rfl
theorem Ia {b c:Bool} {A B:Prop} (a:b=true->A) (d:b=false->B):if(if false=true then c else b)=true then A else B:=by
 rw[if_neg Bool.false_ne_true]
 cases b with
 |true=>exact BO (a rfl)
 |false=>exact Au (d rfl)
theorem eW {b c:Bool} {A B:Prop} (a:c=true->A) (d:c=false->B):if(if true=true then c else b)=true then A else B:=by
 rw[if_pos rfl]
 cases c with
 |true=>exact BO (a rfl)
 |false=>exact Au (d rfl)
theorem Ul {c:Bool} {A B:Prop} (a:c=true->A) (b:c=false->B):if c=true then A else B:=by
 cases c with
 |true=>exact BO (a rfl)
 |false=>exact Au (b rfl)
theorem SE {X:Cx} {a rest:List Stmt} {st:Stmt} {t u:TS} (e:a=st::rest) (b:PS X st t) (c:QN X rest u):QN X a (WV t u):=by
 subst e
 exact AD b c
theorem D' {t u:TS} {D:Ends} {σ:St} {H:Hp} (R:St->Hp->Prop) (k:∀a H',R a H'->u D a H') (h:(∀a H',R a H'->u D a H')->t {D with nx:=u D} σ H):WV t u D σ H:=h k
def WL:V->Bool
 | .str _=>false
 |_=>true
def KD (ys xs:List V):V:=if Bz (ys.take xs.length) xs&&decide (xs.length<ys.length)&&WL (ys.getD xs.length .BL)then ys.getD xs.length .BL else .BL
def Ck (zs xs:List V):List V:=
 match zs[xs.length-1]?,xs.getLast? with
 |some (.int i),some (.int j)=>if Bz (zs.take (xs.length-1)) xs.dropLast=true/\(j<i∨(i=j/\xs.length<zs.length))then zs.set (xs.length-1) (.int (i+1))else zs
 |_,_=>zs
def GW (w:Str) (xs zs:List V):List V:=if w="copy"then zs else if w="move"then Ck zs xs else xs
def steps (xs:List V):Prop:=∀z∈xs,Dc.BB z
theorem step_eq {x y:V} (a:Dc.BB x) (b:Dc.BB y) (h:Kk x y=true):x=y:=by
 rcases a with⟨i,rfl⟩|⟨k,rfl,_⟩<;>rcases b with⟨j,rfl⟩|⟨l,rfl,_⟩<;>simp_all [Kk]
theorem FX {xs ys:List V} (c:steps xs) (d:steps ys) (h:Bz xs ys=true):xs=ys:=by
 unfold Bz at h
 simp only[Bool.and_eq_true,beq_iff_eq]at h
 obtain⟨e,f⟩:=h
 refine List.ext_getElem f fun i a b=>?_
 have:=(List.all_eq_true.mp e) i (List.mem_range.mpr (by lia))
 rw[List.getD_eq_getElem?_getD,List.getD_eq_getElem?_getD,AAA a,AAA b]at this
 exact step_eq (c _ (List.getElem_mem a)) (d _ (List.getElem_mem b)) this
theorem Xa {v:V} (h:Dc.BB v) (p:WL v=true):∃i:Nat,v=.int (i:Int):=by
 rcases h with h|⟨k,rfl,_⟩
 ·exact h
 ·cases p
theorem SF {zs a:List V} (sz:steps zs) (h:(Bz (zs.take a.length) a&&decide (a.length<zs.length)&&WL (zs.getD a.length .BL))=true):
  ∃i:Nat,zs[a.length]?=some (.int (i:Int))/\KD zs a=.int (i:Int)/\Bz (zs.take a.length) a=true/\a.length<zs.length:=by
 have c:=h
 simp only[Bool.and_eq_true,decide_eq_true_eq]at c
 obtain⟨⟨j,b⟩,d⟩:=c
 have g:zs[a.length]?=some zs[a.length]:=AAA b
 have e:zs.getD a.length .BL=zs[a.length]:=by rw[List.getD_eq_getElem?_getD,g];rfl
 rw[e]at d
 obtain⟨i,f⟩:=Xa (sz _ (List.getElem_mem b)) d
 refine⟨i,by rw[g,f],?_,j,b⟩
 unfold KD
 rw[h,if_pos rfl,e,f]
theorem SG {zs a:List V} (h:(Bz (zs.take a.length) a&&decide (a.length<zs.length)&&WL (zs.getD a.length .BL))=false):KD zs a=.BL:=by
 unfold KD
 rw[h,if_neg Bool.false_ne_true]
theorem HM (zs a:List V) (lv:V):Ck zs (a++[lv])=match zs[a.length]?,lv with
  |some (.int i),.int j=>if Bz (zs.take a.length) a=true/\(j<i∨(i=j/\a.length+1<zs.length))then zs.set a.length (.int (i+1))else zs
  |_,_=>zs:=by
 unfold Ck
 have b:(a++[lv]).length-1=a.length:=by simp
 have c:(a++[lv]).getLast?=some lv:=by simp
 have d:(a++[lv]).dropLast=a:=by simp
 have e:(a++[lv]).length=a.length+1:=by simp
 rw[b,c,d,e]
 cases zs[a.length]? with
 |none=>rfl
 |some z=>cases z<;>cases lv<;>rfl
theorem Pg {zs a:List V} {lv:V} (h:(Bz (zs.take a.length) a&&decide (a.length<zs.length)&&WL (zs.getD a.length .BL))=false):Ck zs (a++[lv])=zs:=by
 rw[HM]
 by_cases b:a.length<zs.length
 ·have g:zs[a.length]?=some zs[a.length]:=AAA b
  have d:zs.getD a.length .BL=zs[a.length]:=by rw[List.getD_eq_getElem?_getD,g];rfl
  rw[d,decide_eq_true b,Bool.and_true]at h
  rw[g]
  cases e:zs[a.length]with
  |int i=>
   rw[e]at h
   have f:Bz (zs.take a.length) a=false:=by simpa[WL]using h
   cases lv with
   |int j=>exact if_neg fun c=>by rw[f]at c;exact Bool.false_ne_true c.1
   |_=>rfl
  |_=>rfl
 ·rw[List.getElem?_eq_none_iff.mpr (by lia)]
theorem SH {zs a:List V} {k:Str}:Ck zs (a++[.str k])=zs:=by
 rw[HM]
 cases zs[a.length]? with
 |none=>rfl
 |some z=>cases z<;>rfl
theorem SI {zs a:List V} {i j:Int} (g:zs[a.length]?=some (.int i)) (b:Bz (zs.take a.length) a=true):Ck zs (a++[.int j])=if j<i∨(i=j/\a.length+1<zs.length)then zs.set a.length (.int (i+1))else zs:=by
 rw[HM,g]
 by_cases c:j<i∨(i=j/\a.length+1<zs.length)
 ·rw[if_pos c];exact if_pos ⟨b,c⟩
 ·rw[if_neg c];exact if_neg fun z=>c z.2
theorem Co {zs a:List V} {v:V} (h:zs.take a.length=a) (b:a.length<zs.length):a++[v]++zs.drop (a.length+1)=zs.set a.length v:=by
 rw[List.set_eq_take_append_cons_drop,if_pos b,h,List.append_assoc]
 rfl
theorem Mb (zs xs:List V):(Ck zs xs).length=zs.length:=by
 unfold Ck
 split
 ·split<;>simp
 ·rfl
theorem OI {zs xs:List V} (h:steps zs):steps (Ck zs xs):=by
 unfold Ck
 split
 ·rename_i i j b c
  split
  ·intro z a
   rcases List.mem_or_eq_of_mem_set a with a|rfl
   ·exact h z a
   ·have:=h _ (AAD b)
    rcases this with⟨k,e⟩|⟨k,e,_⟩
    ·cases e;exact .inl ⟨k+1,by simp⟩
    ·cases e
  ·exact h
 ·exact h
def Fs:Sp:=fun a H Q _=>∃z,a=[z]/\Dc.BB z/\Q (.bl (WL z)) H
def Ph:Sp:=fun d H Q _=>∃(p h:Addr) (a b:List V),d=[.ref p,.ref h]/\H p=some (.tup a)/\H h=some (.tup b)/\steps a/\steps b/\∀c,AG H c->Q (KD a b) c
def Pj:Sp:=fun d H Q _=>∃(p h:Addr) (b a:List V) (i:Int),d=[.ref p,.ref h,.int i]/\H p=some (.tup b)/\H h=some (.tup a)/\b.length<=400/\a.length<=400/\∀q c,AG H c->c q=some (.tup (a++[.int i]++b.drop (a.length+1)))->Q (.ref q) c
def KG:Sp:=fun d H Q _=>∃(t p:Addr) (b a:List V),d=[.ref t,.ref p]/\H t=some (.tup b)/\H p=some (.tup a)/\a≠[]/\steps b/\steps a/\b.length<=400/\a.length<=400/\∀q c,AG H c->c q=some (.tup (Ck b a))->Q (.ref q) c
def FY:List Str:=["put","take","move","copy","change","ask","has","lacks","is"]
structure Rw (H:Hp) (r:V) (w:Str) (xs zs:List V) (p:Addr):Prop where
 ex:∃(a:Addr) (rest:List V),r=.ref a/\H a=some (.tup (.str w::.ref p::rest))/\(w="copy"∨w="move"->∃p2,rest=[.ref p2]/\H p2=some (.tup zs))
 hp:H p=some (.tup xs)
 sx:steps xs
 sz:steps zs
 lx:xs.length<=100
 lz:zs.length<=100
 wd:w∈FY
 nx:w="put"∨w="lacks"∨w="take"∨w="move"->xs≠[]
 nz:w="copy"∨w="move"->zs≠[]
theorem Rw.up {H H':Hp} {r:V} {w:Str} {xs zs:List V} {p:Addr} (h:Rw H r w xs zs p) (s:AG H H'):Rw H' r w xs zs p:=by
 obtain⟨⟨a,rest,e,b,c⟩,d,f,sz,g,i,j,k,l⟩:=h
 exact⟨⟨a,rest,e,s _ _ b,fun hw=>by obtain⟨m,n,o⟩:=c hw;exact⟨m,n,s _ _ o⟩⟩,s _ _ d,f,sz,g,i,j,k,l⟩
def LU (ws:List V):Sp:=fun b H Q _=>∃(r:V) (w:Str) (c d:List V) (p:Addr),b=[r]/\Rw H r w c d p/\∀a,AG H a->Q (if FA (.str w) ws then .ref p else .BL) a
def Mc:Sp:=fun a H Q _=>∃(r:V) (w:Str) (b c:List V) (p:Addr),a=[r]/\Rw H r w b c p/\Q (if decide (V.str w=.str "move")then .ref p else .BL) H
def Pk (H:Hp) (v:V) (ys:List V):Prop:=∃(t h:Addr) (l:V),v=.ref t/\H t=some (.tup [.ref h,l])/\H h=some (.tup ys.dropLast)/\ys.getLast?=some l
def JJ:List Str:=["put","copy","move"]
abbrev Dh:List V:=JJ.map V.str
theorem FZ (w:Str):∀ws:List Str,FA (.str w) (ws.map V.str)=decide (w∈ws)
 |[]=>by simp[FA]
 |x::ws=>by
  have a:=FZ w ws
  simp only[FA,List.map_cons,List.any_cons]at a⊢
  rw[a]
  by_cases e:w=x
  ·subst e;simp[Kk]
  ·have b:¬x=w:=fun z=>e z.symm
   simp[Kk,e,b]
theorem vU {w:Str} (h:FA (.str w) Dh=true):w="put"∨w="copy"∨w="move":=by
 rw[FZ]at h
 have:=of_decide_eq_true h
 simpa[JJ]using this
def KH:List Value->List Str->Bool
 |[],[]=>true
 | .str x _::a,y::ys=>x==y&&KH a ys
 |_,_=>false
def Xb (K:AAE) (a:Addr) (ws:List Str):Bool:=match K.lookup a with
 |some o=>o.cls==.type "tuple"&&(match o.data with
  | .seq b _=>decide (b.size<=1000)&&KH b.toList ws
  |_=>false)
 |none=>false
theorem LV:∀{a:List Value} {ws:List Str},KH a ws=true->Vals (ws.map V.str) a
 |[],[],_=>.nil
 |[],_::_,h=>by simp[KH]at h
 |u::a,[],h=>by cases u<;>simp[KH]at h
 |u::a,y::ys,h=>by
  cases u with
  |str x t=>
   simp only[KH,Bool.and_eq_true,beq_iff_eq]at h
   obtain⟨rfl,h⟩:=h
   exact .cons ⟨t,rfl⟩ (LV h)
  |_=>simp[KH]at h
theorem Ap.vV {K:AAE} {a:Addr} {ws:List Str} (h:Xb K a ws=true) (H:Hp):Ap K H a (ws.map V.str):=by
 unfold Xb at h
 split at h
 ·rename_i o lk
  simp only[Bool.and_eq_true,beq_iff_eq]at h
  obtain⟨c,h⟩:=h
  split at h
  ·rename_i b n d
   simp only[Bool.and_eq_true,decide_eq_true_eq]at h
   exact .inr ⟨o,b,n,lk,c,d,BA h.1,LV h.2⟩
  ·cases h
 ·cases h
def Xc (H:Hp) (v:V) (w:Str) (xs zs:List V):Prop:=if FA (.str w) Dh then Pk H v (GW w xs zs)else v=.BL
def Md:Sp:=fun d H Q _=>∃(r:V) (w:Str) (b c:List V) (p:Addr),d=[r]/\Rw H r w b c p/\∀v a,AG H a->Xc a v w b c->Q v a
inductive BY (H:Hp):List Addr->List (List V)->Prop
 |nil:BY H [] []
 |cons {a:Addr} {xs:List V} {c:List Addr} {b:List (List V)} (h:H a=some (.tup xs)) (t:BY H c b):BY H (a::c) (xs::b)
def nC (w:Str) (xs zs:List V):List (List V):=if FA (.str w) Dh then[(GW w xs zs).dropLast]else[]
theorem BY.length {H:Hp} {ps:List Addr} {a:List (List V)} (h:BY H ps a):ps.length=a.length:=by
 induction h with
 |nil=>rfl
 |cons _ _ b=>rw[List.length_cons,List.length_cons,b]
theorem BY.up {H H':Hp} {ps:List Addr} {a:List (List V)} (h:BY H ps a) (s:∀b ys,H b=some (.tup ys)->H' b=some (.tup ys)):BY H' ps a:=by
 induction h with
 |nil=>exact .nil
 |cons h _ c=>exact .cons (s _ _ h) c
structure Nd (H H':Hp) (l:Addr) (ps:List Addr) (vW:List (List V)):Prop where
 same:AG H H'
 nl:H l=none
 hl:H' l=some (.lst (ps.map V.ref))
 tu:BY H' ps vW
def vX (H:Hp) (v:V) (w:Str) (xs zs:List V):Prop:=if w="lacks"then Pk H v xs else if FA (.str w) Dh=true/\WL ((GW w xs zs).getLastD .BL)=false then Pk H v (GW w xs zs)else v=.BL
theorem Xd {K:AAE} {H:Hp} {n:Nat} {a b:Addr} {xs:List V} (c:H a=some (.tup xs)) (d:H b=some (.tup xs)) (f:steps xs):SD K H (n+1) (.ref a) (.ref b):=
 .tup (Ap.of c) (Ap.of d) rfl (JA.Y' fun z e=>(f z e).flat).get
theorem LW {w:Str} {xs zs:List V} (b:steps xs) (a:steps zs):steps (GW w xs zs):=by
 unfold GW
 split
 ·exact a
 ·split
  ·exact OI a
  ·exact b
def zY (H:Hp) (v:V):Prop:=v=.BL∨∃(a:Addr) (b:List V),v=.ref a/\H a=some (.tup b)
theorem Dc.HN {j:List V}:∀{d e n:Dc},d.Wf->d.sub j=some e->d.ok->n.ok->(d.Aw j n).ok:=by
 induction j with
 |nil=>
  intro d e n _ h _ f
  have:Dc.Aw d [] n=n:=by cases d<;>rfl
  rw[this];exact f
 |cons z r p=>
  intro d e n s h b f
  rcases Dc.Bu h with⟨a,u,i,x,rfl,rfl,g,l⟩|⟨a,A,u,k,x,rfl,rfl,g,l⟩
  ·cases s with
   |row m=>
    simp only[Dc.ok]at b
    have c:=AAD g
    have o:=p (m x c) l (Dc.BC.mp b x c) f
    rw[Dc.Ca g]
    simp only[Dc.ok]
    refine Dc.BC.mpr fun y q=>?_
    rcases List.mem_or_eq_of_mem_set q with q|q
    ·exact Dc.BC.mp b y q
    ·rw[q];exact o
  ·cases s with
   |tab v w m=>
    have t:=Dc.CB v w g
    simp only[Dc.ok]at b
    have c:=AAD t
    have o:=p (m x c) l (Dc.BC.mp b.2 x c) f
    rw[Dc.Cw t]
    simp only[Dc.ok]
    refine⟨b.1,Dc.BC.mpr fun y q=>?_⟩
    rcases List.mem_or_eq_of_mem_set q with q|q
    ·exact Dc.BC.mp b.2 y q
    ·rw[q];exact o
theorem Dc.Xe {e:Dc} {z:V} (h:e.ok):(Dc.B_ e z).ok:=by
 cases e with
 |leaf v=>cases z<;>exact h
 |row a b=>
  cases z with
  |int i=>
   simp only[Dc.B_,Dc.ok]at h⊢
   exact Dc.BC.mpr fun y q=>Dc.BC.mp h y (List.mem_of_mem_eraseIdx q)
  |_=>exact h
 |tab a c b=>
  cases z with
  |str k=>
   simp only[Dc.B_,Dc.ok]at h⊢
   exact⟨fun y q=>h.1 y (List.mem_of_mem_eraseIdx q),Dc.BC.mpr fun y q=>Dc.BC.mp h.2 y (List.mem_of_mem_eraseIdx q)⟩
  |_=>exact h
theorem Dc.JK {H:Hp} {d:Dc} (h:d.At H):decide (d.val=.BL)=false:=by
 cases d with
 |leaf v=>
  rcases(show Dc.Lf v from h)with⟨i,rfl⟩|⟨x,rfl,_⟩<;>rfl
 |row a b=>rfl
 |tab a c b=>rfl
def Me:Sp:=fun e H Q _=>∃c d:Int,e=[.int c,.int d]/\∀(p:Dc) (b:Hp),AG H b->p.At b->p.Iw->(∀a∈p.addrs,∀o u,b a≠some (.CK o u))->(∀a∈p.addrs,H a=none)->Q p.val b
def Pl (K:AAE):Sp:=fun f H Q _=>∃(a n:Addr) (c:List Int) (k m:Nat) (b:List Str),f=[.ref a,.int (k:Int),.int (m:Int),.ref n]/\A_ K H a (c.map V.int)/\c.length<=63/\k<=1000/\1<=m/\m<=24/\H n=some (.lst (b.map V.str))/\b.length<=100/\0<b.length/\(∀y∈b,BS y=true)/\
 ∀(d:Dc) (e:Hp),Made H e d->d.size<=m->d.named b->Q d.val e
def low (xs:List V):Prop:=∀z∈xs,∀i:Int,z=.int i->i.natAbs<1000
def iG (H:Hp) (b:List V):Prop:=∀v∈b,∃(p:Addr) (a:List V),v=.ref p/\H p=some (.tup a)/\steps a/\a≠[]/\a.length<=20/\low a
def KI (K:AAE):Sp:=fun b H Q _=>∃(l:Addr) (a:List V) (c:Int) (j:Nat),b=[.ref l,.int c,.int (j:Int)]/\A_ K H l a/\0<a.length/\j<=1000/\∀v∈a,Q v H
def s_ (H:Hp) (v:V):Prop:=∃d:PyData,JB H v d/\d.showable=true/\d.shown.length<=sizeLine/\d.depth<=100
def vY (H:Hp) (v:V) (b n:Nat):Prop:=∃D:PyData,JB H v D/\D.showable=true/\D.leavesShort 2000=true/\D.bulk<=b/\D.depth<=n
def vZ (H:Hp) (xs:List V) (b n:Nat):Prop:=∃a:List PyData,E_ H xs a/\PyData.showableAll a=true/\PyData.leavesShortAll 2000 a=true/\PyData.bulkAll a<=b/\PyData.depthAll a<=n
theorem Dc.Xf {zs:List V}:∀{d e:Dc},d.sub zs=some e->d.size<=900->low zs:=by
 induction zs with
 |nil=>intro d e _ _ z b;cases b
 |cons y r l=>
  intro d e h sz
  rcases Dc.Bu h with⟨a,m,i,x,rfl,rfl,c,f⟩|⟨a,o,m,k,x,rfl,rfl,c,f⟩
  ·have g:=AAD c
   have n:=Dc.Bn g
   have p:=(AAB c).1
   have q:=Dc.Es m
   simp only[Dc.size]at sz
   intro z b j e
   rcases List.mem_cons.mp b with rfl|b
   ·cases e;lia
   ·exact l f (by lia) z b j e
  ·have g:=(Dc.Aj c).2
   have n:=Dc.Bn g
   simp only[Dc.size]at sz
   intro z b j e
   rcases List.mem_cons.mp b with rfl|b
   ·cases e
   ·exact l f (by lia) z b j e
section
variable{prog:Program} {w:World} {A:Around} {E:Value->Shared->Prop} {s:Shared}
abbrev jx (h:Heap) (z TI TO T:Addr) (f:Bool):Prop:=
 h.get? z=some {cls:=.type "zip",dict:=none,data:=.fields #[rawInt T,.bool f,.bool false,.ref TI,.ref TO],slots:= #[]}
structure zZ (h:Heap) (z TI TO i1 i2 l1 l2 S:Addr) (i:Nat) (xs ys:Array Value):Prop where
 st:(i=0/\IsZip h z TI TO .none/\∃a b,IsPair h TO a b)∨∃T f oT,jx h z TI TO T f/\h.get? T=some oT/\T≠z/\T≠i1/\T≠i2/\T≠S
 ti:IsPair h TI (.ref i1) (.ref i2)
 h1:h.IsListIter i1 l1 i
 h2:h.IsListIter i2 l2 i
 L1:h.IsList l1 xs
 L2:h.IsList l2 ys
structure ZG (xs ys:Array Value) (lo:Addr) (h:Heap) (as:List Addr):Prop where
 rise:as.Pairwise (·<·)
 above:∀a∈as,lo<a
 there:∀a∈as,a<h.objs.size
 pairs:∀(j:Nat) (a:Addr),as[j]?=some a->∃x y,xs[j]?=some x/\ys[j]?=some y/\IsPair h a x y
end
section
variable{prog:Program} {w:World} {A:Around} {s:Shared} {R:Result->Shared->Prop} {xs ys:Array Value}
end
section
variable{prog:Program} {w:World} {A:Around} {E:Value->Shared->Prop} {s:Shared} {xs ys:Array Value}
end
section
variable{X:Cx} {pins:List (Addr×Obj)} {σ:St} {H:Hp} {s:Shared}
inductive vc (x y:V) (H:Hp) (Q:VK):Prop
 |mk (a b:Addr) (xs ys:List V) (d:x=.ref a) (e:y=.ref b) (f:H a=some (.lst xs)) (g:H b=some (.lst ys)) (l:xs.length=ys.length)
   (q:∀(p:Addr) (c:List Addr) (H':Hp),AG H H'->H p=none->H' p=some (.lst (c.map V.ref))->c.length=xs.length->(∀(j:Nat) t x y,c[j]?=some t->xs[j]?=some x->ys[j]?=some y->H' t=some (.tup [x,y]))->Q (.ref p) H'):vc x y H Q
end
theorem DV (b:Int) (u:Tok) (l:Addr) (c:Value) (e:Array DictEntry) (n:Nat) (f:Option Addr) (i:Array (Option Value)):
  Meets (Builtin.«int.__eq__» ⟨[.int b u,.ref l],[]⟩) (fun _ R s=>s.heap.get? l=some {cls:=c,dict:=f,data:=.dict e n,slots:=i}/\R (.ok (.ret .notImplemented)) s):=
 .of_wp fun prog w A R s h=>by obtain⟨j,g,d,k,os⟩:=s;obtain⟨a,h⟩:=h;wp_walk using wpAny_loadPart' a,wpAny_load a;exact⟨_,rfl,h⟩
theorem DW (b:Str) (u:Tok) (l:Addr) (c:Value) (e:Array DictEntry) (n:Nat) (f:Option Addr) (i:Array (Option Value)):
  Meets (Builtin.«str.__eq__» ⟨[.str b u,.ref l],[]⟩) (fun _ R s=>s.heap.get? l=some {cls:=c,dict:=f,data:=.dict e n,slots:=i}/\R (.ok (.ret .notImplemented)) s):=
 .of_wp fun prog w A R s h=>by obtain⟨j,g,d,k,os⟩:=s;obtain⟨a,h⟩:=h;wp_walk using wpAny_loadPart' a,wpAny_load a;exact⟨_,rfl,h⟩
section
variable{prog:Program} {w:World} {A:Around} {E:Value->Shared->Prop} {s:Shared}
theorem Bp {d:Addr} {v:Value} {T:String} {Q:Value->Shared->Prop} (c:s.TypeIs (.ref d) "dict") (e:s.TypeIs v T) (a:isSubtype (.type T) (.type "dict")=pure false) (h:Q .notImplemented s):
  wpAny (model prog w) A (call (.builtin "dict.__eq__") [.ref d,v]) Q E s:=by
 refine wpAny_call_entry PySem.F.slot_dict_eq c PySem.F.entry_dict_eq ?_ (PySem.F.args_dict_eq_2 _ _)
 show wpAny _ _ (Builtin.Dict.dictSlotArgs "__eq__" ⟨[.ref d,v],[]⟩>>=_) _ _ s
 refine wpAny_bind ?_
 unfold Builtin.Dict.dictSlotArgs
 refine wpAny_bind (wpAny_notOrdered_dict c ?_)
 show wpAny _ _ (pure (Value.ref d,v)) _ _ s
 refine wpAny_pure ?_
 refine wpAny_bind (wpAny_isInstance (T:=T) (b:=false) e a ?_)
 simp only[Bool.not_false,if_true]
 exact wpAny_bind (wpAny_rule (wpAny_pure ⟨_,rfl,h⟩))
theorem C' (l b:Addr) (items:Array Value) (e:Array DictEntry) (n f:Nat) (i a:Option Addr) (j c:Array (Option Value)):
  Meets (Builtin.«list.__eq__» ⟨[.ref l,.ref b],[]⟩) (fun _ R s=>s.heap.get? l=some {cls:=.type "list",dict:=i,data:=.seq items n,slots:=j}/\s.heap.get? b=some {cls:=.type "dict",dict:=a,data:=.dict e f,slots:=c}/\R (.ok (.ret .notImplemented)) s):=
 .of_wp fun prog w A R s h=>by obtain⟨o,g,d,p,os⟩:=s;obtain⟨k,m,h⟩:=h;have q:=F.sub_dict_list;wp_walk using wpAny_loadPart' k,wpAny_loadPart' m;exact⟨_,rfl,h⟩
structure Ib (h:Heap) (b:Addr) (dd:Option Addr) (es:Array DictEntry) (n:Nat) (sl:Array (Option Value)):Prop where
 ho:h.get? b=some {cls:=.type "dict",dict:=dd,data:=.dict es n,slots:=sl}
theorem OJ {b:Addr} {d:Option Addr} {e:Array DictEntry} {n:Nat} {f:Array (Option Value)} (i:Int) (u:Tok) (c:Ib s.heap b d e n f) (g:A.units<cLine):SeqAt.RcAt A s (.int i u) (.ref b) false:=fun prog w E Q h=>
 SeqAt.rc_eq_decline_or (k:=false) (typeIs_int s i u) ⟨_,c.ho,rfl⟩ (by decide) F.sub_dict_int F.slot_int_eq F.slot_dict_eq_refl
  (fun _ a=>call_meets F.slot_int_eq (typeIs_int s i u) F.entry_int_eq (F.args_int_eq_2 _ _) (DV i u b (.type "dict") e n d f) ⟨c.ho,a⟩)
  (fun _ a=>Bp ⟨_,c.ho,rfl⟩ (typeIs_int s i u) F.sub_int_dict a)
  (fun _ a=>wpAny_of_eq (rfl:isSame (.int i u) (.ref b)=pure false) a) (.inr g) h
theorem OK {b:Addr} {d:Option Addr} {e:Array DictEntry} {n:Nat} {f:Array (Option Value)} (i:Int) (u:Tok) (c:Ib s.heap b d e n f) (g:A.units<cLine):SeqAt.RcAt A s (.ref b) (.int i u) false:=fun prog w E Q h=>
 SeqAt.rc_eq_decline_or (k:=false) ⟨_,c.ho,rfl⟩ (typeIs_int s i u) (by decide) F.sub_int_dict F.slot_dict_eq F.slot_int_eq_refl
  (fun _ a=>Bp ⟨_,c.ho,rfl⟩ (typeIs_int s i u) F.sub_int_dict a)
  (fun _ a=>call_meets F.slot_int_eq_refl (typeIs_int s i u) F.entry_int_eq (F.args_int_eq_2 _ _) (DV i u b (.type "dict") e n d f) ⟨c.ho,a⟩)
  (fun _ a=>wpAny_of_eq (rfl:isSame (.ref b) (.int i u)=pure false) a) (.inr g) h
theorem OL {b:Addr} {d:Option Addr} {e:Array DictEntry} {n:Nat} {f:Array (Option Value)} (x:Str) (u:Tok) (c:Ib s.heap b d e n f) (g:A.units<cLine):SeqAt.RcAt A s (.str x u) (.ref b) false:=fun prog w E Q h=>
 SeqAt.rc_eq_decline_or (k:=false) (typeIs_str s x u) ⟨_,c.ho,rfl⟩ (by decide) F.sub_dict_str F.slot_str_eq F.slot_dict_eq_refl
  (fun _ a=>call_meets F.slot_str_eq (typeIs_str s x u) F.entry_str_eq (F.args_str_eq_2 _ _) (DW x u b (.type "dict") e n d f) ⟨c.ho,a⟩)
  (fun _ a=>Bp ⟨_,c.ho,rfl⟩ (typeIs_str s x u) F.sub_str_dict a)
  (fun _ a=>wpAny_of_eq (rfl:isSame (.str x u) (.ref b)=pure false) a) (.inr g) h
theorem OM {b:Addr} {d:Option Addr} {e:Array DictEntry} {n:Nat} {f:Array (Option Value)} (x:Str) (u:Tok) (c:Ib s.heap b d e n f) (g:A.units<cLine):SeqAt.RcAt A s (.ref b) (.str x u) false:=fun prog w E Q h=>
 SeqAt.rc_eq_decline_or (k:=false) ⟨_,c.ho,rfl⟩ (typeIs_str s x u) (by decide) F.sub_str_dict F.slot_dict_eq F.slot_str_eq_refl
  (fun _ a=>Bp ⟨_,c.ho,rfl⟩ (typeIs_str s x u) F.sub_str_dict a)
  (fun _ a=>call_meets F.slot_str_eq_refl (typeIs_str s x u) F.entry_str_eq (F.args_str_eq_2 _ _) (DW x u b (.type "dict") e n d f) ⟨c.ho,a⟩)
  (fun _ a=>wpAny_of_eq (rfl:isSame (.ref b) (.str x u)=pure false) a) (.inr g) h
theorem ZA {l b:Addr} {items:Array Value} {a:Option Addr} {c:Array DictEntry} {n:Nat} {d:Array (Option Value)} {h:Heap} (f:h.IsList l items) (g:Ib h b a c n d):l≠b:=fun e=>by
 subst e
 obtain⟨o,ho,i,_⟩:=f
 rw[g.ho]at ho
 cases ho
 exact absurd i (by simp)
theorem Mf {l b:Addr} {items:Array Value} {g:Option Addr} {i:Array DictEntry} {n:Nat} {j:Array (Option Value)} (m:s.heap.IsList l items) (a:Ib s.heap b g i n j) (q:A.units<cLine):SeqAt.RcAt A s (.ref l) (.ref b) false:=fun prog w E Q h=>by
 have d:=ZA m a
 obtain⟨⟨r,e,data,f⟩,ho,o,t,p⟩:=id m
 simp only at o p
 subst o p
 exact(SeqAt.rc_eq_decline_or (k:=false) ⟨_,ho,rfl⟩ ⟨_,a.ho,rfl⟩ (by decide) F.sub_dict_list F.slot_list_eq F.slot_dict_eq_refl
  (fun _ c=>call_meets F.slot_list_eq ⟨_,ho,rfl⟩ F.entry_list_eq (F.args_list_eq_2 _ _) (C' l b items i t n e g f j) ⟨ho,a.ho,c⟩)
  (fun _ c=>Bp ⟨_,a.ho,rfl⟩ ⟨_,ho,rfl⟩ F.sub_list_dict c)
  (fun _ c=>SeqAt.wpAny_isSame_ref_other' d ho a.ho (by simp) c) (.inr q) h)
theorem Mg {l b:Addr} {items:Array Value} {g:Option Addr} {i:Array DictEntry} {n:Nat} {j:Array (Option Value)} (m:s.heap.IsList l items) (a:Ib s.heap b g i n j) (q:A.units<cLine):SeqAt.RcAt A s (.ref b) (.ref l) false:=fun prog w E Q h=>by
 have d:=ZA m a
 obtain⟨⟨r,e,data,f⟩,ho,o,t,p⟩:=id m
 simp only at o p
 subst o p
 exact(SeqAt.rc_eq_decline_or (k:=false) ⟨_,a.ho,rfl⟩ ⟨_,ho,rfl⟩ (by decide) F.sub_list_dict F.slot_dict_eq F.slot_list_eq_refl
  (fun _ c=>Bp ⟨_,a.ho,rfl⟩ ⟨_,ho,rfl⟩ F.sub_list_dict c)
  (fun _ c=>call_meets F.slot_list_eq_refl ⟨_,ho,rfl⟩ F.entry_list_eq (F.args_list_eq_2 _ _) (C' l b items i t n e g f j) ⟨ho,a.ho,c⟩)
  (fun _ c=>SeqAt.wpAny_isSame_ref_other' d.symm a.ho ho (by simp) c) (.inr q) h)
end
open PySem.AutoSeq1 (wpAny_loadPart')
open PySem.MeetsSeq3
section
variable{prog:Program} {w:World} {A:Around} {s:Shared}
def vd (prog:Program) (w:World) (A:Around) (s:Shared) (u v:Value):Prop:=∀(E:Value->Shared->Prop) (Q:Bool->Shared->Prop),Q true s->wpAny (model prog w) A (eqBool u v) Q E s
def ve (prog:Program) (w:World) (A:Around) (s:Shared) (u v:Value):Prop:=∀(E:Value->Shared->Prop) (Q:Value->Shared->Prop),Q (.bool true) s->wpAny (model prog w) A (richCompare .Eq u v) Q E s
theorem call_one {E:Value->Shared->Prop} {T:String} {name:Str} {id:String} {B:Builtin} {self:Value} {rest:List Value} {Q:Value->Shared->Prop} (slot:Slot T name id) (c:s.TypeIs self T) (entry:entryFor table id=some B) (args:argsOk id ⟨self::rest,[]⟩)
  (g:wpAny (model prog w) A.in1 (B ⟨self::rest,[]⟩) (fun fin a=>match fin with| .done f=>wants Q E (.ok f) a| .again b=>b.quiet=true/\codeAny (model prog w) A b (wants Q E) a) (fun e a=>wants Q E (.error e) a) s):
  wpAny (model prog w) A (call (.builtin id) (self::rest)) Q E s:=wpAny_call (codeAny_call_builtin slot.plain entry (slot.check _ _ _ _ _ _ _ _ c args g))
theorem SJ {l b:Addr} {items a:Array Value} (G:s.heap.IsTuple l items) (H:s.heap.IsTuple b a) (hsz:items.size=a.size) (I:A.units<cLine)
  (J:∀j (v:j<items.size) (z:j<a.size),vd prog w A.in1 s items[j] a[j]):ve prog w A s (.ref l) (.ref b):=fun E Q h=>by
 obtain⟨⟨K,S,data,T⟩,r,B,n,C⟩:=id G
 obtain⟨⟨D,L,data2,M⟩,f,k,U,m⟩:=id H
 simp only at B C k m
 subst B C k m
 refine wpAny_richCompare_same_room (op:=.Eq) ⟨_,r,rfl⟩ ⟨_,f,rfl⟩ F.slot_tuple_eq (wpAny_call_entry F.slot_tuple_eq ⟨_,r,rfl⟩ F.entry_tuple_eq ?_ (F.args_tuple_eq_2 _ _)) I
 obtain⟨N,g,d,O,os⟩:=s
 have V:=AutoSeq1.sub_tuple_tuple
 wp_walk using wpAny_loadPart' r,wpAny_loadPart' f,wpAny_forIn_list _ (fun rest b t=>b.1=none/\t=⟨N,g,d,O,os⟩/\∃i,rest=(items.toList.zip a.toList).drop i) _
 case turn=>
  rintro⟨y,x⟩ rest b t ⟨c,rfl,i,o⟩
  have p:i<(items.toList.zip a.toList).length:=by
   rcases Nat.lt_or_ge i (items.toList.zip a.toList).length with u|u
   ·exact u
   ·rw[List.drop_of_length_le u]at o;cases o
  have v:i<items.size:=by simp at p;lia
  have z:i<a.size:=by lia
  rw[List.drop_eq_getElem_cons p]at o
  injection o with q e
  have P:y=items[i]:=by have:=congrArg Prod.fst q;simpa using this
  have R:x=a[i]:=by have:=congrArg Prod.snd q;simpa using this
  subst P R
  refine wpAny_bind (J i v z _ _ ?_)
  wp_walk
  exact⟨rfl,rfl,i+1,e⟩
 case fin=>
  rintro⟨W,X⟩ t ⟨c,rfl,i,o⟩
  simp only at c
  subst c
  wp_walk
  exact⟨_,rfl,(fun x=>nomatch x),by simpa[Builtin.Tuple.tupleCompareSizes,hsz]using h⟩
 case h=>
  exact⟨rfl,rfl,0,rfl⟩
end
class BH (K:outParam AAE):Prop where
 x:True
structure za (H H':Hp):Prop where
 rd:FH H H'
 tp:∀a vs,H a=some (.tup vs)->H' a=some (.tup vs)
inductive iH (K:AAE) (H:Hp):V->String->Prop where
 |n {v:V} {T:String} (h:NG H v T):iH K H v T
 |t {a:Addr} {xs:List V} (h:Ap K H a xs):iH K H (.ref a) "tuple"
section
variable{X:Cx}
inductive eX (K:AAE) (xs:List V) (H:Hp) (Q:VK):Prop
 |mk (x:_) (c:_) (T:_) (a:xs=[x,.ty c]) (b:Wz c=true) (d:iH K H x T) (e:Q (.bl (Wy T c)) H):eX K xs H Q
def eY (T:String):Bool:=T=="list"||T=="tuple"
inductive aa (K:AAE) (xs:List V) (H:Hp) (Q:VK):Prop
 |mk (x:V) (p:Addr) (T:String) (a:xs=[x,.ref p]) (b:H p=some (.tup [.ty "list",.ty "tuple"])) (c:iH K H x T) (d:Q (.bl (eY T)) H):aa K xs H Q
end
inductive Pt where
 |int (i:Int)
 |str (x:Str)
 |bl (b:Bool)
 |lst (xs:List Pt)
 |tup (xs:List Pt)
 |ES (ks:List Str) (xs:List Pt)
namespace Pt
mutual
def size:Pt->Nat
 |int _|str _|bl _=>1
 |lst xs|tup xs=>1+Ae xs
 |ES _ xs=>1+Ae xs
def Ae:List Pt->Nat
 |[]=>0
 |x::r=>size x+Ae r
end
mutual
def deep:Pt->Nat
 |int _|str _|bl _=>1
 |lst xs|tup xs=>1+Cn xs
 |ES _ xs=>1+Cn xs
def Cn:List Pt->Nat
 |[]=>0
 |x::r=>max (deep x) (Cn r)
end
mutual
def doc:Pt->Prop
 |int _=>True
 |str x=>x.length<=100
 |bl _=>False
 |tup _=>False
 |lst xs=>KJ xs
 |ES ks xs=>ks.length=xs.length/\ks.Nodup/\(∀k∈ks,BS k=true)/\ks.length<64/\KJ xs
def KJ:List Pt->Prop
 |[]=>True
 |x::r=>doc x/\KJ r
end
def look (ks:List Str) (xs:List Pt) (k:Str):Option Pt:=(ks.zip xs).lookup k
mutual
def DA:Pt->Pt->Bool
 |int i,int j=>i==j
 |str x,str y=>x==y
 |bl a,bl b=>a==b
 |lst xs,lst ys=>Fb xs ys
 |tup xs,tup ys=>Fb xs ys
 |ES ks xs,ES c ys=>ks.length==c.length&&SM ks xs c ys
 |_,_=>false
def Fb:List Pt->List Pt->Bool
 |[],[]=>true
 |x::xs,y::ys=>DA x y&&Fb xs ys
 |_,_=>false
def SM:List Str->List Pt->List Str->List Pt->Bool
 |k::ks,x::xs,a,ys=>(match look a ys k with|some y=>DA x y|none=>false)&&SM ks xs a ys
 |_,_,_,_=>true
end
theorem HG (t:Pt):1<=t.deep:=by cases t<;>simp only[deep]<;>lia
theorem Bf:∀{xs:List Pt} {x:Pt},x∈xs->x.deep<=Cn xs
 |y::r,x,h=>by
  simp only[Cn]
  rcases List.mem_cons.mp h with rfl|h
  ·lia
  ·have:=Bf h;lia
theorem Fc:∀{xs:List Pt},KJ xs->∀x∈xs,doc x
 |y::r,h,x,a=>by
  simp only[KJ]at h
  rcases List.mem_cons.mp a with rfl|a
  ·exact h.1
  ·exact Fc h.2 x a
theorem Um {ks:List Str} {xs:List Pt} {k:Str} {x:Pt} (h:look ks xs k=some x):k∈ks/\x∈xs:=by
 unfold look at h
 induction ks generalizing xs with
 |nil=>simp at h
 |cons y r a=>
  cases xs with
  |nil=>simp at h
  |cons z b=>
   simp only[List.zip_cons_cons,List.lookup_cons]at h
   by_cases e:k=y
   ·subst e
    simp at h
    subst h
    exact⟨List.mem_cons_self,List.mem_cons_self⟩
   ·have:(k==y)=false:=by simpa using e
    rw[this]at h
    have:=a h
    exact⟨List.mem_cons_of_mem _ this.1,List.mem_cons_of_mem _ this.2⟩
end Pt
mutual
inductive Val {K:AAE} [BH K] (H:Hp):V->Pt->Prop
 |int (i:Int):Val H (.int i) (.int i)
 |str (x:Str):Val H (.str x) (.str x)
 |bl (b:Bool):Val H (.bl b) (.bl b)
 |lst {a:Addr} {d:List V} {c:List Pt} (h:Rd H a (.lst d)) (r:DM H d c):Val H (.ref a) (.lst c)
 |tup {a:Addr} {d:List V} {c:List Pt} (h:Ap K H a d) (r:DM H d c):Val H (.ref a) (.tup c)
 |ES {a:Addr} {kvs:List (Key×V)} {ks:List Str} {c:List Pt} (h:Rd H a (.dK kvs)) (e:kvs.map (·.1)=ks.map Sum.inr) (r:DM H (kvs.map (·.2)) c):Val H (.ref a) (.ES ks c)
inductive DM {K:AAE} [BH K] (H:Hp):List V->List Pt->Prop
 |nil:DM H [] []
 |cons {v:V} {t:Pt} {a:List V} {b:List Pt} (h:Val H v t) (r:DM H a b):DM H (v::a) (t::b)
end
section
variable{K:AAE} [BH K]
theorem DM.length {H:Hp}:∀{a:List V} {b:List Pt},DM H a b->a.length=b.length
 |_,_,.nil=>rfl
 |_,_,.cons _ r=>by rw[List.length_cons,List.length_cons,r.length]
theorem DM.get {H:Hp}:∀{a:List V} {b:List Pt},DM H a b->∀{i:Nat} {v:V},a[i]?=some v->∃t,b[i]?=some t/\Val H v t
 |_,_,.nil,i,v,h=>by simp at h
 |_,_,.cons h r,0,v,e=>by
  simp at e
  subst e
  exact⟨_,by simp,h⟩
 |_,_,.cons h r,i+1,v,e=>by
  obtain⟨t,c,d⟩:=r.get (i:=i) (v:=v) (by simpa using e)
  exact⟨t,by simpa using c,d⟩
theorem Val.Qg {H:Hp}:∀{kvs:List (Key×V)} {ks:List Str} {a:List Pt},kvs.map (·.1)=ks.map Sum.inr->DM H (kvs.map (·.2)) a->∀k:Str,(∃v t,BX kvs (Sum.inr k)=some v/\Pt.look ks a k=some t/\Val H v t)∨(BX kvs (Sum.inr k)=none/\Pt.look ks a k=none)
 |[],[],_,_,r,k=>by cases r;exact .inr ⟨rfl,rfl⟩
 |[],_::_,_,h,_,_=>by simp at h
 |_::_,[],_,h,_,_=>by simp at h
 |(y,v)::kvs,x::ks,a,h,r,k=>by
  simp only[List.map_cons,List.cons.injEq]at h
  obtain⟨e,h⟩:=h
  subst e
  cases r with
  |@cons _ t _ a b r=>
   by_cases e:k=x
   ·subst e
    exact .inl ⟨v,t,Bx rfl,by simp[Pt.look],b⟩
   ·have c:(k==x)=false:=by simpa using e
    have d:BX ((Sum.inr x,v)::kvs) (Sum.inr k)=BX kvs (Sum.inr k):=By (by intro z;exact e (Sum.inr.inj z).symm)
    have f:Pt.look (x::ks) (t::a) k=Pt.look ks a k:=by simp[Pt.look,List.zip_cons_cons,List.lookup_cons,c]
    rw[d,f]
    exact Val.Qg h r k
end
section
variable{K:AAE} [BH K]
end
section
variable{X:Cx} [BH X.K] {pins:List (Addr×Obj)} {σ:St} {H:Hp} {s:Shared}
theorem DM.at {a:List V} {c:List Pt} {its:List Value} (r:DM H a c) (e:Vals a its) {j:Nat} (h:j<its.toArray.size):∃v t,a[j]?=some v/\c[j]?=some t/\Val H v t/\RelV v its.toArray[j]:=by
 obtain⟨v,d,b⟩:=Ez e h
 obtain⟨t,f,g⟩:=r.get d
 exact⟨v,t,d,f,g,b⟩
end
section
inductive jy {K:AAE} [BH K] (x y:V) (H:Hp) (Q:VK):Prop
 |mk (a b:Addr) (t:Pt) (c:x=.ref a) (e:y=.ref b) (f:Val H (.ref a) t) (g:Val H (.ref b) t) (d:t.deep<=60) (q:Q (.bl true) H):jy x y H Q
end
section
variable{X:Cx}
end
inductive ab:Pt->Prop
 |int (i:Int):ab (.int i)
 |str (x:Str):ab (.str x)
 |nil:ab (.lst [])
 |emp:ab (.ES [] [])
inductive Sm:Pt->Prop
 |one {t:Pt} (h:ab t):Sm t
 |row {xs:List Pt} (h:∀x∈xs,ab x):Sm (.lst xs)
 |tab {ks:List Str} {xs:List Pt} (h:∀x∈xs,ab x):Sm (.ES ks xs)
section
variable{A:Around} {s:Shared}
end
section
variable{X:Cx} [BH X.K] {pins:List (Addr×Obj)} {σ:St} {H:Hp} {s:Shared}
theorem HP:∀{xs ys:List Pt},xs.length≠ys.length->Pt.Fb xs ys=false
 |[],[],h=>by simp at h
 |[],_::_,_=>by simp[Pt.Fb]
 |_::_,[],_=>by simp[Pt.Fb]
 |x::xs,y::ys,h=>by
  have:=HP (xs:=xs) (ys:=ys) (by simpa using h)
  simp[Pt.Fb,this]
def pairE (xs ys:List Pt) (j:Nat):Bool:=match xs[j]?,ys[j]? with
 |some x,some y=>Pt.DA x y
 |_,_=>false
theorem KL:∀{xs ys:List Pt},xs.length=ys.length->(List.range xs.length).all (pairE xs ys)=Pt.Fb xs ys
 |[],[],_=>by simp[Pt.Fb]
 |[],_::_,h=>by simp at h
 |_::_,[],h=>by simp at h
 |x::xs,y::ys,h=>by
  have a:=KL (xs:=xs) (ys:=ys) (by simpa using h)
  rw[List.length_cons,List.range_succ_eq_map,List.all_cons,List.all_map]
  have b:pairE (x::xs) (y::ys) 0=Pt.DA x y:=by simp[pairE]
  have c:(pairE (x::xs) (y::ys)∘Nat.succ)=pairE xs ys:=by
   funext j
   simp[pairE]
  rw[b,c,a]
  simp[Pt.Fb]
theorem IA (I:Inv X pins σ H s) {a:Addr} {kvs:List (Key×V)} (h:Rd H a (.dK kvs)):(a==sysModules)=false/\∃c b n d,Ib s.heap a c b n d/\b.size=kvs.length:=by
 obtain⟨z,j,o,e,⟨⟨f,c,data,d⟩,b,n,k,l,i,p,m,q⟩⟩:=FT I.BV h
 have g:f=.type "dict":=l.1
 simp only at i
 subst g i
 refine⟨j,c,b,n,d,⟨k⟩,?_⟩
 have:=m.length
 rw[e.length,<-this]
 simp
end
section
inductive jz {K:AAE} [BH K] (x y:V) (H:Hp) (Q:VK):Prop
 |mk (p t:Pt) (a:Val H x p) (b:Val H y t) (c:Sm p) (d:t.doc) (q:Q (.bl (Pt.DA p t)) H):jz x y H Q
end
section
variable{X:Cx}
end
def lk {a:Type} (ks:List Str) (xs:List a) (k:Str):Option a:=(ks.zip xs).lookup k
theorem Xg {a:Type} {y k:Str} {r:List Str} {z:a} {zs:List a}:lk (y::r) (z::zs) k=if k=y then some z else lk r zs k:=by
 unfold lk
 rw[List.zip_cons_cons,List.lookup_cons]
 by_cases e:k=y
 ·subst e;simp
 ·have:(k==y)=false:=by simpa using e
  rw[this,if_neg e]
def pk {a:Type} (f:a->Pt->Bool):Option a->Option Pt->Bool
 |some x,some y=>f x y
 |_,_=>false
def tD:Pt->List V->Prop
 | .lst xs,l=>l=(List.range xs.length).map fun(i:Nat)=>V.int (i:Int)
 | .ES ks _,l=>∃a:List Str,l=a.map V.str/\a.Perm ks/\sortedS a=true
 |_,l=>l=[]
def eZ:Pt->Prop
 | .int _=>True
 | .str _=>True
 | .lst xs=>xs.length<=900
 | .ES ks xs=>ks.length=xs.length/\ks.length<64
 |_=>False
def ef:Pt->List Pt->Prop
 | .lst xs,a=>a=xs
 | .ES ks xs,a=>∃b:List Str,b.Perm ks/\sortedS b=true/\b.map (lk ks xs)=a.map some
 |_,a=>a=[]
section
variable{K:AAE} [BH K]
def eg (H:Hp) (v s e:V):Prop:=(∃a b j,v=.ref a/\Rd H a (.lst b)/\s=.int ((j:Nat):Int)/\b[j]?=some e)∨∃a kvs k,v=.ref a/\Rd H a (.dK kvs)/\s=.str k/\BX kvs (Sum.inr k)=some e
def Pt.Iy:Pt->String
 | .int _=>"int"
 | .str _=>"str"
 | .bl _=>"bool"
 | .lst _=>"list"
 | .tup _=>"tuple"
 | .ES _ _=>"dict"
inductive Mh {K:AAE} [BH K] (G H:Hp):List Addr->List (Pt×Pt)->Prop
 |nil:Mh G H [] []
 |cons {t:Addr} {u v:V} {p:Pt×Pt} {a:List Addr} {ps:List (Pt×Pt)} (h:H t=some (.tup [u,v])) (b:Val G u p.1) (c:Val G v p.2) (r:Mh G H a ps):Mh G H (t::a) (p::ps)
end
section
variable{X:Cx}
inductive j_ (K:AAE) (xs:List V) (H:Hp) (Q:VK):Prop
 |mk (p:Addr) (bs:List Bool) (a:xs=[.ref p]) (b:A_ K H p (bs.map V.bl)) (c:Q (.bl (bs.any id)) H):j_ K xs H Q
end
inductive Ak where
 |any
 |GX (d:Pt)
 |row (xs:List Ak) (m:Bool)
 |tab (ks:List Str) (xs:List Ak) (a:List Str) (m:Bool)
namespace Ak
mutual
def pt:Ak->Pt
 |any=>.tup [.str "any"]
 |GX d=>.tup [.str "just",d]
 |row xs m=>.tup [.str "row",.lst (cX xs),.bl m]
 |tab ks xs a m=>.tup [.str "table",.ES ks (cX xs),.lst (a.map Pt.str),.bl m]
def cX:List Ak->List Pt
 |[]=>[]
 |x::r=>pt x::cX r
end
mutual
def size:Ak->Nat
 |any=>1
 |GX _=>1
 |row xs _=>1+Ae xs
 |tab _ xs _ _=>1+Ae xs
def Ae:List Ak->Nat
 |[]=>0
 |x::r=>size x+Ae r
end
mutual
def deep:Ak->Nat
 |any=>1
 |GX _=>1
 |row xs _=>1+Cn xs
 |tab _ xs _ _=>1+Cn xs
def Cn:List Ak->Nat
 |[]=>0
 |x::r=>max (deep x) (Cn r)
end
mutual
def ok:Ak->Prop
 |any=>True
 |GX d=>Sm d/\d.doc/\d.size<=10
 |row xs _=>Gd xs
 |tab ks xs a _=>ks.length=xs.length/\ks.Nodup/\(∀k∈ks,BS k=true)/\ks.length<60/\(a.length<=60/\a.Nodup/\sortedS a=true)/\(∀l∈a,l∉ks)/\Gd xs
def Gd:List Ak->Prop
 |[]=>True
 |x::r=>ok x/\Gd r
end
def cnt (c l:Nat) (m:Bool):Bool:=c==l||(m&&decide (l<c))
mutual
def lets:Ak->Pt->Bool
 |any,_=>true
 |GX d,t=>Pt.DA d t
 |row xs m,.lst ys=>cnt ys.length xs.length m&&ZC xs ys
 |tab ks xs b m,.ES a ys=>(ks.all (fun k=>decide (k∈a))&& !(b.any fun k=>decide (k∈a))&&cnt a.length ks.length m)&&ZD ks xs a ys
 |_,_=>false
def ZC:List Ak->List Pt->Bool
 |a::b,y::ys=>lets a y&&ZC b ys
 |_,_=>true
def ZD:List Str->List Ak->List Str->List Pt->Bool
 |k::ks,x::xs,a,ys=>(match lk a ys k with|some y=>lets x y|none=>false)&&ZD ks xs a ys
 |_,_,_,_=>true
end
def Kp:Ak->Pt->List (Ak×Pt)->Prop
 |row xs _,.lst ys,ps=>ps=xs.zip ys
 |tab ks xs _ _,.ES c ys,ps=>∃(a:List Str) (b:List Ak) (bs:List Pt),a.Perm ks/\a.map (lk ks xs)=b.map some/\a.map (lk c ys)=bs.map some/\ps=b.zip bs
 |_,_,ps=>ps=[]
def hold:Ak->Pt
 |row xs _=>.lst (cX xs)
 |tab ks xs _ _=>.ES ks (cX xs)
 |_=>.lst []
end Ak
section
variable{K:AAE} [BH K]
end
section
variable{K:AAE} [BH K]
def ei:List (Ak×Pt)->Nat
 |[]=>0
 |p::r=>p.1.size+ei r
structure zb (G:Hp) (u v:V) (a:Ak) (t:Pt) (l es fs:List V) (ps:List (Ak×Pt)):Prop where
 le:es.length=l.length
 lf:fs.length=l.length
 lp:ps.length=l.length
 ge:∀(i:Nat) e,es[i]?=some e->∃s,l[i]?=some s/\eg G u s e
 gf:∀(i:Nat) e,fs[i]?=some e->∃s,l[i]?=some s/\eg G v s e
 va:∀(i:Nat) e p,es[i]?=some e->ps[i]?=some p->Val G e p.1.pt
 vb:∀(i:Nat) e p,fs[i]?=some e->ps[i]?=some p->Val G e p.2
 kp:Ak.Kp a t ps
 ok:∀p∈ps,p.1.ok/\p.2.doc/\p.1.size<a.size/\p.2.size<t.size
 sm:ei ps<a.size
end
section
variable{K:AAE} [BH K]
def nw (H H':Hp):Hp:=fun b=>match H b with
 |none=>H' b
 |some _=>none
structure Bt (o:Option Addr) (H H':Hp):Prop where
 keep:∀b e,o≠some b->H b=some e->H' b=some e
 zc:∀b,H' b=none->H b=none
def vf (l:Addr) (H:Hp):Hp:=fun b=>if b=l then none else H b
section
variable{J:It} {te:TE} {fs:List Nat} {σ:St} {H:Hp} {Q:VK}
end
mutual
def Pt.nice:Pt->Prop
 | .int _| .str _| .bl _=>True
 | .lst xs| .tup xs=>xs.length<=900/\Pt.Uo xs
 | .ES ks xs=>ks.length=xs.length/\ks.Nodup/\ks.length<=900/\Pt.Uo xs
def Pt.Uo:List Pt->Prop
 |[]=>True
 |x::r=>Pt.nice x/\Pt.Uo r
end
def eo (ks:List Str) (ws:List V):List (Key×V):=(ks.zip ws).map fun p=>(Sum.inr p.1,p.2)
theorem Up {ks:List Str} {ws:List V} (l:ks.length=ws.length):(eo ks ws).map (·.2)=ws:=by
 unfold eo
 rw[List.map_map]
 have:(ks.zip ws).map Prod.snd=ws:=List.map_snd_zip (by lia)
 conv=>rhs;rw[<-this]
 rfl
mutual
def Pt.wide:Pt->Nat
 | .int _| .str _| .bl _=>0
 | .lst xs| .tup xs=>Pt.Ur xs
 | .ES ks xs=>max ks.length (Pt.Ur xs)
def Pt.Ur:List Pt->Nat
 |[]=>0
 |x::r=>max (Pt.wide x) (Pt.Ur r)
end
structure zd (H:Hp) (n:Addr) (ys:List Str):Prop where
 at_:H n=some (.lst (ys.map V.str))
 len:ys.length=4
 nd:ys.Nodup
 nb:∀y∈ys,BS y=true
structure Small (H H':Hp) (v:V) (t:Pt):Prop where
 val:Val (nw H H') v t
 sm:Sm t
 doc:t.doc
 size:t.size<=4
 deep:t.deep<=2
def ov (G H H':Hp):Hp:=fun b=>match G b with
 |some o=>some o
 |none=>nw H H' b
end
section
variable{K:AAE} [BH K]
end
section
variable{X:Cx}
inductive ae (K:AAE) (xs:List V) (H:Hp) (Q:VK):Prop
 |mk (d:Addr) (b:List Str) (c:xs=[.ref d]) (e:A_ K H d (b.map V.str)) (f:b.length<64) (g:∀(p:Addr) (a:List Str) (H':Hp),H p=none->AG H H'->H' p=some (.lst (a.map V.str))->a.Perm b->sortedS a=true->Q (.ref p) H'):ae K xs H Q
inductive ag (xs:List V) (H:Hp) (Q:VK):Prop
 |mk (d:Addr) (a:List (Key×V)) (b:List Str) (c:xs=[.ref d]) (e:Rd H d (.dK a)) (f:a.map (·.1)=b.map Sum.inr) (g:∀(p:Addr),H p=none->Q (.ref p) (upd H p (.lst (b.map V.str)))):ag xs H Q
end
section
variable{K:AAE} [BH K]
namespace Ak
end Ak
structure vg (H H4:Hp) (l p6 p7:Addr) (ys:List Str) (d N:Nat) (i:Nat) (Hi:Hp) (ks:List Str) (as:List Ak) (ls:List Str) (iI:List Int) (ws:List V):Prop where
 n6:H p6=none
 n7:H p7=none
 o6:H4 p6≠none
 o7:H4 p7≠none
 ne:p6≠p7
 hl:H l≠none
 h4:∀b,H4 b=none->H b=none
 bt:Bt (some l) H Hi
 dm:∀b,Hi b=none->H4 b=none
 e6:Hi p6=some (.dK (eo ks ws))
 e7:Hi p7=some (.lst (ls.map V.str))
 el:Hi l=some (.lst (iI.map V.int))
 le:iI.length<=N
 lw:ks.length=ws.length
 la:ks.length=as.length
 vl:DM (nw H4 Hi) ws (Ak.cX as)
 ok:Ak.Gd as
 sz:Ak.Ae as<=i+4*(N-iI.length)
 dp:Ak.Cn as<=d
 ik:∀k∈ks,∃j,j<i/\ys[j]?=some k
 il:∀k∈ls,∃j,j<i/\ys[j]?=some k
 nk:ks.Nodup
 dj:∀x∈ls,x∉ks
 l4:ks.length<=i
 m4:ls.length<=i
 nl:ls.Nodup
section
variable{H H4:Hp} {l p6 p7:Addr} {ys:List Str} {d N:Nat} {i:Nat} {Hi:Hp} {ks:List Str} {as:List Ak} {ls:List Str} {iI:List Int} {ws:List V}
end
def kA (a:List Pt):Prop:=∀u∈a,u.doc/\u.size<=4/\u.deep<=2
end
section
variable{K:AAE} [BH K]
section
variable{X:Cx}
inductive eu (x:V) (y:V) (H:Hp) (Q:VK):Prop
 |mk (l b:Addr) (xs zs:List V) (a:x=.ref l) (c:y=.ref b) (d:Rd H l (.lst xs)) (e:Rd H b (.lst zs)) (f:xs.length+zs.length<=sizeLine) (g:∀p,H p=none->Q (.ref p) (upd H p (.lst (xs++zs)))):eu x y H Q
end
end
section
variable{K:AAE} [BH K]
structure tE (H5 Hi:Hp) (p5:Addr) (ws:List V) (us:List Pt):Prop where
 s:AG H5 Hi
 n5:H5 p5=none
 f:Hi p5=some (.lst ws)
 v:DM (vf p5 Hi) ws us
end
end L2
namespace PySem
open PyProof.Rows PySem.F PySem.Spec
end PySem
namespace L2
open PySem PySem.Spec PyProof.Rows
section
variable{prog:Program} {w:World} {K:Type} [DecidableEq K] {knd:KeyKind prog w K} {A:Around} {R:Result->Shared->Prop}
end
section
variable{X:Cx} {pins:List (Addr×Obj)} {σ:St} {H:Hp} {s:Shared}
def vh (ks:List Str) (ys:List V):List (Key×V):=(ks.zip ys).map fun p=>(Sum.inr p.1,p.2)
inductive vi (K:AAE) (x y:V) (H:Hp) (Q:VK):Prop
 |mk (a b:Addr) (ks:List Str) (ys:List V) (c:x=.ref a) (d:y=.ref b) (e:A_ K H a (ks.map V.str)) (f:A_ K H b ys) (g:ks.length=ys.length) (h:ks.length<=1000) (q:∀p,H p=none->Q (.ref p) (upd H p (.dK (DF [] (vh ks ys))))):vi K x y H Q
end
section
variable{X:Cx} {tg:Expr}
end
section
variable{K:AAE} [BH K]
namespace Dc
mutual
def tr:Dc->Pt
 |leaf (.int i)=>.int i
 |leaf (.str x)=>.str x
 |leaf _=>.int 0
 |row _ xs=>.lst (Xh xs)
 |tab _ ks xs=>.ES ks (Xh xs)
def Xh:List Dc->List Pt
 |[]=>[]
 |x::r=>tr x::Xh r
end
theorem Qh:∀xs:List Dc,Xh xs=xs.map tr
 |[]=>rfl
 |x::r=>by simp only[Xh,List.map_cons,Qh r]
mutual
theorem Us {H:Hp}:∀d:Dc,d.At H->Val H d.val d.tr
 |leaf v,h=>by
  simp only[At]at h
  rcases h with⟨i,rfl⟩|⟨x,rfl,_⟩
  ·exact .int i
  ·exact .str x
 |row a xs,h=>by
  simp only[At]at h
  exact .lst h.1 (Pm xs h.2)
 |tab a ks xs,h=>by
  simp only[At]at h
  refine .ES h.1 (CZ h.2.1) ?_
  have e:(kvs ks xs).map (·.2)=xs.map val:=by
   rw[Dz]
   exact Up (by rw[List.length_map];exact h.2.1)
  rw[e]
  exact Pm xs h.2.2.2
theorem Pm {H:Hp}:∀xs:List Dc,CY H xs->DM H (xs.map val) (Xh xs)
 |[],_=>.nil
 |x::r,h=>by
  simp only[CY]at h
  exact .cons (Us x h.1) (Pm r h.2)
end
end Dc
end
namespace Ak
mutual
def ew:Ak->Prop
 |any=>True
 |GX d=>d.doc
 |row xs _=>ai xs
 |tab ks xs a _=>ks.length=xs.length/\ks.Nodup/\(∀k∈ks,BS k=true)/\ks.length<60/\a.length<=100/\(∀l∈a,l∉ks)/\ai xs
def ai:List Ak->Prop
 |[]=>True
 |x::r=>ew x/\ai r
end
mutual
def wt:Ak->Nat
 |any=>1
 |GX d=>d.size
 |row xs _=>1+kB xs
 |tab _ xs _ _=>1+kB xs
def kB:List Ak->Nat
 |[]=>0
 |x::r=>wt x+kB r
end
mutual
def dp:Ak->Nat
 |any=>1
 |GX d=>d.deep
 |row xs _=>1+kC xs
 |tab _ xs _ _=>1+kC xs
def kC:List Ak->Nat
 |[]=>0
 |x::r=>max (dp x) (kC r)
end
end Ak
namespace Ak
def Kd:Ak->List Ak->Prop
 |row xs _,a=>a=xs
 |tab ks xs _ _,a=>∃b:List Str,b.Perm ks/\sortedS b=true/\b.map (lk ks xs)=a.map some
 |_,a=>a=[]
end Ak
namespace Ak
def Ut:List Ak->Option (List Pt)
 |[]=>some []
 |GX d::r=>(Ut r).map (d::·)
 |_::_=>none
def Qi (a:List Ak) (m:Bool):Ak:=if m then row a true else match Ut a with
 |some b=>GX (.lst b)
 |none=>row a false
def Qj (a:List Str) (b:List Ak) (c:List Str) (m:Bool):Ak:=if m then tab a b c true else match Ut b with
 |some d=>GX (.ES a d)
 |none=>tab a b [] false
mutual
inductive Good:Ak->Ak->Prop
 |any:Good .any .any
 |GX (d:Pt):Good (.GX d) (.GX d)
 |row {xs a:List Ak} {m:Bool} (h:LX xs a):Good (.row xs m) (Qi a m)
 |tab {ks b:List Str} {xs c a:List Ak} {f:List Str} {m:Bool} (g:b.Perm ks) (i:sortedS b=true) (e:b.map (lk ks xs)=c.map some) (h:LX c a):Good (.tab ks xs f m) (Qj b a f m)
inductive LX:List Ak->List Ak->Prop
 |nil:LX [] []
 |cons {x y:Ak} {xs ys:List Ak} (h:Good x y) (r:LX xs ys):LX (x::xs) (y::ys)
end
end Ak
structure ze (root:Ak) (n:Nat) (l:List Ak) (iJ:List (List Ak)):Prop where
 len:iJ.length=n
 eq:l=root::iJ.flatten
 kids:∀(j:Nat) a ks,l[j]?=some a->iJ[j]?=some ks->Ak.Kd a ks
 ok:∀a∈l,a.ew/\a.wt<=root.wt
 sum:n+Ak.Ae (l.drop n)=root.size
 pos:∀j,j<n->j<=(iJ.take j).flatten.length
def Pt.hold:Pt->Pt
 | .tup (.str w::h::_)=>if w="row"∨w="table"then h else .lst []
 |_=>.lst []
mutual
inductive aj:Nat->Pt->Prop
 |leaf {w:Str} {r:List Pt} (a:w≠"row") (b:w≠"table"):aj 1 (.tup (.str w::r))
 |row {n:Nat} {xs r:List Pt} (h:Uu n xs):aj (n+1) (.tup (.str "row"::.lst xs::r))
 |tab {n:Nat} {ks:List Str} {xs r:List Pt} (l:ks.length=xs.length) (c:ks.Nodup) (z:ks.length<64) (h:Uu n xs):aj (n+1) (.tup (.str "table"::.ES ks xs::r))
inductive Uu:Nat->List Pt->Prop
 |nil:Uu 0 []
 |cons {n m:Nat} {x:Pt} {r:List Pt} (h:aj n x) (t:Uu m r):Uu (n+m) (x::r)
end
inductive Xi (root:Pt):Nat->List Pt->List (List Pt)->Prop
 |start:Xi root 0 [root] []
 |next{n:Nat} {l:List Pt} {a:List (List Pt)} {t:Pt} {c:List Pt} (b:Xi root n l a) (d:l[n]?=some t) (k:ef t.hold c):Xi root (n+1) (l++c) (a++[c])
namespace Ak
end Ak
section
variable{K:AAE} [BH K]
structure Fd (H0 Hi:Hp) (as:List Ak) (ts:List V) (at_:Nat):Prop where
 len:ts.length=as.length
 val:∀(j:Nat) x,at_<=j->as[j]?=some x->∃w b,ts[j]?=some w/\Ak.Good x b/\Val (nw H0 Hi) w b.pt
inductive Uv {K:AAE} [BH K] (b:List V) (H:Hp) (Q:VK) (a:XK):Prop
 |mk (G:Hp) (v:V) (t:Pt) (n:Nat) (c:b=[v]) (d:AG G H) (e:Val G v t) (f:aj n t) (g:∀(w:V) (H':Hp),AG H H'->(Val G w t.hold∨(t.hold=.lst []/\∃p,w=.ref p/\H' p=some (.lst [])))->Q w H'):Uv b H Q a
inductive SN {K:AAE} [BH K] (b:List V) (H:Hp) (Q:VK) (a:XK):Prop
 |mk (G:Hp) (v:V) (t:Pt) (n:Nat) (e:b=[v]) (f:AG G H) (g:Val G v t) (h:aj n t) (i:n<=900) (j:∀(p:Addr) (c:List V) (d:List Pt) (H':Hp),AG H H'->H p=none->H' p=some (.lst c)->DM G c d->ef t.hold d->Q (.ref p) H'):SN b H Q a
inductive Uw {K:AAE} [BH K] (c:Addr) (d:List V) (H:Hp) (Q:VK) (a:XK):Prop
 |mk (G:Hp) (v:V) (t:Pt) (n:Nat) (f:d=[v,.ref c]) (g:AG G H) (h:Val G v t) (i:aj n t) (j:n<=900) (k:∀(p:Addr) (e:List V) (l:List Pt) (b:List (List Pt)) (H':Hp),AG H H'->H p=none->H' p=some (.lst e)->DM G e l->Xi t l.length l b->l.length<=900->Q (.ref p) H'):Uw c d H Q a
inductive LY {K:AAE} [BH K] (b:List V) (H:Hp) (Q:VK) (a:XK):Prop
 |row (v:V) (c:List Pt) (L:Addr) (ws:List V) (e:b=[v,.ref L]) (f:Val H v (.lst c)) (g:H L=some (.lst ws)) (h:ws.length<=900) (i:∀(p:Addr) (H':Hp),AG H H'->H p=none->H' p=some (.lst ws)->Q (.ref p) H'):LY b H Q a
 |tab (v:V) (ks:List Str) (c:List Pt) (L:Addr) (ws:List V) (e:b=[v,.ref L]) (f:Val H v (.ES ks c)) (g:H L=some (.lst ws)) (h:eZ (.ES ks c)) (i:ws.length=ks.length) (j:ks.Nodup) (k:∀(p:Addr) (d:List Str) (H':Hp),AG H H'->H p=none->d.Perm ks->sortedS d=true->H' p=some (.dK (eo d ws))->Q (.ref p) H'):LY b H Q a
inductive Ux:Pt->List Ak->(List Pt->Pt)->Prop
 |row (a:List Ak) (z:a.length<=900):Ux (.lst (a.map Ak.pt)) a .lst
 |tab (b:List Str) (a:List Ak) (l:b.length=a.length) (c:b.Nodup) (z:b.length<64) (d:sortedS b=true):Ux (.ES b (a.map Ak.pt)) a (.ES b)
inductive SO {K:AAE} [BH K] (e:List V) (H:Hp) (Q:VK) (a:XK):Prop
 |mk (c:Hp) (v:V) (t:Pt) (d:List Ak) (mk:List Pt->Pt) (g:e=[v]) (h:Val (nw c H) v t) (i:Ux t d mk) (j:∀b,H b=none->c b=none) (k:∀(w:V) (H':Hp),AG H H'->(Ak.Ut d=none/\w=.BL∨∃f,Ak.Ut d=some f/\Val (nw c H') w (Ak.GX (mk f)).pt)->Q w H'):SO e H Q a
inductive Pn {K:AAE} [BH K] (d:List V) (H:Hp) (Q:VK) (c:XK):Prop
 |mk (a:Hp) (L:Addr) (ws:List V) (e:List Ak) (m:Bool) (f:d=[.ref L,.bl m]) (g:H L=some (.lst ws)) (h:DM (nw a H) ws (e.map Ak.pt)) (i:ws.length<=900) (j:∀b,H b=none->a b=none) (k:a L=none) (l:∀(w:V) (H':Hp),AG H H'->Val (nw a H') w (Ak.Qi e m).pt->Q w H'):Pn d H Q c
inductive Po {K:AAE} [BH K] (f:List V) (H:Hp) (Q:VK) (d:XK):Prop
 |mk (G c:Hp) (L:Addr) (a:List Str) (ws:List V) (g:List Ak) (z:V) (e:List Str) (m:Bool) (j:f=[.ref L,z,.bl m]) (k:H L=some (.dK (eo a ws))) (l:DM (nw c H) ws (g.map Ak.pt)) (n:a.length=ws.length) (o:a.Nodup) (p:a.length<64) (q:sortedS a=true) (r:∀b,H b=none->c b=none) (s:c L=none) (t:Val H z (.lst (e.map Pt.str))) (h:e.length<=100) (i:∀(w:V) (H':Hp),AG H H'->Val (nw c H') w (Ak.Qj a g e m).pt->Q w H'):Po f H Q d
inductive ON {K:AAE} [BH K] (e:List V) (H:Hp) (Q:VK) (d:XK):Prop
 |mk (G c:Hp) (v:V) (a:Ak) (L:Addr) (ws:List V) (f g:List Ak) (j:e=[v,.ref L]) (k:AG G H) (l:Val G v a.pt) (m:a.ew) (n:a.wt<=900) (o:H L=some (.lst ws)) (p:c L=none) (q:∀b,H b=none->c b=none) (r:Ak.Kd a f) (s:Ak.LX f g) (h:DM (nw c H) ws (g.map Ak.pt)) (i:∀(w:V) (b:Ak) (H':Hp),AG H H'->Val (nw c H') w b.pt->Ak.Good a b->Q w H'):ON e H Q d
inductive Uy {K:AAE} [BH K] (d e:Addr) (f:List V) (H:Hp) (Q:VK) (c:XK):Prop
 |mk (G:Hp) (v:V) (a:Ak) (g:f=[v,.ref d,.ref e]) (h:AG G H) (i:Val G v a.pt) (j:a.ew) (k:a.wt<=900) (l:∀(w:V) (b:Ak) (H':Hp),AG H H'->Val (nw H H') w b.pt->Ak.Good a b->Q w H'):Uy d e f H Q c
inductive Uz {K:AAE} [BH K] (d:List V) (H:Hp) (Q:VK) (c:XK):Prop
 |mk (G:Hp) (v:V) (a:Ak) (e:d=[v]) (f:AG G H) (g:Val G v a.pt) (h:a.ew) (i:a.wt<=900) (j:∀(w:V) (b:Ak) (H':Hp),AG H H'->Val (nw H H') w b.pt->Ak.Good a b->Q w H'):Uz d H Q c
end
def cY (w:World):Bool:=w.params.followText "set-order"
structure vj (prog:Program) (w:World) (h:Heap) (a:Addr) (ss:List Str) (o:Obj) (es:Array (Int×Value)) (ep:Nat) (t:SetTable) (us:List Str):Prop where
 at_:h.get? a=some o
 ex:o.ExactSet
 da:o.data=.set es ep t
 el:ElemsOf (PySem.strKind prog w) es.toList
 st:StrsAre (es.toList.map (·.2)) us
 pm:us.Perm ss
 fi:t.fits es.size=true
 le:t.led= !cY w
 pl:ss≠[]->t.plain=false
def SS (prog:Program) (w:World) (h:Heap) (a:Addr) (b:List Str):Prop:=∃o c d t e,vj prog w h a b o c d t e
section
variable{prog:Program} {w:World} {A:Around} {E:Value->Shared->Prop} {s:Shared}
end
section
variable{prog:Program} {w:World} {A:Around} {R:Result->Shared->Prop}
end
section
variable{prog:Program} {w:World} {A:Around} {E:Value->Shared->Prop} {s:Shared}
end
abbrev vk (w:World):Obj:={cls:=.type "set",dict:=none,data:=.set #[] 0 (.fresh 0 0 (!cY w))}
section
variable{prog:Program} {w:World} {A:Around} {E:Value->Shared->Prop} {s:Shared}
end
abbrev kD (h:Heap) (it a:Addr) (f:Value) (i n ep:Nat):Prop:=h.get? it=some {cls:=.type "set_iterator",dict:=none,data:=.fields #[f,rawInt (i:Int),.ref a,rawInt (n:Int),rawInt (ep:Int)],slots:= #[]}
section
variable{prog:Program} {w:World} {A:Around} {E:Value->Shared->Prop} {s:Shared}
end
inductive Xj (w:World) (h:Heap) (a:Addr) (d:Array (Int×Value)) (ep:Nat) (t:SetTable) (c:List Addr) (i:Nat):Value->List Value->Prop
 |text (b:cY w=true):Xj w h a d ep t c i (rawInt 0) ((pickOrder (w.params.setOrder a ep) d).toList.map (·.2))
 |drawn {e:Addr} {ps:List Nat} (b:cY w=false) (f:e∈c) (g:h.get? e=some {cls:=.type "tuple",data:=.seq (ps.map fun(i:Nat)=>rawInt (i:Int)).toArray}) (k:ps.Perm (List.range d.size)):Xj w h a d ep t c i (.ref e) (ps.map fun j=>(d.getD j (0,.none)).2)
 |iE (b:cY w=false) (z:d.size<=1):Xj w h a d ep t c i (rawInt (if i=0 then 0 else((t.place.getD 0 0+1:Nat):Int))) (d.toList.map (·.2))
section
variable{prog:Program} {w:World} {A:Around} {E:Value->Shared->Prop} {s:Shared}
structure zf (prog:Program) (w:World) (h:Heap) (it a:Addr) (o:Obj) (es:Array (Int×Value)) (ep:Nat) (t:SetTable) (vm:List Addr) (os:List Value) (i:Nat):Prop where
 at_:h.get? a=some o
 da:o.data=.set es ep t
 fi:t.fits es.size=true
 le:t.led= !cY w
 f:∃f,kD h it a f i es.size ep/\Xj w h a es ep t vm i f os
end
section
variable{prog:Program} {w:World} {A:Around} {E:Value->Shared->Prop} {s:Shared}
end
section
variable{prog:Program} {w:World} {A:Around} {E:Value->Shared->Prop} {s:Shared}
end
section
variable{prog:Program} {w:World} {A:Around} {E:Value->Shared->Prop} {s:Shared}
end
section
variable{X:Cx}
def e_ (P:Program) (w:World) (p:Addr) (a:List Str):HO:=.ext fun h=>SS P w h p a
inductive fA (K:AAE) (P:Program) (w:World) (xs:List V) (H:Hp) (Q:VK):Prop
 |mk (l:Addr) (a:List Str) (b:xs=[.ref l]) (c:A_ K H l (a.map V.str)) (d:a.Nodup) (e:a.length<1000) (f:∀p,H p=none->Q (.ref p) (upd H p (e_ P w p a))):fA K P w xs H Q
inductive ao (P:Program) (w:World) (xs:List V) (H:Hp) (Q:VK):Prop
 |mk (d:Addr) (b:List Str) (c:xs=[.ref d]) (e:H d=some (e_ P w d b)) (f:b.length<64) (g:∀(p:Addr) (a:List Str) (H':Hp),H p=none->AG H H'->H' p=some (.lst (a.map V.str))->a.Perm b->sortedS a=true->Q (.ref p) H'):ao P w xs H Q
end
open PySem.AutoSeq1 (wpAny_loadPart')
open PySem.MeetsSeq3
section
variable{prog:Program} {w:World} {A:Around} {s:Shared}
def WM (prog:Program) (w:World) (A:Around) (s:Shared) (u v:Value) (b:Bool):Prop:=∀(E:Value->Shared->Prop) (Q:Bool->Shared->Prop),Q b s->wpAny (model prog w) A (eqBool u v) Q E s
def cZ (prog:Program) (w:World) (A:Around) (s:Shared) (u v:Value) (b:Bool):Prop:=∀(E:Value->Shared->Prop) (Q:Value->Shared->Prop),Q (.bool b) s->wpAny (model prog w) A (richCompare .Eq u v) Q E s
theorem WM.of {u v:Value} {b:Bool} (h:SeqAt.EqAt A s u v b):WM prog w A s u v b:=fun E Q a=>h prog w E Q a
theorem cZ.of {u v:Value} {b:Bool} (h:SeqAt.RcAt A s u v b):cZ prog w A s u v b:=fun E Q a=>h prog w E Q a
theorem WM.by {u v:Value} {b:Bool} (g:u=v->b=true) (nf:(∃i t,u=.int i t)∨(∃x t,u=.str x t)∨(∃c,u=.bool c)∨∃a,u=.ref a) (h:cZ prog w A s u v b):WM prog w A s u v b:=fun E Q f=>by
 by_cases e:u=v
 ·have:=g e
  subst e this
  exact SeqAt.EqAt.same _ prog w E Q f
 ·unfold eqBool
  refine wpAny_holding (wpAny_ite_split (fun d=>absurd (eq_of_beq d) e) (fun _=>?_))
  rcases nf with⟨i,t,rfl⟩|⟨x,t,rfl⟩|⟨c,rfl⟩|⟨a,rfl⟩<;>exact wpAny_bind (h E _ (wpAny_truthy_bool f))
theorem U_ {l b:Addr} {items a:Array Value} {n E:Nat} {F u:Option Addr} {G v:Array (Option Value)} (hsz:items.size=a.size) (q:s.heap.get? l=some {cls:=.type "list",dict:=F,data:=.seq items n,slots:=G})
  (t:s.heap.get? b=some {cls:=.type "list",dict:=u,data:=.seq a E,slots:=v}) {e:Nat->Bool} (H:∀j (O:j<items.size) (P:j<a.size),WM prog w A.in1 s items[j] a[j] (e j)) {R:Result->Shared->Prop} {r:Bool} (C:r=true↔∀j,j<items.size->e j=true) (D:R (.ok (.ret (.bool r))) s):
  ∀k i:Nat,items.size-i=k->i<=items.size->(∀j,j<i->e j=true)->codeAny (model prog w) A (.builtin "list.__eq__.loop" ⟨[.ref l,.ref b,rawInt i,rawInt 2],[]⟩) R s:=by
 obtain⟨Q,g,d,S,os⟩:=s
 intro k
 induction k with
 |zero=>
  intro i I J c
  have K:i=items.size:=by lia
  have x:r=true:=C.mpr fun j L=>c j (by lia)
  subst x
  refine codeAny_builtin entry_eq_loop ?_
  rw[Around.under_plainId plain_eq_loop _]
  wp_walk using wpAny_loadPart' q,wpAny_loadPart' t
  have f:items[((i:Nat):Int).toNat]?=none:=by simp;lia
  have h:a[((i:Nat):Int).toNat]?=none:=by simp;lia
  rw[f,h]
  wp_walk using wpAny_loadPart' q,wpAny_loadPart' t
  show R (.ok (.ret (.bool (items.size==a.size)))) _
  rw[hsz]
  simpa using D
 |succ k M=>
  intro i I J c
  refine codeAny_builtin entry_eq_loop ?_
  rw[Around.under_plainId plain_eq_loop _]
  wp_walk using wpAny_loadPart' q,wpAny_loadPart' t
  have m:i<items.size:=by lia
  have o:i<a.size:=by lia
  have f:items[((i:Nat):Int).toNat]?=some items[i]:=by simp[m]
  have h:a[((i:Nat):Int).toNat]?=some a[i]:=by simp[o]
  have N:((i:Int)+1)=((i+1:Nat):Int):=by push_cast;rfl
  rw[f,h]
  refine wpAny_bind (H i m o _ _ ?_)
  cases p:e i with
  |true=>
   wp_walk
   rw[N]
   refine⟨plainId_quiet plain_eq_loop _,M (i+1) (by lia) m fun j L=>?_⟩
   rcases Nat.lt_or_ge j i with z|z
   ·exact c j z
   ·rw[show j=i by lia];exact p
  |false=>
   have y:r=false:=by
    cases B:r with
    |false=>rfl
    |true=>have:=C.mp B i m;rw[p]at this;cases this
   subst y
   wp_walk using wpAny_loadPart' q,wpAny_loadPart' t
   rw[f,h]
   wp_walk
   exact D
theorem U' {l b:Addr} {items a:Array Value} (q:s.heap.IsList l items) (t:s.heap.IsList b a) (hsz:items.size=a.size) (u:A.units<cLine) {e:Nat->Bool}
  (v:∀j (H:j<items.size) (I:j<a.size),WM prog w A.in1 s items[j] a[j] (e j)) {r:Bool} (y:r=true↔∀j,j<items.size->e j=true):cZ prog w A s (.ref l) (.ref b) r:=fun E Q h=>by
 obtain⟨⟨z,J,data,K⟩,k,m,n,o⟩:=id q
 obtain⟨⟨p,B,data2,C⟩,c,f,L,i⟩:=id t
 simp only at m o f i
 subst m o f i
 refine wpAny_richCompare_same_room (op:=.Eq) ⟨_,k,rfl⟩ ⟨_,c,rfl⟩ F.slot_list_eq (call_one F.slot_list_eq ⟨_,k,rfl⟩ F.entry_list_eq (F.args_list_eq_2 _ _) ?_) u
 obtain⟨M,g,d,N,os⟩:=s
 have O:=AutoSeq1.sub_list_list
 have D:¬(items.size !=a.size)=true:=by simp[hsz]
 wp_walk using wpAny_loadPart' k,wpAny_loadPart' c
 exact⟨plainId_quiet plain_eq_loop _,U_ hsz k c v y (show(Value.bool r≠Value.notImplemented)/\Q (.bool r) _ from⟨(fun x=>nomatch x),h⟩) _ 0 rfl (Nat.zero_le _) fun j G=>absurd G (Nat.not_lt_zero _)⟩
theorem VA {Y:Type} [DecidableEq Y] {knd:PySem.KeyKind prog w Y} {a b:Addr} {t y:List (Y×Value)} (ha:(a==sysModules)=false) (hb:(b==sysModules)=false) (W:s.heap.DictOf knd a t) (Z:s.heap.DictOf knd b y) (hu:A.units<cLine) {e:Nat->Bool}
  (he:t.length=y.length->∀(j:Nat) k u,t[j]?=some (k,u)->(valueAt y k=none/\e j=false)∨∃v,valueAt y k=some v/\WM prog w A.in1 s u v (e j)) {r:Bool} (hr:r=true↔(t.length=y.length/\∀j,j<t.length->e j=true)):cZ prog w A s (.ref a) (.ref b) r:=fun E Q h=>by
 refine wpAny_richCompare_same_room (op:=.Eq) W.typeIs Z.typeIs PySem.F.slot_dict_eq (wpAny_call_entry PySem.F.slot_dict_eq W.typeIs PySem.F.entry_dict_eq ?_ (PySem.F.args_dict_eq_2 _ _)) hu
 show wpAny _ _ (Builtin.Dict.dictSlotArgs "__eq__" ⟨[.ref a,.ref b],[]⟩>>=_) _ _ s
 refine wpAny_bind ?_
 unfold Builtin.Dict.dictSlotArgs
 refine wpAny_bind (wpAny_notOrdered_dict W.typeIs ?_)
 show wpAny _ _ (pure (Value.ref a,Value.ref b)) _ _ s
 refine wpAny_pure ?_
 refine wpAny_bind (wpAny_isInstance (T:="dict") Z.typeIs PySem.F.sub_dict_dict ?_)
 simp only[Bool.not_true,Bool.false_eq_true,if_false]
 refine wpAny_bind (wpAny_pure (wpAny_bind (wpAny_pure ?_)))
 obtain⟨oa,g,ep,B,_,C,iK,P,zg⟩:=W
 obtain⟨ob,m,zh,D,_,G,R,J,zi⟩:=Z
 have K:t.length=g.size:=by rw[<-P.length];exact Array.length_toList
 have L:y.length=m.size:=by rw[<-J.length];exact Array.length_toList
 refine wpAny_bind ?_
 unfold Builtin.Dict.samePairs Builtin.Dict.showsAll
 rw[if_neg (show¬(a==sysModules)=true by rw[ha];exact Bool.false_ne_true),if_neg (show¬(b==sysModules)=true by rw[hb];exact Bool.false_ne_true)]
 refine wpAny_bind (wpAny_pure (wpAny_bind (wpAny_pure ?_)))
 refine wpAny_bind (wpAny_dictEntries B C ?_)
 dsimp only
 refine wpAny_bind (wpAny_dictEntries D G ?_)
 have fin:∀c:Bool,c=r->∃v,Fin.done (Flow.ret (Value.bool (c==true)))=.done (.ret v)/\v≠.notImplemented/\Q v s:=fun c hc=>by
  subst hc
  refine⟨_,rfl,(fun x=>nomatch x),?_⟩
  cases c<;>exact h
 by_cases S:t.length=y.length
 ·rw[if_neg (by rw[<-K,<-L,S];simp)]
  refine wpAny_bind (wpAny_dictEpoch B C ?_)
  refine wpAny_bind ?_
  rw[Std.Legacy.Range.forIn_eq_forIn_range']
  simp only[Std.Legacy.Range.size,Nat.sub_zero,Nat.add_sub_cancel,Nat.div_one]
  refine wpAny_forIn_list _ (fun rest q s'=>s'=s/\q=(none,())/\∃i,rest=List.range' i (g.size-i)/\i<=g.size/\∀j,j<i->e j=true) _ ?_ ?_ _ _ ⟨rfl,rfl,0,by simp,Nat.zero_le _,fun j M=>absurd M (Nat.not_lt_zero _)⟩
  ·rintro x rest q s' ⟨rfl,rfl,i,f,hi,n⟩
   have o:i<g.size:=by
    rcases Nat.lt_or_ge i g.size with h|h
    ·exact h
    ·rw[Nat.sub_eq_zero_of_le h]at f;simp at f
   obtain⟨rfl,N⟩:x=i/\rest=List.range' (i+1) (g.size-(i+1)):=by
    have e:g.size-i=(g.size-(i+1))+1:=by lia
    rw[e,List.range'_succ]at f
    injection f with h1 h2
    exact⟨h1,h2⟩
   have H:x<t.length:=by rw[K];exact o
   obtain⟨k,u,vn⟩:∃k u,t[x]=(k,u):=⟨_,_,rfl⟩
   have gk:t[x]?=some (k,u):=by rw[AAA H,vn]
   have hh:=he S x k u gk
   refine wpAny_bind (wpAny_dictEntries B C ?_)
   rw[Array.getElem?_eq_getElem o]
   obtain⟨I,U⟩:=P.get? (i:=x) (e:=g[x]) (k:=k) (v:=u) (by rw[Array.getElem?_toList];exact Array.getElem?_eq_getElem o) gk
   obtain⟨k2,vo,V⟩:=iK g[x] (Array.getElem_mem o)
   have vq:k2=k:=knd.inj _ _ _ vo I
   rw[vq]at V
   show wpAny _ _ (holding [g[x].key,g[x].val] _>>=_) _ _ _
   rw[V]
   refine wpAny_bind (wpAny_holding (wpAny_bind (wpAny_dictFind_of I D G R ?_)))
   have d:findBy knd.is m k=valueAt y k:=by
    rw[<-J.find k]
    clear L J R G D
    obtain⟨l⟩:=m
    simp[findBy]
   have rf:e x=false->false=r:=fun O=>by
    cases f:r with
    |false=>rfl
    |true=>have:=(hr.mp f).2 x H;rw[O]at this;cases this
   cases M:m.findIdx? fun e=>knd.is k e.key with
   |none=>
    rw[findBy_of_findIdx?,M]at d
    have hn:valueAt y k=none:=d.symm
    rcases hh with⟨_,O⟩|⟨v,X,_⟩
    ·refine wpAny_pure ?_
     show wpAny _ _ (if(!false)=true then _ else _) _ _ _
     rw[if_pos (by decide)]
     exact wpAny_pure (wpAny_pure (wpAny_pure (fin false (rf O))))
    ·rw[hn]at X;cases X
   |some j=>
    obtain⟨p,_,_⟩:=Array.findIdx?_eq_some_iff_getElem.mp M
    rw[findBy_of_findIdx?,M]at d
    rcases hh with⟨hn,_⟩|⟨v,X,hq⟩
    ·rw[hn]at d
     simp[Array.getElem?_eq_getElem p]at d
    have vr:m[j].val=v:=by
     rw[X]at d
     simpa[Array.getElem?_eq_getElem p]using d
    refine wpAny_bind (wpAny_dictEntries D G ?_)
    rw[Array.getElem?_eq_getElem p]
    refine wpAny_holding ?_
    rw[vr,U]
    refine hq _ _ ?_
    cases O:e x with
    |true=>
     show wpAny _ _ (if(!true)=true then _ else _) _ _ _
     rw[if_neg (by decide)]
     refine wpAny_bind (wpAny_dictEpoch B C ?_)
     rw[if_neg (by simp)]
     refine wpAny_pure ⟨rfl,rfl,x+1,N,o,fun j M=>?_⟩
     rcases Nat.lt_or_ge j x with z|z
     ·exact n j z
     ·rw[show j=x by lia];exact O
    |false=>
     show wpAny _ _ (if(!false)=true then _ else _) _ _ _
     rw[if_pos (by decide)]
     exact wpAny_pure (wpAny_pure (wpAny_pure (fin false (rf O))))
  ·rintro q s' ⟨rfl,rfl,i,f,hi,n⟩
   have zj:i=g.size:=by
    rcases Nat.lt_or_ge i g.size with h|h
    ·have e:g.size-i=(g.size-(i+1))+1:=by lia
     rw[e,List.range'_succ]at f;cases f
    ·lia
   exact wpAny_pure (wpAny_pure (fin true (hr.mpr ⟨S,fun j M=>n j (by lia)⟩).symm))
 ·rw[if_pos (by rw[<-K,<-L];simpa using S)]
  have vt:false=r:=by
   cases f:r with
   |false=>rfl
   |true=>exact absurd (hr.mp f).1 S
  exact wpAny_bind (wpAny_rule (wpAny_pure (wpAny_pure (fin false vt))))
end
namespace Pt
theorem SQ {y k:Str} {r:List Str} {z:Pt} {zs:List Pt}:look (y::r) (z::zs) k=if k=y then some z else look r zs k:=Xg
theorem HQ {d:List Str} {ys:List Pt}:∀{ks:List Str} {xs:List Pt},SM ks xs d ys=true↔∀(j:Nat) k x,ks[j]?=some k->xs[j]?=some x->∃y,look d ys k=some y/\DA x y=true
 |[],xs=>by simp[SM]
 |_::_,[]=>by simp[SM]
 |k::ks,x::xs=>by
  simp only[SM,Bool.and_eq_true,HQ (ks:=ks) (xs:=xs)]
  constructor
  ·intro⟨a,e⟩ j f g b c
   cases j with
   |zero=>
    simp at b c
    subst b c
    cases i:look d ys k with
    |none=>rw[i]at a;cases a
    |some y=>rw[i]at a;exact⟨y,rfl,a⟩
   |succ j=>exact e j f g (by simpa using b) (by simpa using c)
  ·intro h
   refine⟨?_,fun j f g b c=>h (j+1) f g (by simpa using b) (by simpa using c)⟩
   obtain⟨y,a,e⟩:=h 0 k x rfl rfl
   rw[a]
   exact e
theorem Qk:∀{ks:List Str} {xs:List Pt} {j:Nat} {k:Str} {x:Pt},ks.Nodup->ks[j]?=some k->xs[j]?=some x->look ks xs k=some x
 |[],_,_,_,_,_,h,_=>by simp at h
 |_::_,[],_,_,_,_,_,h=>by simp at h
 |y::ks,z::zs,j,k,x,d,b,c=>by
  obtain⟨f,g⟩:=List.nodup_cons.mp d
  rw[SQ]
  cases j with
  |zero=>simp at b c;rw[if_pos b.symm,c]
  |succ j=>
   have a:ks[j]?=some k:=by simpa using b
   rw[if_neg (fun e=>f (by rw[<-e];exact AAD a))]
   exact Qk g a (by simpa using c)
mutual
def cb:Pt->Prop
 |int _|str _|bl _=>True
 |lst xs|tup xs=>SR xs
 |ES ks xs=>ks.Nodup/\SR xs
def SR:List Pt->Prop
 |[]=>True
 |x::r=>cb x/\SR r
end
mutual
theorem ZE:∀t:Pt,t.doc->t.cb
 |int _,_=>trivial
 |str _,_=>trivial
 |bl _,_=>trivial
 |tup _,d=>by simp[doc]at d
 |lst xs,d=>by simp only[doc]at d;exact Pp xs d
 |ES ks xs,d=>by simp only[doc]at d;exact⟨d.2.1,Pp xs d.2.2.2.2⟩
theorem Pp:∀xs:List Pt,KJ xs->SR xs
 |[],_=>trivial
 |x::r,d=>by simp only[KJ]at d;exact⟨ZE x d.1,Pp r d.2⟩
end
mutual
theorem OO:∀t:Pt,t.cb->DA t t=true
 |int _,_=>by simp[DA]
 |str _,_=>by simp[DA]
 |bl _,_=>by simp[DA]
 |lst xs,d=>by simp only[cb]at d;simp only[DA];exact Ft xs d
 |tup xs,d=>by simp only[cb]at d;simp only[DA];exact Ft xs d
 |ES ks xs,d=>by
  simp only[cb]at d
  simp only[DA,beq_self_eq_true,Bool.true_and]
  refine HQ.mpr fun j k x b a=>⟨x,Qk d.1 b a,?_⟩
  have:=Ft xs d.2
  exact Ql xs this j x a
theorem Ft:∀xs:List Pt,SR xs->Fb xs xs=true
 |[],_=>by simp[Fb]
 |x::r,d=>by simp only[SR]at d;simp only[Fb,Bool.and_eq_true];exact⟨OO x d.1,Ft r d.2⟩
theorem Ql:∀xs:List Pt,Fb xs xs=true->∀(j:Nat) x,xs[j]?=some x->DA x x=true
 |[],_,j,x,h=>by simp at h
 |y::r,h,0,x,a=>by
  simp only[Fb,Bool.and_eq_true]at h
  simp at a
  subst a
  exact h.1
 |y::r,h,j+1,x,a=>by
  simp only[Fb,Bool.and_eq_true]at h
  exact Ql r h.2 j x (by simpa using a)
end
end Pt
section
variable{K:AAE} [BH K]
theorem Rd.one {H:Hp} {a:Addr} {u v:HO} (h:Rd H a u) (h':Rd H a v) (b:∀o z,u≠.CK o z) (c:∀o z,v≠.CK o z):u=v:=by
 rcases h with h|⟨o,h⟩<;>rcases h' with h'|⟨d,h'⟩<;>rw[h]at h'
 ·exact AAC h'
 ·exact absurd (AAC h') (b _ _)
 ·exact absurd (AAC h').symm (c _ _)
 ·have:=AAC h'
  injection this
theorem Qm:∀{ks a:List Str},ks.map (Sum.inr:Str->Key)=a.map Sum.inr->ks=a
 |[],[],_=>rfl
 |[],_::_,h=>by simp at h
 |_::_,[],h=>by simp at h
 |k::ks,l::a,h=>by
  simp only[List.map_cons,List.cons.injEq]at h
  rw[Sum.inr.inj h.1,Qm h.2]
mutual
theorem Val.one {H:Hp}:∀(s:Pt) {v:V} {t:Pt},Val H v s->Val H v t->s.doc->t.doc->s=t
 | .int i,_,t,.int _,h,_,d=>by cases h;rfl
 | .str x,_,t,.str _,h,_,d=>by cases h;rfl
 | .bl _,_,_,_,_,d,_=>by simp[Pt.doc]at d
 | .tup _,_,_,_,_,d,_=>by simp[Pt.doc]at d
 | .lst c,_,t,.lst b f,h,d,d'=>by
  cases h with
  |lst a g=>
   have e:=Rd.one b a (fun o z e=>by cases e) (fun o z e=>by cases e)
   cases e
   simp only[Pt.doc]at d d'
   rw[DM.one c f g d d']
  |tup _ _=>simp[Pt.doc]at d'
  |ES a _ _=>
   have e:=Rd.one b a (fun o z e=>by cases e) (fun o z e=>by cases e)
   cases e
 | .ES l c,_,t,.ES b k f,h,d,d'=>by
  cases h with
  |ES a j g=>
   have e:=Rd.one b a (fun o z e=>by cases e) (fun o z e=>by cases e)
   cases e
   simp only[Pt.doc]at d d'
   rw[DM.one c f g d.2.2.2.2 d'.2.2.2.2]
   congr 1
   rw[k]at j
   exact Qm j
  |tup _ _=>simp[Pt.doc]at d'
  |lst a _=>
   have e:=Rd.one b a (fun o z e=>by cases e) (fun o z e=>by cases e)
   cases e
theorem DM.one {H:Hp}:∀(a:List Pt) {c:List V} {b:List Pt},DM H c a->DM H c b->Pt.KJ a->Pt.KJ b->a=b
 |[],_,_,.nil,h,_,_=>by cases h;rfl
 |s::a,_,_,.cons h r,h',d,d'=>by
  cases h' with
  |cons g q=>
   simp only[Pt.KJ]at d d'
   rw[Val.one s h g d.1 d'.1,DM.one a r q d.2 d'.2]
end
def iL (s t:Pt):Prop:=(s.doc/\t.doc)∨Pt.DA s t=true
def LZ (a:List Str) (b:List Pt) (k:Str) (x:Pt):Bool:=match Pt.look a b k with
 |some y=>Pt.DA x y
 |none=>false
theorem GY {a:List Str} {b:List Pt} {k:Str} {x y:Pt} (h:Pt.look a b k=some y):LZ a b k x=Pt.DA x y:=by unfold LZ;rw[h]
theorem KN {a:List Str} {b:List Pt} {k:Str} {x:Pt} (h:Pt.look a b k=none):LZ a b k x=false:=by unfold LZ;rw[h]
def aq (ks:List Str) (ps:List Pt) (a:List Str) (b:List Pt) (j:Nat):Bool:=match ks[j]?,ps[j]? with
 |some k,some x=>LZ a b k x
 |_,_=>false
theorem Mi {ks a:List Str} {ps b:List Pt} {j:Nat} {k:Str} {x:Pt} (c:ks[j]?=some k) (d:ps[j]?=some x):aq ks ps a b j=LZ a b k x:=by unfold aq;rw[c,d]
theorem IB {xs ys:List Pt} (l:xs.length=ys.length):Pt.Fb xs ys=true↔∀j,j<xs.length->pairE xs ys j=true:=by
 rw[<-KL l,List.all_eq_true]
 exact⟨fun h j a=>h j (List.mem_range.mpr a),fun h j a=>h j (List.mem_range.mp a)⟩
end
section
variable{X:Cx} [BH X.K] {pins:List (Addr×Obj)} {σ:St} {H:Hp} {s:Shared}
theorem Xk {x:V} {t:Pt} {u:Value} (h:Val H x t) (r:RelV x u):(∃i t,u=.int i t)∨(∃x t,u=.str x t)∨(∃c,u=.bool c)∨∃a,u=.ref a:=by
 cases h with
 |int i=>exact .inl ⟨i,r⟩
 |str x=>exact .inr (.inl ⟨x,r⟩)
 |bl b=>exact .inr (.inr (.inl ⟨b,r⟩))
 |@lst a _ _ _ _=>exact .inr (.inr (.inr ⟨a,r⟩))
 |@tup a _ _ _ _=>exact .inr (.inr (.inr ⟨a,r⟩))
 |@ES a _ _ _ _ _ _=>exact .inr (.inr (.inr ⟨a,r⟩))
theorem tF (I:Inv X pins σ H s) {p t:Pt} (ih:∀p':Pt,p'.deep<p.deep->∀t',iL p' t'->∀{x y:V},Val H x p'->Val H y t'->∀{A:Around} {u v:Value},A.units+p'.deep<cLine->RelV x u->RelV y v->WM X.prog X.w A s u v (Pt.DA p' t')) (nb:∀b,p≠.bl b) (c:iL p t) {x y:V} (hx:Val H x p) (hy:Val H y t) {A:Around} {u v:Value} (hu:A.units+p.deep<cLine) (ru:RelV x u) (m:RelV y v):cZ X.prog X.w A s u v (Pt.DA p t):=by
 have f:A.units<cLine:=by lia
 cases hx with
 |int i=>
  obtain⟨q,rfl⟩:∃t,u=Value.int i t:=ru
  cases hy with
  |int j=>obtain⟨o,rfl⟩:∃t,v=Value.int j t:=m;simp only[Pt.DA];exact .of (SeqAt.RcAt.int_int i q j o)
  |str z=>obtain⟨o,rfl⟩:∃t,v=Value.str z t:=m;simp only[Pt.DA];exact .of (SeqAt.RcAt.int_str i q z o)
  |bl b=>rcases c with⟨_,d⟩|c;(·simp[Pt.doc]at d);simp[Pt.DA]at c
  |tup _ _=>rcases c with⟨_,d⟩|c;(·simp[Pt.doc]at d);simp[Pt.DA]at c
  |@lst b O r B D=>
   cases(show v=Value.ref b from m)
   obtain⟨E,S,P,_⟩:=I.list (.inl B)
   simp only[Pt.DA]
   exact .of (SeqAt.RcAt.int_list i q P.isList f)
  |@ES b kvs Q r B T D=>
   cases(show v=Value.ref b from m)
   obtain⟨_,dd,es,n,sl,J,_⟩:=IA I B
   simp only[Pt.DA]
   exact .of (OJ i q J f)
 |str x0=>
  obtain⟨q,rfl⟩:∃t,u=Value.str x0 t:=ru
  cases hy with
  |int j=>obtain⟨o,rfl⟩:∃t,v=Value.int j t:=m;simp only[Pt.DA];exact .of (SeqAt.RcAt.str_int x0 q j o)
  |str z=>obtain⟨o,rfl⟩:∃t,v=Value.str z t:=m;simp only[Pt.DA];exact .of (SeqAt.RcAt.str_str x0 q z o)
  |bl b=>rcases c with⟨_,d⟩|c;(·simp[Pt.doc]at d);simp[Pt.DA]at c
  |tup _ _=>rcases c with⟨_,d⟩|c;(·simp[Pt.doc]at d);simp[Pt.DA]at c
  |@lst b O r B D=>
   cases(show v=Value.ref b from m)
   obtain⟨E,S,P,_⟩:=I.list (.inl B)
   simp only[Pt.DA]
   exact .of (SeqAt.RcAt.str_list x0 q P.isList f)
  |@ES b kvs Q r B T D=>
   cases(show v=Value.ref b from m)
   obtain⟨_,dd,es,n,sl,J,_⟩:=IA I B
   simp only[Pt.DA]
   exact .of (OL x0 q J f)
 |bl b=>exact absurd rfl (nb b)
 |@lst a vu C U W=>
  cases(show u=Value.ref a from ru)
  obtain⟨kE,r0,p0,_⟩:=I.list (.inl U)
  have e0:kE.toArray.size=C.length:=by rw[List.size_toArray,<-r0.length,W.length]
  simp only[Pt.deep]at hu
  cases hy with
  |int j=>obtain⟨o,rfl⟩:∃t,v=Value.int j t:=m;simp only[Pt.DA];exact .of (SeqAt.RcAt.list_int j o p0.isList f)
  |str z=>obtain⟨o,rfl⟩:∃t,v=Value.str z t:=m;simp only[Pt.DA];exact .of (SeqAt.RcAt.list_str z o p0.isList f)
  |bl b=>rcases c with⟨_,d⟩|c;(·simp[Pt.doc]at d);simp[Pt.DA]at c
  |tup _ _=>rcases c with⟨_,d⟩|c;(·simp[Pt.doc]at d);simp[Pt.DA]at c
  |@ES b kvs Q r B T D=>
   cases(show v=Value.ref b from m)
   obtain⟨_,dd,es,n,sl,J,_⟩:=IA I B
   simp only[Pt.DA]
   exact .of (Mf p0.isList J f)
  |@lst b O r B D=>
   cases(show v=Value.ref b from m)
   obtain⟨E,S,P,_⟩:=I.list (.inl B)
   have e1:E.toArray.size=r.length:=by rw[List.size_toArray,<-S.length,D.length]
   simp only[Pt.DA]
   by_cases l:C.length=r.length
   ·refine U' p0.isList P.isList (by rw[e0,e1,l]) f (e:=pairE C r) (fun j G h2=>?_) (by rw[e0];exact IB l)
    obtain⟨v1,q,g1,L,M,F⟩:=W.at r0 G
    obtain⟨v2,o,g3,g4,N,kF⟩:=D.at S h2
    have e:pairE C r j=Pt.DA q o:=by simp[pairE,L,g4]
    rw[e]
    have dl:=Pt.Bf (AAD L)
    refine ih q (by simp only[Pt.deep];lia) o ?_ M N (by show A.units+1+_<cLine;lia) F kF
    rcases c with⟨d,d'⟩|c
    ·simp only[Pt.doc]at d d'
     exact .inl ⟨Pt.Fc d _ (AAD L),Pt.Fc d' _ (AAD g4)⟩
    ·simp only[Pt.DA]at c
     exact .inr (by rw[<-e];exact(IB l).mp c j (by rw[<-e0];exact G))
   ·rw[HP l]
    exact .of (SeqAt.RcAt.lists_lengths p0.isList P.isList (by rw[e0,e1];simpa using l) f)
 |@tup a vu C U W=>
  cases(show u=Value.ref a from ru)
  have Y:Pt.DA (.tup C) t=true:=by
   rcases c with⟨d,_⟩|c
   ·simp[Pt.doc]at d
   ·exact c
  simp only[Pt.deep]at hu
  cases hy with
  |@tup b O r B D=>
   cases(show v=Value.ref b from m)
   simp only[Pt.DA]at Y⊢
   have l:C.length=r.length:=by
    rcases Nat.lt_trichotomy C.length r.length with z|z|z
    ·rw[HP (by lia)]at Y;cases Y
    ·exact z
    ·rw[HP (by lia)]at Y;cases Y
   obtain⟨E,S,P,_⟩:=I.tuple U
   obtain⟨kG,r2,p2,_⟩:=I.tuple B
   have e1:E.toArray.size=C.length:=by rw[List.size_toArray,<-S.length,W.length]
   have e2:kG.toArray.size=r.length:=by rw[List.size_toArray,<-r2.length,D.length]
   rw[Y]
   refine SJ P p2 (by rw[e1,e2,l]) f fun j G h2=>?_
   obtain⟨v1,q,g1,L,M,F⟩:=W.at S G
   obtain⟨v2,o,g3,g4,N,kF⟩:=D.at r2 h2
   have e:pairE C r j=Pt.DA q o:=by simp[pairE,L,g4]
   have et:Pt.DA q o=true:=by rw[<-e];exact(IB l).mp Y j (by rw[<-e1];exact G)
   have dl:=Pt.Bf (AAD L)
   have:=ih q (by simp only[Pt.deep];lia) o (.inr et) M N (A:=A.in1) (by show A.units+1+_<cLine;lia) F kF
   rw[et]at this
   exact this
  |_=>simp[Pt.DA]at Y
 |@ES a kvs Q C U iK W=>
  cases(show u=Value.ref a from ru)
  simp only[Pt.deep]at hu
  cases hy with
  |int j=>obtain⟨o,rfl⟩:∃t,v=Value.int j t:=m;obtain⟨_,dd,es,n,sl,J,_⟩:=IA I U;simp only[Pt.DA];exact .of (OK j o J f)
  |str z=>obtain⟨o,rfl⟩:∃t,v=Value.str z t:=m;obtain⟨_,dd,es,n,sl,J,_⟩:=IA I U;simp only[Pt.DA];exact .of (OM z o J f)
  |bl b=>rcases c with⟨_,d⟩|c;(·simp[Pt.doc]at d);simp[Pt.DA]at c
  |tup _ _=>rcases c with⟨_,d⟩|c;(·simp[Pt.doc]at d);simp[Pt.DA]at c
  |@lst b O r B D=>
   cases(show v=Value.ref b from m)
   obtain⟨_,dd,es,n,sl,J,_⟩:=IA I U
   obtain⟨E,S,P,_⟩:=I.list (.inl B)
   simp only[Pt.DA]
   exact .of (Mg P.isList J f)
  |@ES b vB ls r B tG D=>
   cases(show v=Value.ref b from m)
   obtain⟨z,hm,O,rel,dd⟩:=FT I.BV U
   obtain⟨z',vw,kH,Z,vx⟩:=FT I.BV B
   have k1:O.map (·.1)=Q.map Sum.inr:=by rw[<-iK];exact(KV.keys rel).symm
   have l1:O.length=Q.length:=by have:=congrArg List.length k1;simpa using this
   have l2:kH.length=ls.length:=by
    rw[<-Z.length]
    have:=congrArg List.length tG
    simpa using this
   have lp:Q.length=C.length:=by
    have G:=W.length
    rw[List.length_map]at G
    have h2:=congrArg List.length iK
    simp at h2
    lia
   refine VA hm vw dd vx f (e:=aq Q C ls r) (fun ll j k u g=>?_) ?_
   ·have hj:j<O.length:=(AAB g).1
    have gv:(O.map (·.2))[j]?=some u:=by rw[List.getElem?_map,g];rfl
    have G:j<(O.map (·.2)).toArray.size:=by rw[List.size_toArray];exact(AAB gv).1
    obtain⟨v1,q,g1,L,M,F⟩:=W.at (XZ rel) G
    rw[Uk gv G]at F
    obtain⟨nm,Pq⟩:∃nm,Q[j]?=some nm:=⟨_,AAA (by lia)⟩
    have ek:k=Sum.inr nm:=by
     have:=congrArg (fun z=>z[j]?) k1
     simp only[List.getElem?_map,g,Pq]at this
     simpa using this
    subst ek
    rw[Mi Pq L]
    have m:=Z.val (Sum.inr nm)
    rcases Val.Qg tG D nm with⟨w1,o,q1,q2,N⟩|⟨q1,q2⟩
    ·rw[q1]at m
     rw[GY q2]
     cases R:valueAt kH (Sum.inr nm)with
     |none=>rw[R]at m;exact m.elim
     |some u2=>
      rw[R]at m
      have dl:=Pt.Bf (AAD L)
      refine .inr ⟨u2,rfl,ih q (by simp only[Pt.deep];lia) o ?_ M N (by show A.units+1+_<cLine;lia) F m⟩
      rcases c with⟨d,d'⟩|c
      ·simp only[Pt.doc]at d d'
       exact .inl ⟨Pt.Fc d.2.2.2.2 _ (AAD L),Pt.Fc d'.2.2.2.2 _ (Pt.Um q2).2⟩
      ·simp only[Pt.DA,Bool.and_eq_true]at c
       obtain⟨y,y1,y2⟩:=Pt.HQ.mp c.2 j nm q Pq L
       rw[q2]at y1
       cases y1
       exact .inr y2
    ·rw[q1]at m
     rw[KN q2]
     cases R:valueAt kH (Sum.inr nm)with
     |some u2=>rw[R]at m;exact m.elim
     |none=>exact .inl ⟨rfl,rfl⟩
   ·simp only[Pt.DA,Bool.and_eq_true,beq_iff_eq,Pt.HQ]
    rw[l1,l2]
    refine and_congr_right fun ll=>⟨fun h j hj=>?_,fun h j k x T hx=>?_⟩
    ·obtain⟨k,T⟩:∃k,Q[j]?=some k:=⟨_,AAA hj⟩
     obtain⟨x,hx⟩:∃x,C[j]?=some x:=⟨_,AAA (by lia)⟩
     obtain⟨y,G,h2⟩:=h j k x T hx
     rw[Mi T hx,GY G]
     exact h2
    ·have:=h j (AAB T).1
     rw[Mi T hx]at this
     cases hl:Pt.look ls r k with
     |none=>rw[KN hl]at this;cases this
     |some y=>rw[GY hl]at this;exact⟨y,rfl,this⟩
theorem ZF (I:Inv X pins σ H s):∀(n:Nat) (p:Pt),p.deep<=n->∀t,iL p t->∀{x y:V},Val H x p->Val H y t->∀{A:Around} {u v:Value},A.units+p.deep<cLine->RelV x u->RelV y v->WM X.prog X.w A s u v (Pt.DA p t)
 |0,p,h=>by have:=Pt.HG p;lia
 |n+1,p,h=>fun t c x y a g A u v l f i=>by
  by_cases k:∃b,p=.bl b
  ·obtain⟨b,rfl⟩:=k
   rcases c with⟨d,_⟩|c
   ·simp[Pt.doc]at d
   ·cases t with
    |bl m=>
     have e:b=m:=by simpa[Pt.DA]using c
     subst e
     cases a
     cases g
     cases(show u=Value.bool b from f)
     cases(show v=Value.bool b from i)
     rw[c]
     exact .of (SeqAt.EqAt.same _)
    |_=>simp[Pt.DA]at c
  ·refine WM.by (fun e=>?_) (Xk a f) (tF I (fun o r=>ZF I n o (by lia)) (fun b z=>k ⟨b,z⟩) c a g l f i)
   rcases c with⟨d,q⟩|c
   ·subst e
    have j:x=y:=f.inj i
    subst j
    have:=Val.one p a g d q
    subst this
    exact Pt.OO p (Pt.ZE p d)
   ·exact c
end
inductive Xl {K:AAE} [BH K] (x y:V) (H:Hp) (Q:VK):Prop
 |mk (p t:Pt) (a:Val H x p) (e:Val H y t) (f:∀b,p≠.bl b) (c:iL p t) (d:p.deep<=60) (q:Q (.bl (Pt.DA p t)) H):Xl x y H Q
section
variable{X:Cx}
theorem ar (j:X.A.units+64<cLine):Ep X (compareOp .Eq) (@Xl X.K ⟨trivial⟩):=by
 haveI:BH X.K:=⟨trivial⟩
 intro pins s k H x y v u Q I a b h
 obtain⟨p,t,e,f,g,c,d,q⟩:=h
 exact tF I (fun i _=>ZF I _ i (Nat.le_refl _)) g c e f (A:=X.A) (by lia) a b _ _ ⟨.bl _,H,I,rfl,q⟩
end
structure Dp (X:Cx) (scope:Scope) (x z:Str) (fv:List Str) (fs:List Nat):Prop where
 kind:scope.kind=.function
 Ji:∀p∈scope.names,p.2≠.cell
 names:∀p∈scope.names,p.2=.local->scope.names.lookup p.1=some .local
 tg:scope.names.lookup x=some .local
 tz:scope.names.lookup z=some .local
 free:∀p∈scope.names,p.2=.free->X.env.scope.names.lookup p.1=some .cell
 nd:(x::z::fv).Nodup
 jb:∀(j:Nat) y,fv[j]?=some y->∃i,fs[j]?=some i/\X.N[i]?=some y/\scope.names.lookup y=some .free
 len:fv.length=fs.length
def OP (a:Scope) (N:List Str) (scope:Scope) (x z:Str) (fv:List Str) (fs:List Nat):Bool:=
 scope.kind==.function&&(scope.names.all fun p=>p.2 !=.cell)&&(scope.names.all fun p=>p.2 !=.local||scope.names.lookup p.1==some .local)&&scope.names.lookup x==some .local&&scope.names.lookup z==some .local&&
 (scope.names.all fun p=>p.2 !=.free||a.names.lookup p.1==some .cell)&&decide (x::z::fv).Nodup&&fs.map (N[·]?)==fv.map some&&(fv.all fun y=>scope.names.lookup y==some .free)
theorem Dp.of {X:Cx} {scope:Scope} {x z:Str} {fv:List Str} {fs:List Nat} (h:OP X.env.scope X.N scope x z fv fs=true):Dp X scope x z fv fs:=by
 unfold OP at h
 simp only[Bool.and_eq_true,List.all_eq_true,Bool.or_eq_true,bne_iff_ne,beq_iff_eq,decide_eq_true_eq]at h
 obtain⟨⟨⟨⟨⟨⟨⟨⟨g,i⟩,k⟩,m⟩,n⟩,o⟩,q⟩,f⟩,r⟩:=h
 have hlen:fs.length=fv.length:=by
  have:=congrArg List.length f
  simpa using this
 refine⟨g,i,fun p b c=>(k p b).resolve_left fun z=>z c,m,n,fun p b c=>(o p b).resolve_left fun z=>z c,q,fun j y e=>?_,hlen.symm⟩
 have s:j<fv.length:=(AAB e).1
 have d:=congrArg (fun l=>l[j]?) f
 simp only[List.getElem?_map,e]at d
 have a:j<fs.length:=by lia
 rw[AAA a]at d
 refine⟨fs[j],AAA a,?_,r y (AAD e)⟩
 simpa using d
section
variable{X:Cx} {pins:List (Addr×Obj)} {σ:St} {H H':Hp} {s s':Shared} {scope:Scope} {x z:Str} {fv:List Str} {fs:List Nat} {fp:List Addr}
theorem Dp.cells (ok:Dp X scope x z fv fs) (I:Inv X pins σ H s):∀p∈scope.names,p.2=.free->∃c,X.env.cells.lookup p.1=some c:=fun p a b=>I.ok.has p.1 (.inl (ok.free p a b))
theorem Dp.look (ok:Dp X scope x z fv fs) (I:Inv X pins σ H s) {y:Str} {c:Addr} (h:(Dj X.env.cells scope.names []).lookup y=some c):X.env.cells.lookup y=some c:=
 Dm scope.names [] (ok.cells I) (fun _ _ z=>by cases z) h
theorem OQ (ok:Dp X scope x z fv fs) (I:Inv X pins σ H s) (t:∀b∈fp,EC X pins H b) (w:∀b∈fp,∃o,s.heap.get? b=some o) {h:Heap} {m:Str->Option Value} {tk:Nat} (N:h.Ns s.heap.objs.size m)
  (kept:∀b o,s.heap.get? b=some o->h.get? b=some o):Inv (CI X (x::z::fv) scope s.heap.objs.size s H fp) [] (none::none::CH σ fs) H {s with heap:=h,toks:=tk}:=by
 have g:=fun{y c}=>ok.look I (y:=y) (c:=c)
 have A:X.env.scope.kind=.function:=I.ok.kind
 refine⟨⟨I.ok.mod,ok.kind,I.ok.glob,I.ok.blt,Nat.le_refl _,fun y z c h O=>I.ok.inj y z c (g h) (g O),fun y d=>?_,fun y c B _=>(by cases B),I.ok.hd,I.ok.frames,.inl rfl,fun b f=>⟨?_,fun y c e z=>(t b f).2.2.2.2.1 y c (g e) z⟩,I.bs,
  Nat.le_trans I.ok.Sx I.sz,fun b o e f=>?_,fun b f C=>?_,I.stack,I.Lz⟩,rfl,I.bare,Un.kept kept,⟨m,N,fun i y v D a T=>?_⟩,fun y c e=>?_,I.fresh,fun y c e=>I.ET y c (g e),fun p P=>absurd (show p∈([]:List (Addr×Obj))from P) (by simp),I.BV.kept kept,?_⟩
 ·have d:(relabel scope X.env).names.lookup y=some .cell∨(relabel scope X.env).names.lookup y=some .free:=d
  rw[Cs]at d
  have E:scope.names.lookup y=some .free:=by
   cases e:scope.names.lookup y with
   |none=>rw[e]at d;rcases d with z|z<;>cases z
   |some k=>
    rw[e]at d
    have d:Gs X.env y k=.cell∨Gs X.env y k=.free:=d.elim (fun z=>.inl (AAC z)) fun z=>.inr (AAC z)
    by_cases F:k=.free
    ·rw[F]
    ·have a:Gs X.env y k=k:=by
      unfold Gs
      have:(k==NameKind.free)=false:=by simpa using F
      rw[this]
      rfl
     rw[a]at d
     rcases d with z|z
     ·subst z
      exact absurd rfl (ok.Ji _ (PySem.mem_of_lookup e))
     ·exact absurd z F
  exact Option.isSome_iff_exists.mp (Dt scope.names [] (.inr (PySem.mem_of_lookup E)))
 ·obtain⟨o,n⟩:=w b f
  exact Nat.ne_of_lt (Heap.lt_size n)
 ·rcases(t b f).2.2.2.1 with z|z
  ·exact I.ok.RE b o e z
  ·exact absurd (Nat.lt_of_lt_of_le (Heap.lt_size e) (Nat.le_trans I.ok.Sx z)) (Nat.lt_irrefl _)
 ·rcases List.mem_cons.mp (I.Ly b C)with z|z
  ·exact(t b f).2.1 z
  ·exact(t b f).2.2.1 z
 ·cases i with
  |zero=>
   have a:(some none:Option (Option V))=some (some v):=a
   cases a
  |succ j=>
   cases j with
   |zero=>
    have a:(some none:Option (Option V))=some (some v):=a
    cases a
   |succ j=>
   have D:fv[j]?=some y:=D
   have a:(CH σ fs)[j]?=some (some v):=a
   obtain⟨i,Q,R⟩:=LG a
   obtain⟨U,M,S,G⟩:=ok.jb j y D
   rw[Q]at M
   cases M
   have J:X.env.scope.names.lookup y=some .cell:=ok.free (y,.free) (PySem.mem_of_lookup G) rfl
   obtain⟨W,_,K⟩:=I.loc
   obtain⟨u,r,l⟩:=K i y v S R (.inr (.inl J))
   refine⟨u,r,?_⟩
   rcases l with⟨k,_⟩|⟨_,c,e,o,n,hd⟩
   ·have k:X.env.scope.names.lookup y=some .local:=k
    rw[J]at k
    cases k
   ·obtain⟨Y,q⟩:=Option.isSome_iff_exists.mp (Dt (cells:=X.env.cells) scope.names [] (.inr (PySem.mem_of_lookup G)))
    have:=g q
    rw[e]at this
    cases this
    refine .inr ⟨.inl ?_,c,q,o,kept _ _ n,hd⟩
    show(relabel scope X.env).names.lookup y=some .cell
    rw[Cs,G]
    show some (Gs X.env y .free)=_
    have L:X.env.kindOf y=some .cell:=J
    unfold Gs
    rw[A,L]
    rfl
 ·obtain⟨v,o,n,hd⟩:=I.cell y c (g e)
  exact⟨v,o,kept _ _ n,hd⟩
 ·show(none::none::CH σ fs).length=(x::z::fv).length
  simp[CH,ok.len]
end
def Mj (K:AAE) (J:It) (j:TT) (k:TE) (fs:List Nat) (σ:St) (H:Hp) (Q:VK):Prop:=∀D,H D=none->∃W:Nat->Nat->Hp->Prop,(∃m,W 0 m (upd H D (.lst [])))/\∀i m c,W i m c->
 (J.stop i c/\Q (.ref D) c)∨(J.go i c/\∀v e,J.Sy i c v e->∃(t:Addr) (a b:V),v=.ref t/\Ap K e t [a,b]/\j (some a::some b::CH σ fs) e fun ok g=>
  if ok=true then k (some a::some b::CH σ fs) g fun y h=>∃f,h D=some (.lst f)/\f.length<sizeLine/\∃d,d<m/\W (i+1) d (upd h D (.lst (f++[y])))else∃d,d<m/\W (i+1) d g)
def au (K:AAE) (b:TI) (c:TT) (d:TE) (fs:List Nat):TE:=fun a H Q=>b a H fun J e=>Mj K J c d fs a e Q
section
variable{X:Cx} {elt iter:Expr} {x z:Str} {px pz pt pos:Pos} {kt:Nat} {ifs:List Expr} {scope:Scope} {fv:List Str} {fs:List Nat} {wi:TI} {te:TE} {tc:TT}
theorem SU (hc:X.calm=true) (ok:Dp X scope x z fv fs) (vy:∀C s0 H0 d,aK (CI X (x::z::fv) scope C s0 H0 d) ifs tc) (he:∀C s0 H0 d,PE (CI X (x::z::fv) scope C s0 H0 d) elt te)
  {pins:List (Addr×Obj)} {σ:St} {H:Hp} {s:Shared} {E:Value->Shared->Prop} {it:Addr} {d:List Addr} {G:Nat->Heap->Prop} {J:It} {Q:VK} (I:Inv X pins σ H s) (T:Turn X.prog X.w X.K (.Tuple [.Name x px,.Name z pz] kt pt) J d it G) (st:G 0 s.heap)
  (hf:∀b∈d,EC X pins H b)
  (rd:Mj X.K J tc te fs σ H Q)
  {RR:Value->Addr->Result->Shared->Prop}
  (jc:∀D C t H',Inv X pins σ H' t->EC X pins H' C->(∃m,t.heap.Ns C m)->Q (.ref D) H'->RR (.ref D) C (.ok .next) t):
  wpAny (model X.prog X.w) X.A (newList []) (fun L a=>wpAny (model X.prog X.w) X.A (newFunctionEnv scope X.env.globals (Dj X.env.cells scope.names []) [] X.env.qual none .none (some X.env)) (fun g s4=>
   codeAny (model X.prog X.w) X.A (.compStart (.ListComp elt [⟨.Tuple [.Name x px,.Name z pz] kt pt,iter,ifs,0⟩] scope pos) 0 (.ref it) L {g with scope:=relabel scope X.env}) (RR L g.locals) s4) E a) E s:=by
 obtain⟨W,⟨m0,w0⟩,turn⟩:=rd s.heap.objs.size I.fresh
 have Y:Inv X pins σ (upd H s.heap.objs.size (.lst [])) {s with heap:=s.heap.push {cls:=.type "list",dict:=none,data:=.seq ([]:List Value).toArray}}:=I.Z' (its:=[]) (ys:=[]) (t':=s.toks) .nil (Nat.zero_le _)
 refine wpAny_newObj_type ?_
 show wpAny _ _ _ _ _ ({s with heap:=s.heap.push {cls:=.type "list",dict:=none,data:=.seq ([]:List Value).toArray}}:Shared)
 generalize jd:({s with heap:=s.heap.push {cls:=.type "list",dict:=none,data:=.seq ([]:List Value).toArray}}:Shared)=a at Y⊢
 refine wpAny_newFunctionEnv ok.Ji (fun y hy=>absurd hy (by simp)) (fun h1 je jf=>?_) ok.kind
 have eh:a.heap=s.heap.push {cls:=.type "list",dict:=none,data:=.seq ([]:List Value).toArray}:=by rw[<-jd]
 have M:∀b o,s.heap.get? b=some o->a.heap.get? b=some o:=fun b o e=>by rw[eh];exact Heap.get?_push_of_some _ e
 have jg:∀b∈d,∃o,a.heap.get? b=some o:=fun b c=>let⟨o,ho,_⟩:=T.obj 0 _ st b c;⟨o,M b o ho⟩
 have cV:∀b∈d,b≠s.heap.objs.size:=fun b c=>let⟨o,ho,_⟩:=T.obj 0 _ st b c;Nat.ne_of_lt (Heap.lt_size ho)
 have h:∀b∈d,EC X pins (upd H s.heap.objs.size (.lst [])) b:=fun b c=>⟨by rw[AN (cV b c)];exact(hf b c).1,(hf b c).2⟩
 have kept:∀b o,a.heap.get? b=some o->h1.get? b=some o:=fun b o e=>jf.extBut b o (Nat.ne_of_lt (Heap.lt_size e)) (Heap.get?_push_of_some _ e)
 have Z:=OQ (tk:=a.toks+([]:List (Str×Value)).length) ok Y h jg je kept
 have N:G 0 h1:=T.keep 0 _ _ st fun b c o e=>kept b o (M b o e)
 have f:∀{H':Hp},(∀b∈d,H' b=none)->∀b∈d,EC (CI X (x::z::fv) scope a.heap.objs.size a (upd H s.heap.objs.size (.lst [])) d) [] H' b:=fun hn b c=>
  ⟨hn b c,(Z.ok.cT b c).1,Z.ok.RF b c,.inl c,(Z.ok.cT b c).2,fun p hp=>absurd hp (by simp)⟩
 have hg:PG (CI X (x::z::fv) scope a.heap.objs.size a (upd H s.heap.objs.size (.lst [])) d) (.Tuple [.Name x px,.Name z pz] kt pt) (dO X.K 2 (TK (EU 0) (TK (EU 1) dN))):=Ot hc (EV (Bm (i:=0) ok.nd rfl (.inl (lookup_relabel_local ok.tg)) (.inr (lookup_relabel_local ok.tg))) (EV (Bm (i:=1) ok.nd rfl (.inl (lookup_relabel_local ok.tz)) (.inr (lookup_relabel_local ok.tz))) MA))
 have loop:codeAny (model X.prog X.w) X.A (.compLoop (.ListComp elt [⟨.Tuple [.Name x px,.Name z pz] kt pt,iter,ifs,0⟩] scope pos) 0 (.ref it) (.ref s.heap.objs.size) (compEnvC scope (Dj X.env.cells scope.names []) a.heap.objs.size X.env)) (RR (.ref s.heap.objs.size) a.heap.objs.size)
   {a with heap:=h1,toks:=a.toks+([]:List (Str×Value)).length}:=by
  refine Jh (fun n t=>∃i o o2 H',Inv (CI X (x::z::fv) scope a.heap.objs.size a (upd H s.heap.objs.size (.lst [])) d) [] (o::o2::CH σ fs) H' t/\G i t.heap/\(∀b∈d,H' b=none)/\W i n H') ?_ m0
   ⟨0,none,none,_,Z,N,fun b c=>(h b c).1,w0⟩
  rintro n s5 ⟨i,o,o2,H5,I5,O,P,w5⟩
  rcases turn i n H5 w5 with⟨stop,q⟩|⟨go,step⟩
  ·refine Bl (T.done (CI X (x::z::fv) scope a.heap.objs.size a (upd H s.heap.objs.size (.lst [])) d) rfl rfl rfl hc i [] s5 _ H5 _ I5 (f P) O stop) fun r s6 ⟨hr,I6⟩=>?_
   subst hr
   obtain⟨m,hm,_⟩:=I6.loc
   exact jc _ _ s6 H5 (Jj Y h I6) (Y.NN (Nat.le_refl _) I6.free) ⟨m,hm⟩ q
  ·refine Bl (T.item (CI X (x::z::fv) scope a.heap.objs.size a (upd H s.heap.objs.size (.lst [])) d) rfl rfl rfl hc i [] s5 _ H5 _ I5 (f P) O go) fun r s6 ⟨u,hr,h6⟩=>?_
   subst hr
   refine Bl h6 fun _ s7 ⟨v,H7,I7,r7,y7,j,jh⟩=>?_
   have ji:=I7.pinned (f jh) (T.obj _ _ j)
   have back:∀{R:St} {B:Hp} {S:Shared},Inv (CI X (x::z::fv) scope a.heap.objs.size a (upd H s.heap.objs.size (.lst [])) d) ([]++Hd d s7.heap) R B S->G (i+1) S.heap/\∀b∈d,B b=none:=fun{R B S} F=>
    ⟨T.keep _ _ _ j fun b c o e=>(F.pin (b,o) (DC c e)).1,fun b c=>by
     obtain⟨o,e,_⟩:=T.obj _ _ j b c
     exact(F.pin (b,o) (DC c e)).2.1⟩
   obtain⟨ta,va,vb,rfl,v_,k⟩:=step v H7 y7
   refine Bl (hg _ s7 _ H7 (.ref ta) u (fun σ2 H2=>σ2=some va::some vb::CH σ fs/\H2=H7) ji r7 ⟨ta,_,rfl,v_,rfl,_,_,rfl,_,_,rfl,rfl,rfl,rfl⟩) fun _ s8 ⟨σ8,H8,I8,e8,jj⟩=>?_
   subst e8 jj
   refine Bl (vy _ _ _ _ _ s8 _ H8 _ I8 k) fun ok S ⟨B,F,q9⟩=>?_
   cases ok with
   |false=>
    obtain⟨m',l,w9⟩:=q9
    obtain⟨b1,b2⟩:=back F
    exact⟨m',l,i+1,some va,some vb,B,F.Dv,b1,b2,w9⟩
   |true=>
    refine Bl (he _ _ _ _ _ S _ B _ F q9) fun y s10 ⟨yv,U,jk,r10,ys,hD,hz,m',l,w10⟩=>?_
    refine Bl (Ds _ s10 _ U (.ref s.heap.objs.size) [yv] (.ref s.heap.objs.size) [y] (fun _ H'=>H'=upd U s.heap.objs.size (.lst (ys++[yv]))) jk rfl (.cons r10 .nil) ⟨_,ys,yv,rfl,rfl,hD,hz,rfl⟩) fun _ s11 ⟨_,vF,V,_,e11⟩=>?_
    subst e11
    obtain⟨b1,b2⟩:=back V
    exact⟨m',l,i+1,some va,some vb,_,V.Dv,b1,b2,w10⟩
 exact codeAny_compStart_list loop (T.self _ 0 _ _ _ N loop)
theorem VB (g:X.calm=true) (ok:Dp X scope x z fv fs) (i:PI X (.Tuple [.Name x px,.Name z pz] kt pt) iter wi) (b:∀C c d a,aK (CI X (x::z::fv) scope C c d a) ifs tc) (j:∀C c d a,PE (CI X (x::z::fv) scope C c d a) elt te)
  (k:∀x,foldedSetIterable iter X.env x=pure x:=by intro _;rfl):PE X (.ListComp elt [⟨.Tuple [.Name x px,.Name z pz] kt pt,iter,ifs,0⟩] scope pos) (au X.K wi tc te fs):=by
 intro pins s l H Q I h
 rw[eval_ListComp]
 refine wpAny_comprehension_free (use:=none) rfl k (DG (ok.cells I)) ok.kind ok.names (Bl (i pins s l H _ I h) fun B E n=>Bl n fun o F p=>?_)
 obtain⟨G,a,L,J,M,rfl,r,T,e,t,u⟩:=p
 exact SU g ok b j r T e t u fun D C N v w y ⟨m,A⟩ q=>⟨m,A,fun O f=>⟨.ref D,v,w.off y f,rfl,q⟩⟩
end
end L2
namespace PySem
section
variable{prog:Program} {w:World} {A:Around} {E:Value->Shared->Prop} {s:Shared}
theorem VC {jt c:Addr} {n:Nat} {its:Array Value} {y:Value} {Q:Value->Shared->Prop} (d:s.heap.IsTupleIter jt c n) (e:s.heap.IsTuple c its) (j:its[n]?=some y)
  (k:∀f,f.IsTupleIter jt c (n+1)->Heap.SameBut jt s.heap f->Q y {s with heap:=f}):wpAny (model prog w) A (Builtin.SmallTypes.nextOf (.ref jt)) Q E s:=by
 obtain⟨l,b,g,a⟩:=id d;obtain⟨m,h,_,o,i⟩:=e;unfold Builtin.SmallTypes.nextOf;refine wpAny_bind (wpAny_callSpecial?_slot (name:=Str.ofString "__next__") d.typeIs F.slot_tuple_iterator_next (wpAny_call_entry F.slot_tuple_iterator_next d.typeIs F.entry_tuple_iterator_next ?_ (F.args_tuple_iterator_next_1 _)));show wpAny _ _ (field (.ref jt) 0>>=_) _ _ s;refine wpAny_bind (wpAny_field b a (x:=.ref c) rfl ?_);show wpAny _ _ (if(Value.ref c==Value.none)=true then _ else _) _ _ s;rw[if_neg (show¬((Value.ref c==Value.none)=true)from Bool.false_ne_true)];show wpAny _ _ (field (.ref jt) 1>>=_) _ _ s;refine wpAny_bind (wpAny_field b a (x:=.int n 0) rfl ?_);show wpAny _ _ (seqItems? (.ref c)>>=_) _ _ s;refine wpAny_bind (wpAny_seqItems h i ?_);simp only[Int.toNat_natCast,j];refine wpAny_bind (wpAny_setField b a (by simp) (wpAny_pure ⟨y,rfl,wpAny_pure (k _ ?_ (Heap.SameBut.update ..))⟩))
 exact⟨_,Heap.get?_update_self _ b (Obj.isFreed_of_fields (Obj.data_mapFields a _)),(Obj.cls_mapFields ..).trans g,by rw[Obj.data_mapFields a];simp[rawInt]⟩
theorem VD {jt d:Addr} {n:Nat} {its:Array Value} {Q:Value->Shared->Prop} (j:A.handled=none) (e:s.heap.IsTupleIter jt d n) (f:s.heap.IsTuple d its) (l:its[n]?=none)
  (k:∀g x,Heap.ExtBut jt s.heap g->(∃o,g.get? x=some o/\o.cls=.type "StopIteration")->E (.ref x) {s with heap:=g}):wpAny (model prog w) A (Builtin.SmallTypes.nextOf (.ref jt)) Q E s:=by
 obtain⟨q,b,p,c⟩:=id e;obtain⟨r,h,_,t,i⟩:=f;unfold Builtin.SmallTypes.nextOf;refine wpAny_bind (wpAny_callSpecial?_slot (name:=Str.ofString "__next__") e.typeIs F.slot_tuple_iterator_next (wpAny_call_entry F.slot_tuple_iterator_next e.typeIs F.entry_tuple_iterator_next ?_ (F.args_tuple_iterator_next_1 _)));show wpAny _ _ (field (.ref jt) 0>>=_) _ _ s;refine wpAny_bind (wpAny_field b c (x:=.ref d) rfl ?_);show wpAny _ _ (if(Value.ref d==Value.none)=true then _ else _) _ _ s;rw[if_neg (show¬((Value.ref d==Value.none)=true)from Bool.false_ne_true)];show wpAny _ _ (field (.ref jt) 1>>=_) _ _ s;refine wpAny_bind (wpAny_field b c (x:=.int n 0) rfl ?_);show wpAny _ _ (seqItems? (.ref d)>>=_) _ _ s;refine wpAny_bind (wpAny_seqItems h i ?_);simp only[Int.toNat_natCast,l];refine wpAny_bind (wpAny_rule (wpAny_bind (wpAny_setField b c (by simp) ?_)));show wpAny _ _ (newExc (.type "StopIteration") []>>=_) _ _ _;refine wpAny_bind ?_;simp only[newExc,newTuple];refine wpAny_bind (wpAny_newObj_type ?_ (by size_fits));refine wpAny_bind (m:=firstArgMember _ _) (wpAny_of_eq (a:=Value.none) (by first|rfl|(simp only[firstArgMember];rfl)) ?_);refine wpAny_newObj_type ?_ (by size_fits);simp only[raiseNew];refine wpAny_bind (wpAny_handled ?_);(first|rw[show A.in1.handled=none from j]|rw[j]);refine wpAny_bind (wpAny_pure (wpAny_throw ?_))
 exact k _ _ (((Heap.SameBut.update ..).extBut.push _).push _) ⟨_,Heap.get?_push_size _ rfl,rfl⟩
end
theorem VE {prog:Program} {w:World} {A:Around} (hh:A.handled=none) (jt tp:Addr) (ne:tp≠jt) (its:Array Value):
  Draws prog w A jt [jt,tp] its.size (fun n v=>its[n]?=some v) (fun n h=>h.IsTupleIter jt tp n/\h.IsTuple tp its)where
 live:=fun _ _ st=>let⟨o,ho,_⟩:=st.1;⟨o,ho⟩
 frame:=fun _ _ _ st kp=>⟨st.1.at fun o e=>kp jt (by simp) o e,let⟨o,ho,r⟩:=st.2;⟨o,kp tp (by simp) o ho,r⟩⟩
 item:=fun n s Q E hn st k=>VC st.1 st.2 (y:=its[n]) (by simp[hn]) fun h1 a b=>k _ h1 s.toks (by simp[hn]) ⟨a,st.2.extBut b.extBut ne⟩ b
 done:=fun s Q E st k=>VD hh st.1 st.2 (by simp) k
theorem Pr (a:Addr) (its:Array Value) (n:Nat) (i:Option Addr) (j:Array (Option Value)):
  Meets (Builtin.«enumerate.__new__» ⟨[.type "enumerate",.ref a],[]⟩) (fun _ R s=>s.heap.get? a=some {cls:=.type "tuple",dict:=i,data:=.seq its n,slots:=j}/\
   R (.ok (.ret (.ref (s.heap.push {cls:=.type "tuple_iterator",data:=.fields #[.ref a,.int 0 0]}).objs.size)))
    {s with heap:=(s.heap.push {cls:=.type "tuple_iterator",data:=.fields #[.ref a,.int 0 0]}).push {cls:=.type "enumerate",data:=.fields #[.none,.bool false,.ref s.heap.objs.size,rawInt 0,.none,.none]}}):=
 .of_wp fun prog w A R s h=>by
  obtain⟨k,g,d,l,os⟩:=s;obtain⟨b,h⟩:=h;have e:=sub_enumerate
  have f:Heap.IsTuple (Shared.heap ⟨k,g,d,l,os⟩) a its:=⟨_,b,rfl,n,rfl⟩
  wp_walk using AutoSeq1.wpAny_loadPart' b
  refine wpAny_stack_any fun st=>wpAny_pure ?_
  split
  ·rename_i c _ _ _ _ _
   cases(c==Value.type "enumerate")<;>(wp_walk using AutoSeq1.wpAny_loadPart' b,wpAny_pyIter_tuple f;exact⟨_,rfl,h⟩)
  ·wp_walk using AutoSeq1.wpAny_loadPart' b,wpAny_pyIter_tuple f
   exact⟨_,rfl,h⟩
theorem SV {prog:Program} {w:World} {A:Around} {E:Value->Shared->Prop} {s:Shared} {d:Addr} {its:Array Value} {Q:Value->Shared->Prop} (l:s.heap.IsTuple d its)
  (h:∀e,IsEnum e (s.heap.objs.size+1) s.heap.objs.size 0 .none->e.IsTupleIter s.heap.objs.size d 0->e.objs.size=s.heap.objs.size+2->
   (∀b o,s.heap.get? b=some o->e.get? b=some o)->Q (.ref (s.heap.objs.size+1)) {s with heap:=e}):wpAny (model prog w) A (call (.type "enumerate") [.ref d]) Q E s:=by
 obtain⟨⟨c,m,p,q⟩,r,g,n,i⟩:=l
 replace g:c=.type "tuple":=g
 replace i:p=.seq its n:=i
 subst g i
 refine callType_new F.called_enumerate (by decide) (F.typeCall_enumerate_1 _) (F.newCall_enumerate_1 _) (fun j=>F.args_object_init_2 j _) F.entry_enumerate_new (Pr d its n m q) ⟨r,?_⟩
 obtain⟨a,f⟩:∃a,a=s.heap.push {cls:=.type "tuple_iterator",data:=.fields #[.ref d,.int 0 0]}:=⟨_,rfl⟩
 have z1:a.objs.size=s.heap.objs.size+1:=by rw[f];exact Heap.size_push ..
 have t:a.get? s.heap.objs.size=some {cls:=.type "tuple_iterator",data:=.fields #[.ref d,.int 0 0]}:=by rw[f];exact Heap.get?_push_size _ rfl
 have k1:∀b o,s.heap.get? b=some o->a.get? b=some o:=fun b o x=>by rw[f];exact Heap.get?_push_of_some _ x
 rw[<-f,z1]
 have k:IsEnum (a.push {cls:=.type "enumerate",data:=.fields #[.none,.bool false,.ref s.heap.objs.size,rawInt 0,.none,.none]}) (s.heap.objs.size+1) s.heap.objs.size 0 .none:=by
  have:=Heap.get?_push_size a (o:={cls:=.type "enumerate",data:=.fields #[.none,.bool false,.ref s.heap.objs.size,rawInt 0,.none,.none]}) rfl
  rw[z1]at this
  exact this
 exact⟨⟨_,k,rfl⟩,h _ k ⟨_,Heap.get?_push_of_some _ t,rfl,rfl⟩ (by rw[Heap.size_push,z1]) fun b o x=>Heap.get?_push_of_some _ (k1 b o x)⟩
end PySem
namespace L2
open PySem PySem.Spec PyProof.Rows
theorem Inv.Qn {X:Cx} {pins:List (Addr×Obj)} {σ:St} {H:Hp} {s:Shared} {h':Heap} {t':Nat} {it jt:Addr} (I:Inv X pins σ H s) (k:∀b o,b≠it->b≠jt->s.heap.get? b=some o->h'.get? b=some o) (f:EC X pins H it) (g:EC X pins H jt):Inv X pins σ H {s with heap:=h',toks:=t'}:=by
 obtain⟨p,j,J,t,w,x⟩:=f
 obtain⟨y,l,K,A,B,C⟩:=g
 have d:∀b u,H b=some u->b≠it/\b≠jt:=fun b u e=>⟨(fun z=>by rw[z,p]at e;cases e),(fun z=>by rw[z,y]at e;cases e)⟩
 have h:∀b o,b∉[it,jt]->s.heap.get? b=some o->h'.get? b=some o:=fun b o a e=>k b o (fun z=>a (by simp[z])) (fun z=>a (by simp[z])) e
 refine I.step (g':=s.gens) (d':=s.drawn) (ch:=[it,jt]) (fun b i=>?_) (fun b o _ _ a e _=>h b o a e) (fun b o _ _ a e _=>⟨o.slots,h b o a e⟩) (fun _ _ _ _ n=>n)
  (fun b o a e=>⟨o,h b o a e⟩) (fun _ _ e=>e) (fun _ _ _ e=>e) (fun b L e=>⟨#[],by rw[e];simp⟩) (fun m D=>?_) (fun b u e=>?_) I.bare
 ·rcases List.mem_cons.mp i with rfl|i
  ·exact⟨t,j,w,x⟩
  ·rw[List.mem_singleton.mp i];exact⟨A,l,B,C⟩
 ·obtain⟨o,E,F,G,r⟩:=D
  exact⟨o,E,F,k _ o (Ne.symm j) (Ne.symm l) G,r⟩
 ·refine(I.BV b u e).Kl (fun c v a q=>?_) (fun _ q=>q) fun _ _ q=>q
  have:c≠it/\c≠jt:=by
   rcases a with z|z
   ·rw[z];exact d b u e
   ·exact d c _ z
  exact k c v this.1 this.2 q
def kI (K:AAE) (a:Addr):It:=
 ⟨fun i H=>∃b x,Ap K H a b/\b[i]?=some x,fun i H v c=>∃T x,(∀b,Ap K H a b->b[i]?=some x)/\v=.ref T/\H T=none/\c=upd H T (.tup [.int (i:Int),x]),fun i H=>∃b,Ap K H a b/\b.length=i⟩
theorem SW {P:Program} {w:World} {K:AAE} {es:List Expr} {kt:Nat} {pt:Pos} (a e it:Addr) (ne:e≠it):Turn P w K (.Tuple es kt pt) (kI K a) [e,it] e (fun i h=>(∃old,IsEnum h e it (i:Nat) old)/\h.IsTupleIter it a i)where
 mem:=by simp
 obj:=fun i h st b hb=>by
  rcases List.mem_cons.mp hb with rfl|hb
  ·obtain⟨⟨old,x⟩,_⟩:=st
   exact⟨_,x,fun v z=>by cases z⟩
  ·rw[List.mem_singleton.mp hb]
   obtain⟨_,o,x,_,d⟩:=st
   exact⟨o,x,fun v z=>by rw[d]at z;cases z⟩
 keep:=fun i h h' st k=>⟨let⟨old,x⟩:=st.1;⟨old,k e (by simp) _ x⟩,st.2.at fun o x=>k it (by simp) o x⟩
 item:=by
  intro X hP hw hK hc i pins s σ H E I hf st hg
  subst hP hw hK
  obtain⟨xs,x,hq,hx⟩:=hg
  obtain⟨its,rv,p,hz⟩:=I.tuple hq
  obtain⟨u,hu,ru⟩:=rv.get hx
  obtain⟨⟨old,he⟩,hit⟩:=st
  have ht:s.heap.IsTuple a its.toArray:=p
  have av:a≠it:=fun z=>by
   obtain⟨o,h1,h2,_⟩:=ht
   obtain⟨o',g1,g2,_⟩:=hit
   rw[z,g1]at h1
   cases h1
   rw[g2]at h2
   exact absurd (Value.type.inj h2) (by decide)
  have kJ:a≠e:=fun z=>by
   obtain⟨o,h1,h2,_⟩:=ht
   rw[z,he]at h1
   cases h1
   exact absurd (Value.type.inj h2) (by decide)
  have kK:i<its.toArray.size:=by
   have:=(AAB hu).1
   simpa using this
  refine wpAny_pyNext_enum_itemD (VE (A:=X.A.in1) (I.ok.hd hc) it a av its.toArray) he ⟨hit,ht⟩ kK ne (by simp[ne,Ne.symm kJ]) fun y h1 tk hy ho fB hT hsz hk=>?_
  have ey:y=u:=by
   have aw:its.toArray[i]?=some y:=hy
   rw[List.getElem?_toArray]at aw
   rw[hu]at aw
   exact(AAC aw).symm
  subst ey
  refine⟨_,rfl,wpAny_letOwnedTupleGo_enum ho fun h2 kL S'=>?_⟩
  have le:e<s.heap.objs.size:=Heap.lt_size he
  have li:it<s.heap.objs.size:=by obtain⟨o,g1,_⟩:=hit;exact Heap.lt_size g1
  have nT:∀b∈[e,it],b≠s.heap.objs.size:=fun b hb=>by
   rcases List.mem_cons.mp hb with rfl|hb
   ·exact Nat.ne_of_lt le
   ·rw[List.mem_singleton.mp hb];exact Nat.ne_of_lt li
  have I1:Inv X pins σ (upd H s.heap.objs.size (.tup [.int (i:Int),x])) {s with heap:=s.heap.push {cls:=.type "tuple",data:=.seq #[.int i tk,y]},toks:=tk+1}:=
   I.laid (fun b o q=>Heap.get?_push_of_some _ q) (Nat.le_refl _) ⟨Aq,[.int i tk,y],.cons ⟨tk,rfl⟩ (.cons ru .nil),⟨_,Heap.get?_push_size _ rfl,rfl,_,rfl⟩⟩
  have ff:∀b∈[e,it],EC X pins (upd H s.heap.objs.size (.tup [.int (i:Int),x])) b:=fun b hb=>⟨by rw[AN (nT b hb)];exact(hf b hb).1,(hf b hb).2⟩
  have I2:=Inv.Qn (h':=h2) (t':=tk+1) (it:=e) (jt:=it) I1 (fun b o b1 b2 q=>by
   refine(S'.2 b b1).trans ?_
   by_cases hb:b=s.heap.objs.size
   ·subst hb
    have q:(s.heap.push {cls:=.type "tuple",data:=.seq #[.int i tk,y]}).get? s.heap.objs.size=some o:=q
    rw[Heap.get?_push_size _ rfl]at q
    rw[hT]
    exact q
   ·refine hk b o b1 b2 ?_
    have q:(s.heap.push {cls:=.type "tuple",data:=.seq #[.int i tk,y]}).get? b=some o:=q
    rwa [Heap.get?_push_ne _ _ _ hb]at q) (ff e (by simp)) (ff it (by simp))
  refine⟨.ref s.heap.objs.size,_,I2,rfl,⟨_,x,(fun ys hy=>by rw[I.Kx hy hq];exact hx),rfl,I.fresh,rfl⟩,⟨⟨y,by simpa using kL⟩,fB.1.extBut S'.extBut (Ne.symm ne)⟩,fun b hb=>(ff b hb).1⟩
 done:=by
  intro X hP hw hK hc i pins s σ H E I hf st hg
  subst hP hw hK
  obtain⟨xs,hq,hx⟩:=hg
  obtain⟨its,rv,p,hz⟩:=I.tuple hq
  obtain⟨⟨old,he⟩,hit⟩:=st
  have ht:s.heap.IsTuple a its.toArray:=p
  have av:a≠it:=fun z=>by
   obtain⟨o,h1,h2,_⟩:=ht
   obtain⟨o',g1,g2,_⟩:=hit
   rw[z,g1]at h1
   cases h1
   rw[g2]at h2
   exact absurd (Value.type.inj h2) (by decide)
  obtain⟨f0,f1,f2,f3,f4,f5⟩:=hf it (by simp)
  have hl:=rv.length
  have en:i=its.toArray.size:=by simp;lia
  exact wpAny_pyNext_enum_endD (VE (A:=X.A.in1) (I.ok.hd hc) it a av its.toArray) he (by rw[<-en];exact⟨hit,ht⟩) fun h' eb=>⟨rfl,I.turned (t':=s.toks) (fun b o hb q=>eb b o hb q) f0 f1 f3 f4 f5⟩
 self:=fun _ _ _ _ _ st h=>let⟨_,x⟩:=st.1;wpAny_pyIter_enum x h
section
variable{X:Cx} {es:List Expr} {kt:Nat} {pt:Pos}
def fC (K:AAE) (c:TA):TI:=fun d H R=>c d H fun e b=>∃a f,e=[.ref a]/\Ap K b a f/\R (kI K a) b
theorem Ic:bootBuiltins "enumerate"=some (.type "enumerate"):=by decide+kernel
theorem Xm {x:Str} {p pos:Pos} {e:Expr} {k:TA} (m:Gl X x) (n:X.mg x=none) (o:bootBuiltins x=some (.type "enumerate")) (r:PA X [e] k) (t:x≠"__name__":=by decide) (f:(x==("__debug__":Str))=false:=by decide)
  (v:starEach [e] X.env=(false,eval e X.env)::starEach [] X.env:=by rfl) (g:(backTo pos (starEach [] X.env)).any (·.1)=false:=by rfl):PI X (.Tuple es kt pt) (.Call (.Name x p) [e] [] pos) (fC X.K k):=by
 intro pins s w H R I h
 refine wpAny_Call_Name_kw (FN I m n o ?_ t f)
 refine PyProof.Rows.callWith_type1 (Bl (r pos pins s w H _ I h) fun J c y=>y.elim fun L z d A B=>?_) v g
 obtain⟨a,M,rfl,C,q⟩:=B
 obtain⟨u,rfl,D⟩:=vals1 A
 cases D
 obtain⟨i,N,E,O⟩:=d.tuple C
 refine SV (show c.heap.IsTuple a i.toArray from E) fun P l F sz G=>?_
 refine wpAny_pyIter_enum l ?_
 refine⟨c.heap.objs.size+1,[c.heap.objs.size+1,c.heap.objs.size],_,_,z,rfl,d.kept (t':=c.toks) G,SW a _ _ (Nat.succ_ne_self _),⟨⟨_,l⟩,F⟩,fun b j=>?_,q⟩
 have e:c.heap.objs.size<=b:=by
  rcases List.mem_cons.mp j with rfl|j
  ·exact Nat.le_succ _
  ·rw[List.mem_singleton.mp j];exact Nat.le_refl _
 exact d.NN e (d.BV.fresh e)
end
theorem SX {K:AAE} {a:Addr} {xs:List V} {h:TE} {fs:List Nat} {σ:St} {H:Hp} {Q:VK} (Ok:Nat->V->Prop) (w:Ap K H a xs) (J:xs.length<=sizeLine)
  (A:∀(i:Nat) (x:V) (b:Hp) (R:VK),xs[i]?=some x->AG H b->(∀y k,AG b k->Ok i y->R y k)->h (some (.int (i:Int))::some x::CH σ fs) b R)
  (B:∀D b ys,H D=none->AG H b->b D=some (.lst ys)->ys.length=xs.length->(∀(i:Nat) y,ys[i]?=some y->Ok i y)->Q (.ref D) b):
  Mj K (kI K a) To h fs σ H Q:=by
 intro D l
 refine⟨fun i m b=>m=xs.length-i/\i<=xs.length/\AG H b/\∃ys,b D=some (.lst ys)/\ys.length=i/\∀(j:Nat) y,ys[j]?=some y->Ok j y,⟨xs.length,by simp,Nat.zero_le _,AG.new l,[],AE,rfl,fun j y z=>by simp at z⟩,?_⟩
 rintro i m b ⟨rfl,L,g,ys,s,n,t⟩
 have c:=g.tup w
 by_cases d:i<xs.length
 ·have C:xs[i]?=some xs[i]:=AAA d
  refine .inr ⟨⟨xs,_,c,C⟩,fun v k E=>?_⟩
  obtain⟨T,x,p,rfl,F,rfl⟩:=E
  have G:=p xs c
  have q:=AG.new (o:=.tup [.int (i:Int),x]) F
  refine⟨T,.int (i:Int),x,rfl,Ap.of AE,?_⟩
  show h _ _ _
  refine A i x _ _ G (g.trans q) fun y M u r=>⟨ys,u _ _ (q _ _ s),by lia,xs.length-(i+1),by lia,rfl,d,((g.trans q).trans u).put l,ys++[y],AE,by simp[n],fun j z f=>?_⟩
  by_cases I:j<ys.length
  ·rw[List.getElem?_append_left I]at f
   exact t j z f
  ·have e:j=i:=by
    have:=(AAB f).1
    simp only[List.length_append,List.length_singleton]at this
    lia
   subst e
   rw[List.getElem?_append_right (by lia),n,Nat.sub_self]at f
   cases f
   exact r
 ·have e:i=xs.length:=by lia
  subst e
  exact .inl ⟨⟨xs,c,rfl⟩,B D b ys l g s n t⟩
def EJ (xs:List V):Option Int:=match xs.getLast? with
 |some (.int j)=>some j
 |_=>none
def Cy (a:List V) (i:Int) (w:Str) (xs:List V):Int:=match EJ xs with
 |some j=>if FA (.str w) [.str "take",.str "move"]=true/\Bz xs.dropLast a=true/\j<i then i-1 else i
 |none=>i
def EK (a:List V) (i:Int) (w:Str) (xs zs:List V) (ah:Bool):Int:=match EJ (GW w xs zs)with
 |some j=>if FA (.str w) Dh=true/\Bz (GW w xs zs).dropLast a=true/\(j<i∨(ah=true/\j=i))then 1 else 0
 |none=>0
def Ml:Sp:=fun f H Q _=>∃(h:Addr) (a:List V) (i:Int) (r:V) (w:Str) (b c:List V) (p:Addr) (d:Bool),f=[.ref h,.int i,r,.bl d]/\H h=some (.tup a)/\steps a/\Rw H r w b c p/\∀e,AG H e->Q (.int (Cy a i w b+EK a i w b c d)) e
def Mm:Sp:=fun e H Q _=>∃(h:Addr) (a:List V) (z r:V) (w:Str) (b c:List V) (p:Addr),e=[.ref h,z,r]/\H h=some (.tup a)/\steps a/\Dc.BB z/\Rw H r w b c p/\∀d,AG H d->Q (match z with| .int i=>.int (Cy a i w b+EK a i w b c true)|_=>z) d
theorem La {l:List V} {j:Int} (h:l.getLast?=some (.int j)):EJ l=some j:=by unfold EJ;rw[h]
theorem Lb {l:List V} {k:Str} (h:l.getLast?=some (.str k)):EJ l=none:=by unfold EJ;rw[h]
theorem ay {a xs zs:List V} {i:Int} {w:Str} {ah:Bool} (h:¬FA (.str w) Dh=true):EK a i w xs zs ah=0:=by
 unfold EK
 split
 ·exact if_neg fun z=>h z.1
 ·rfl
theorem Xn {a xs zs:List V} {i:Int} {w:Str} {ah:Bool} (h:Bz (GW w xs zs).dropLast a=false):EK a i w xs zs ah=0:=by
 unfold EK
 split
 ·exact if_neg fun z=>by rw[h]at z;exact Bool.false_ne_true z.2.1
 ·rfl
theorem VF {a xs zs:List V} {i:Int} {w:Str} {ah:Bool} {k:Str} (h:(GW w xs zs).getLast?=some (.str k)):EK a i w xs zs ah=0:=by
 unfold EK
 rw[Lb h]
theorem VG {a xs zs:List V} {i j:Int} {w:Str} {ah:Bool} (h:(GW w xs zs).getLast?=some (.int j)) (b:FA (.str w) Dh=true) (c:Bz (GW w xs zs).dropLast a=true):EK a i w xs zs ah=if j<i∨(ah=true/\j=i)then 1 else 0:=by
 unfold EK
 rw[La h]
 simp only[b,c,true_and]
theorem az {a xs:List V} {i:Int} {w:Str} (h:¬FA (.str w) [.str "take",.str "move"]=true):Cy a i w xs=i:=by
 unfold Cy
 split
 ·exact if_neg fun z=>h z.1
 ·rfl
theorem Xo {a xs:List V} {i:Int} {w:Str} (h:Bz xs.dropLast a=false):Cy a i w xs=i:=by
 unfold Cy
 split
 ·exact if_neg fun z=>by rw[h]at z;exact Bool.false_ne_true z.2.1
 ·rfl
theorem VH {a xs:List V} {i:Int} {w k:Str} (h:xs.getLast?=some (.str k)):Cy a i w xs=i:=by
 unfold Cy
 rw[Lb h]
theorem less_int {a xs:List V} {i j:Int} {w:Str} (h:xs.getLast?=some (.int j)) (b:FA (.str w) [.str "take",.str "move"]=true) (c:Bz xs.dropLast a=true):Cy a i w xs=if j<i then i-1 else i:=by
 unfold Cy
 rw[La h]
 simp only[b,c,true_and]
def EE:List V->Int->Int
 |[.int a],j=>if a<j then j-1 else j
 |_,j=>j
def EF:List V->Int->Int
 |[.int b],j=>if b<=j then 1 else 0
 |_,_=>0
def BK:List V->V->List V
 |x::xs,j=>if x=j then xs else[]
 |[],_=>[]
def BF (xs zs:List V):V->V
 | .int j=>.int (EE xs j+EF zs j)
 |j=>j
def Ce:List V->List V->List V->List V
 |_,_,[]=>[]
 |xs,zs,j::r=>BF xs zs j::Ce (BK xs j) (BK zs j) r
def JL:List V->List V->List V
 |z::zs,[x]=>match z,x with
  | .int b,.int a=>if a<b∨(b=a/\zs≠[])then .int (b+1)::zs else .int b::zs
  |_,_=>z::zs
 |z::zs,x::xs=>if z=x then z::JL zs xs else z::zs
 |zs,_=>zs
theorem OR (j:Int):EE [] j=j:=rfl
theorem OS (j:Int):EF [] j=0:=rfl
theorem VI (x y:V) (r:List V) (j:Int):EE (x::y::r) j=j:=by cases x<;>rfl
theorem VJ (x y:V) (r:List V) (j:Int):EF (x::y::r) j=0:=by cases x<;>rfl
theorem CO (j:V):BF [] [] j=j:=by cases j<;>simp[BF,EE,EF]
theorem Bw:∀q:List V,Ce [] [] q=q
 |[]=>rfl
 |j::r=>by
  show BF [] [] j::Ce [] [] r=_
  rw[CO,Bw r]
theorem DS (x j:V):BK [x] j=[]:=by simp[BK]
theorem JM (x y:V) (j:V) (r:List V):Ce [x] [y] (j::r)=BF [x] [y] j::r:=by
 show BF _ _ j::Ce (BK [x] j) (BK [y] j) r=_
 rw[DS,DS,Bw]
theorem Fu {x y:V} {r zs:List V} {j:V}:BF (x::y::r) zs j=BF [] zs j:=by
 cases j<;>simp[BF,VI,OR]
theorem DX {x y:V} {r xs:List V} {j:V}:BF xs (x::y::r) j=BF xs [] j:=by
 cases j<;>simp[BF,VJ,OS]
theorem ZH:∀(q xs zs:List V),steps q->steps xs->steps zs->¬xs<+:q->Ce xs (JL zs xs) q=Ce [] zs (Ce xs [] q)
 |[],_,_,_,_,_,_=>rfl
 |j::r,[],_,_,_,_,h=>absurd (List.nil_prefix) h
 |j::r,[a],[],_,_,_,_=>by
  show Ce [a] [] (j::r)=Ce [] [] (Ce [a] [] (j::r))
  rw[Bw]
 |j::r,[a],[b],D,E,sz,h=>by
  have L:a≠j:=fun e=>h (by rw[e];exact⟨r,rfl⟩)
  have M:=D j (by simp)
  have N:=E a (by simp)
  have O:=sz b (by simp)
  have F:Ce [a] [] (j::r)=BF [a] [] j::r:=by
   show BF _ _ j::Ce (BK [a] j) (BK [] j) r=_
   rw[DS];exact congrArg _ (Bw r)
  have o:∀j,Ce [] [b] (j::r)=BF [] [b] j::r:=fun j=>by
   show BF _ _ j::Ce (BK [] j) (BK [b] j) r=_
   rw[DS];exact congrArg _ (Bw r)
  rw[F,o]
  rcases N with⟨i,rfl⟩|⟨k,rfl,_⟩<;>rcases O with⟨l,rfl⟩|⟨k2,rfl,_⟩<;>rcases M with⟨m,rfl⟩|⟨k3,rfl,_⟩
  all_goals simp only[JL,JM,BF,EE,EF,Bw,ne_eq,not_true_eq_false,and_false,or_false,Int.add_zero]
  ·have P:(i:Int)≠m:=fun e=>L (by rw[e])
   by_cases c:(i:Int)<l
   ·rw[if_pos c,JM]
    simp only[BF,EE,EF]
    congr 1
    simp only[Int.add_zero,V.int.injEq]
    split<;>split<;>(try split)<;>lia
   ·rw[if_neg c,JM]
    simp only[BF,EE,EF]
    congr 1
    simp only[Int.add_zero,V.int.injEq]
    split<;>split<;>(try split)<;>lia
  ·split<;>rw[JM]<;>rfl
 |j::r,[a],b::n::zs,D,E,sz,h=>by
  have L:a≠j:=fun e=>h (by rw[e];exact⟨r,rfl⟩)
  have M:=D j (by simp)
  have N:=E a (by simp)
  have O:=sz b (by simp)
  have F:Ce [a] [] (j::r)=BF [a] [] j::r:=by
   show BF _ _ j::Ce (BK [a] j) (BK [] j) r=_
   rw[DS];exact congrArg _ (Bw r)
  have o:∀(p:V),Ce [a] (p::n::zs) (j::r)=BF [a] [] j::Ce [] (BK (p::n::zs) j) r:=fun p=>by
   show BF _ _ j::Ce (BK [a] j) _ r=_
   rw[DS,DX]
  have Q:∀(A:V),Ce [] (b::n::zs) (A::r)=A::Ce [] (BK (b::n::zs) A) r:=fun A=>by
   show BF _ _ A::Ce (BK [] A) _ r=_
   rw[DX,CO];rfl
  rw[F,Q]
  have f:∀p:V,JL (b::n::zs) [a]=p::n::zs->(p=j↔b=BF [a] [] j)->Ce [a] (JL (b::n::zs) [a]) (j::r)=BF [a] [] j::Ce [] (BK (b::n::zs) (BF [a] [] j)) r:=fun p e G=>by
   rw[e,o]
   congr 2
   simp only[BK]
   by_cases c:p=j
   ·rw[if_pos c,if_pos (G.mp c)]
   ·rw[if_neg c,if_neg fun z=>c (G.mpr z)]
  rcases N with⟨i,rfl⟩|⟨k,rfl,_⟩<;>rcases O with⟨l,rfl⟩|⟨k2,rfl,_⟩<;>rcases M with⟨m,rfl⟩|⟨k3,rfl,_⟩
  ·have P:(i:Int)≠m:=fun e=>L (by rw[e])
   by_cases c:(i:Int)<l∨((l:Int)=i/\n::zs≠[])
   ·refine f (.int ((l:Int)+1)) (by simp only[JL];rw[if_pos c]) ?_
    have S:(i:Int)<=l:=by rcases c with c|c<;>lia
    simp only[BF,EE,EF,V.int.injEq]
    split<;>constructor<;>intro z<;>lia
   ·refine f (.int (l:Int)) (by simp only[JL];rw[if_neg c]) ?_
    have S:(l:Int)<i:=by
     have:¬(i:Int)<l:=fun z=>c (.inl z)
     have:(l:Int)≠i:=fun z=>c (.inr ⟨z,by simp⟩)
     lia
    simp only[BF,EE,EF,V.int.injEq]
    split<;>constructor<;>intro z<;>lia
  ·by_cases c:(i:Int)<l∨((l:Int)=i/\n::zs≠[])
   ·exact f _ (by simp only[JL];rw[if_pos c]) (by simp[BF])
   ·exact f _ (by simp only[JL];rw[if_neg c]) (by simp[BF])
  ·exact f (.str k2) rfl (by simp[BF])
  ·exact f (.str k2) rfl (by simp[BF])
  ·exact f _ rfl (by simp[BF,EE,EF])
  ·exact f _ rfl (by simp[BF,EE,EF])
  ·exact f _ rfl (by simp[BF,EE,EF])
  ·exact f _ rfl (by simp[BF,EE,EF])
 |j::r,x::y::xs,[],_,_,_,_=>by
  show Ce (x::y::xs) [] (j::r)=Ce [] [] (Ce (x::y::xs) [] (j::r))
  rw[Bw]
 |j::r,x::y::xs,z::zs,D,E,sz,h=>by
  have T:steps r:=fun v H=>D v (List.mem_cons_of_mem _ H)
  have U:steps (y::xs):=fun v H=>E v (List.mem_cons_of_mem _ H)
  have R:steps zs:=fun v H=>sz v (List.mem_cons_of_mem _ H)
  have W:JL (z::zs) (x::y::xs)=if z=x then z::JL zs (y::xs)else z::zs:=by cases z<;>rfl
  have F:Ce (x::y::xs) [] (j::r)=j::Ce (BK (x::y::xs) j) [] r:=by
   show BF _ _ j::_=_
   rw[Fu,CO];rfl
  have o:∀d,Ce (x::y::xs) d (j::r)=BF [] d j::Ce (BK (x::y::xs) j) (BK d j) r:=fun d=>by
   show BF _ _ j::_=_
   rw[Fu]
  have Q:∀d t,Ce [] d (j::t)=BF [] d j::Ce [] (BK d j) t:=fun d t=>rfl
  have I:∀(v:V) (d g:List V),(d=[]↔g=[])->BF [] (v::d) j=BF [] (v::g) j:=fun v d g G=>by
   cases d with
   |nil=>rw[G.mp rfl]
   |cons u d=>
    cases g with
    |nil=>exact absurd (G.mpr rfl) (by simp)
    |cons Y g=>rw[DX,DX]
  have J:JL zs (y::xs)=[]↔zs=[]:=by
   cases zs with
   |nil=>cases xs<;>simp[JL]
   |cons c Z=>
    constructor
    ·intro K
     cases xs with
     |nil=>
      exfalso
      revert K
      cases c<;>cases y<;>simp only[JL]<;>(try split)<;>simp
     |cons y2 xs=>
      exfalso
      revert K
      simp only[JL]
      split<;>simp
    ·intro K;cases K
  rw[F,Q,W]
  by_cases B:x=j
  ·have X:¬(y::xs)<+:r:=fun⟨t,e⟩=>h ⟨t,by rw[<-e,B];rfl⟩
   have C:BK (x::y::xs) j=y::xs:=by simp only[BK];rw[if_pos B]
   by_cases s:z=x
   ·rw[if_pos s,o,C]
    have w:∀d,BK (z::d) j=d:=fun d=>by simp only[BK];rw[if_pos (s.trans B)]
    rw[w,w,ZH r (y::xs) zs T U R X,I z _ zs J]
   ·rw[if_neg s,o,C]
    have w:BK (z::zs) j=[]:=by simp only[BK];rw[if_neg fun e=>s (e.trans B.symm)]
    rw[w,Bw]
  ·have C:BK (x::y::xs) j=[]:=by simp only[BK];rw[if_neg B]
   rw[C,Bw]
   by_cases s:z=x
   ·rw[if_pos s,o,C]
    have w:∀d,BK (z::d) j=[]:=fun d=>by simp only[BK];rw[if_neg fun e=>B (s.symm.trans e)]
    rw[w,w,I z _ zs J]
   ·rw[if_neg s,o,C]
namespace Dc
theorem Ac {d e:Dc} {z:V} {r:List V}:d.sub (z::r)=some e↔∃x,d.sub [z]=some x/\x.sub r=some e:=by
 constructor
 ·intro h
  have:d.sub ([z]++r)=some e:=h
  obtain⟨x,a,b⟩:=Rm this
  exact⟨x,a,b⟩
 ·rintro⟨x,a,b⟩
  have:=sub_snoc a r
  rw[b]at this
  exact this
theorem Cf {a:Addr} {xs:List Dc} {y:V} {x:Dc}:(row a xs).sub [y]=some x↔∃i:Nat,y=.int (i:Int)/\xs[i]?=some x:=by
 constructor
 ·intro h
  rcases sub_one h with⟨c,b,i,e,d,f⟩|⟨c,g,b,k,e,_,_⟩
  ·cases e;exact⟨i,d,f⟩
  ·cases e
 ·rintro⟨i,rfl,h⟩
  rw[Ew h,As]
theorem B' {a:Addr} {ks:List Str} {xs:List Dc} (l:ks.length=xs.length) (n:ks.Nodup) {y:V} {x:Dc}:(tab a ks xs).sub [y]=some x↔∃(i:Nat) (k:Str),y=.str k/\ks[i]?=some k/\xs[i]?=some x:=by
 constructor
 ·intro h
  rcases sub_one h with⟨f,b,i,e,d,c⟩|⟨f,g,b,k,e,d,c⟩
  ·cases e
  ·cases e;exact⟨ix ks k,k,d,Dg (Aj c).1,CB l n c⟩
 ·rintro⟨i,k,rfl,j,m⟩
  rw[Ex (J_ ks xs i n j m),As]
theorem DT {ks:List Str} (n:ks.Nodup) {i j:Nat} {k:Str} (e:ks[i]?=some k) (f:ks[j]?=some k):i=j:=by
 obtain⟨l1,a⟩:=AAB e
 obtain⟨l2,b⟩:=AAB f
 have d:=List.pairwise_iff_getElem.mp n
 rcases Nat.lt_trichotomy i j with c|c|c
 ·exact absurd (a.trans b.symm) (d i j l1 l2 c)
 ·exact c
 ·exact absurd (b.trans a.symm) (d j i l2 l1 c)
theorem CU {b:Type} {l:List b} {i j:Nat} {x:b}:(l.eraseIdx i)[j]?=some x↔∃a,a≠i/\l[a]?=some x/\j=if i<a then a-1 else a:=by
 constructor
 ·intro h
  by_cases c:j<i
  ·rw[List.getElem?_eraseIdx_of_lt c]at h
   exact⟨j,by lia,h,by rw[if_neg (by lia)]⟩
  ·rw[List.getElem?_eraseIdx_of_ge (by lia)]at h
   exact⟨j+1,by lia,h,by rw[if_pos (by lia)];lia⟩
 ·rintro⟨a,d,h,rfl⟩
  by_cases c:i<a
  ·rw[if_pos c,List.getElem?_eraseIdx_of_ge (by lia)]
   have:a-1+1=a:=by lia
   rw[this];exact h
  ·rw[if_neg c,List.getElem?_eraseIdx_of_lt (by lia)];exact h
theorem Gj {b:Type} {l:List b} {i j:Nat} {v x:b} (d:i<=l.length):(l.take i++v::l.drop i)[j]?=some x↔(j=i/\x=v)∨∃a,l[a]?=some x/\j=if i<=a then a+1 else a:=by
 have lt:(l.take i).length=i:=by rw[List.length_take];lia
 constructor
 ·intro h
  by_cases c:j<i
  ·rw[List.getElem?_append_left (by lia),List.getElem?_take_of_lt c]at h
   exact .inr ⟨j,h,by rw[if_neg (by lia)]⟩
  ·rw[List.getElem?_append_right (by lia),lt]at h
   by_cases e:j=i
   ·subst e
    rw[Nat.sub_self,List.getElem?_cons_zero]at h
    exact .inl ⟨rfl,(AAC h).symm⟩
   ·have:j-i=(j-i-1)+1:=by lia
    rw[this,List.getElem?_cons_succ,List.getElem?_drop]at h
    exact .inr ⟨i+(j-i-1),h,by rw[if_pos (by lia)];lia⟩
 ·rintro(⟨rfl,rfl⟩|⟨a,h,rfl⟩)
  ·rw[List.getElem?_append_right (by lia),lt,Nat.sub_self,List.getElem?_cons_zero]
  ·by_cases c:i<=a
   ·rw[if_pos c,List.getElem?_append_right (by lia),lt]
    have:a+1-i=(a-i)+1:=by lia
    rw[this,List.getElem?_cons_succ,List.getElem?_drop]
    have:i+(a-i)=a:=by lia
    rw[this];exact h
   ·rw[if_neg c,List.getElem?_append_left (by lia),List.getElem?_take_of_lt (by lia)];exact h
theorem Qo {e u:Dc} {z:V} (w:e.Wf) (h:e.sub [z]=some u) {y:V} {x:Dc}:(B_ e z).sub [y]=some x↔∃d,d≠z/\e.sub [d]=some x/\y=BF [z] [] d:=by
 rcases sub_one h with⟨a,q,i,rfl,rfl,r⟩|⟨a,l,q,k,rfl,rfl,r⟩
 ·simp only[B_,Int.toNat_natCast,Cf]
  constructor
  ·rintro⟨j,rfl,v⟩
   obtain⟨b,f,g,rfl⟩:=CU.mp v
   refine⟨.int (b:Int),fun e=>f (by cases e;rfl),⟨b,rfl,g⟩,?_⟩
   simp only[BF,EE,EF,Int.add_zero]
   congr 1
   split<;>split<;>lia
  ·rintro⟨d,f,⟨b,rfl,g⟩,rfl⟩
   refine⟨if i<b then b-1 else b,?_,CU.mpr ⟨b,fun e=>f (by rw[e]),g,rfl⟩⟩
   simp only[BF,EE,EF,Int.add_zero]
   congr 1
   split<;>split<;>lia
 ·cases w with
  |tab n m H=>
   have A:=(Aj r).1
   have s:=Dg A
   have l2:(l.eraseIdx (ix l k)).length=(q.eraseIdx (ix l k)).length:=by rw[List.length_eraseIdx,List.length_eraseIdx,n]
   simp only[B_]
   rw[B' l2 (m.sublist (List.eraseIdx_sublist ..))]
   constructor
   ·rintro⟨j,k2,rfl,B,C⟩
    obtain⟨b,D,c,o⟩:=CU.mp B
    obtain⟨E,I,p,F⟩:=CU.mp C
    have G:b=E:=by
     rw[F]at o
     split at o<;>split at o<;>lia
    subst G
    exact⟨.str k2,fun e=>D (DT m c (by cases e;exact s)),(B' n m).mpr ⟨b,k2,rfl,c,p⟩,rfl⟩
   ·rintro⟨d,f,g,rfl⟩
    obtain⟨b,k2,rfl,c,p⟩:=(B' n m).mp g
    have t:b≠ix l k:=fun e=>f (by rw[e,s]at c;cases c;rfl)
    exact⟨_,k2,rfl,CU.mpr ⟨b,t,c,rfl⟩,CU.mpr ⟨b,t,p,rfl⟩⟩
theorem Mn {e v:Dc} {z:V} (w:e.Wf) (h:e.room z=true) {y:V} {x:Dc}:(CT e z v).sub [y]=some x↔(y=z/\x=v)∨∃o,e.sub [o]=some x/\y=BF [] [z] o:=by
 rcases DL h with⟨a,s,i,rfl,rfl,f⟩|⟨a,g,s,k,rfl,rfl,f⟩
 ·simp only[CT,Int.toNat_natCast,Cf]
  constructor
  ·rintro⟨j,rfl,q⟩
   rcases(Gj f).mp q with⟨rfl,rfl⟩|⟨d,l,rfl⟩
   ·exact .inl ⟨rfl,rfl⟩
   ·refine .inr ⟨.int (d:Int),⟨d,rfl,l⟩,?_⟩
    simp only[BF,EE,EF]
    congr 1
    split<;>split<;>lia
  ·rintro(⟨rfl,rfl⟩|⟨o,⟨d,rfl,l⟩,rfl⟩)
   ·exact⟨i,rfl,(Gj f).mpr (.inl ⟨rfl,rfl⟩)⟩
   ·refine⟨if i<=d then d+1 else d,?_,(Gj f).mpr (.inr ⟨d,l,rfl⟩)⟩
    simp only[BF,EE,EF]
    congr 1
    split<;>split<;>lia
 ·cases w with
  |tab m r E=>
   simp only[CT]
   have l2:(g++[k]).length=(s++[v]).length:=by simp[m]
   have A:(g++[k]).Nodup:=List.nodup_append.mpr ⟨r,by simp,fun a B b C e=>f (by rw[List.mem_singleton.mp C]at e;rw[<-e];exact B)⟩
   rw[B' l2 A]
   constructor
   ·rintro⟨j,k2,rfl,n,p⟩
    by_cases c:j<g.length
    ·rw[List.getElem?_append_left c]at n
     rw[List.getElem?_append_left (by lia)]at p
     exact .inr ⟨.str k2,(B' m r).mpr ⟨j,k2,rfl,n,p⟩,rfl⟩
    ·have q:=(AAB n).1
     rw[List.length_append,List.length_singleton]at q
     have D:j=g.length:=by lia
     subst D
     rw[List.getElem?_append_right (Nat.le_refl _),Nat.sub_self]at n
     rw[List.getElem?_append_right (by lia),m,Nat.sub_self]at p
     cases n;cases p
     exact .inl ⟨rfl,rfl⟩
   ·rintro(⟨rfl,rfl⟩|⟨o,l,rfl⟩)
    ·exact⟨g.length,k,rfl,by rw[List.getElem?_append_right (Nat.le_refl _),Nat.sub_self];rfl,by rw[List.getElem?_append_right (by lia),m,Nat.sub_self];rfl⟩
    ·obtain⟨d,k2,rfl,t,u⟩:=(B' m r).mp l
     exact⟨d,k2,rfl,by rw[List.getElem?_append_left (AAB t).1];exact t,by rw[List.getElem?_append_left (AAB u).1];exact u⟩
theorem HR {d t n:Dc} {z:V} {r:List V} (w:d.Wf) (h:d.sub [z]=some t) {y:V} {x:Dc}:(Aw d (z::r) n).sub [y]=some x↔(y=z/\x=Aw t r n)∨(y≠z/\d.sub [y]=some x):=by
 rcases sub_one h with⟨a,u,i,rfl,rfl,g⟩|⟨a,v,u,k,rfl,rfl,g⟩
 ·rw[Ca g,Cf,Cf]
  have l:=(AAB g).1
  constructor
  ·rintro⟨j,rfl,c⟩
   by_cases e:i=j
   ·subst e
    rw[List.getElem?_set_self l]at c
    exact .inl ⟨rfl,(AAC c).symm⟩
   ·rw[List.getElem?_set_ne e]at c
    exact .inr ⟨fun z=>e (by cases z;rfl),j,rfl,c⟩
  ·rintro(⟨rfl,rfl⟩|⟨q,j,rfl,c⟩)
   ·exact⟨i,rfl,List.getElem?_set_self l⟩
   ·exact⟨j,rfl,by rw[List.getElem?_set_ne fun e=>q (by rw[e])];exact c⟩
 ·cases w with
  |tab s o A=>
   have m:=CB s o g
   have p:=Dg (Aj g).1
   have l:=(AAB m).1
   rw[Cw m,B' s o,B' (by rw[List.length_set];exact s) o]
   constructor
   ·rintro⟨j,k2,rfl,b,f⟩
    by_cases e:ix v k=j
    ·subst e
     rw[List.getElem?_set_self l]at f
     rw[p]at b;cases b
     exact .inl ⟨rfl,(AAC f).symm⟩
    ·rw[List.getElem?_set_ne e]at f
     exact .inr ⟨fun z=>e (DT o p (by cases z;exact b)),j,k2,rfl,b,f⟩
   ·rintro(⟨rfl,rfl⟩|⟨q,j,k2,rfl,b,f⟩)
    ·exact⟨_,k,rfl,p,List.getElem?_set_self l⟩
    ·exact⟨j,k2,rfl,b,by rw[List.getElem?_set_ne fun e=>q (by rw[<-e,p]at b;cases b;rfl)];exact f⟩
theorem Ej {d x:Dc} {z:V} {v:V} (h:d.sub [z]=some x):d≠leaf v:=by
 rintro rfl
 rcases sub_one h with⟨a,b,i,e,_⟩|⟨a,c,b,k,e,_⟩<;>cases e
theorem OT {d x n:Dc} {z:V} {r:List V} {v:V} (h:d.sub [z]=some x):Aw d (z::r) n≠leaf v:=by
 rcases sub_one h with⟨a,b,i,rfl,rfl,_⟩|⟨a,c,b,k,rfl,rfl,_⟩<;>simp[Aw]
theorem IC {y:V}:∀{c:List V} {d e n:Dc} (w:d.Wf) (h:d.sub c=some e) {q:List V},(Aw d c n).sub q=some (leaf y)↔(∃r,q=c++r/\n.sub r=some (leaf y))∨(¬c<+:q/\d.sub q=some (leaf y)):=by
 intro c
 induction c with
 |nil=>
  intro d e n w h q
  have:Aw d [] n=n:=by cases d<;>rfl
  rw[this]
  constructor
  ·intro a;exact .inl ⟨q,rfl,a⟩
  ·rintro(⟨r,rfl,g⟩|⟨l,_⟩)
   ·exact g
   ·exact absurd List.nil_prefix l
 |cons z c m=>
  intro d e n w h q
  obtain⟨t,b,o⟩:=Ac.mp h
  cases q with
  |nil=>
   constructor
   ·intro a;rw[As]at a;exact absurd (AAC a) (OT b)
   ·rintro(⟨r,e,_⟩|⟨_,a⟩)
    ·cases e
    ·rw[As]at a;exact absurd (AAC a) (Ej b)
  |cons j q=>
   rw[Ac]
   constructor
   ·rintro⟨x,f,i⟩
    rcases(HR w b).mp f with⟨rfl,rfl⟩|⟨l,f⟩
    ·rcases(m (Ey w b) o).mp i with⟨r,rfl,g⟩|⟨p,a⟩
     ·exact .inl ⟨r,rfl,g⟩
     ·exact .inr ⟨fun k=>p (List.cons_prefix_cons.mp k).2,Ac.mpr ⟨t,b,a⟩⟩
    ·exact .inr ⟨fun k=>l (List.cons_prefix_cons.mp k).1.symm,Ac.mpr ⟨x,f,i⟩⟩
   ·rintro(⟨r,e,g⟩|⟨p,a⟩)
    ·cases e
     exact⟨_,(HR w b).mpr (.inl ⟨rfl,rfl⟩),(m (Ey w b) o).mpr (.inl ⟨r,rfl,g⟩)⟩
    ·obtain⟨x,f,i⟩:=Ac.mp a
     by_cases s:j=z
     ·subst s
      rw[b]at f;cases f
      exact⟨_,(HR w b).mpr (.inl ⟨rfl,rfl⟩),(m (Ey w b) o).mpr (.inr ⟨fun k=>p (List.cons_prefix_cons.mpr ⟨rfl,k⟩),i⟩)⟩
     ·exact⟨x,(HR w b).mpr (.inr ⟨s,f⟩),i⟩
theorem Mo {e b:Dc} {z v:V} (h:e.sub [z]=some b):B_ e z≠leaf v:=by
 rcases sub_one h with⟨a,c,i,rfl,rfl,_⟩|⟨a,d,c,k,rfl,rfl,_⟩<;>simp[B_]
theorem Mp {e n:Dc} {z v:V} (h:e.room z=true):CT e z n≠leaf v:=by
 rcases DL h with⟨a,b,i,rfl,rfl,_⟩|⟨a,c,b,k,rfl,rfl,_⟩<;>simp[CT]
theorem GF {e:Dc} {z v:V} (h:e.room z=true):e≠leaf v:=by
 rcases DL h with⟨a,b,i,rfl,rfl,_⟩|⟨a,c,b,k,rfl,rfl,_⟩<;>simp
theorem Lc {e l:Dc} {z y:V} (w:e.Wf) (h:e.sub [z]=some l) {r:List V}:(B_ e z).sub r=some (leaf y)↔∃a,e.sub a=some (leaf y)/\¬[z]<+:a/\r=Ce [z] [] a:=by
 cases r with
 |nil=>
  constructor
  ·intro i;rw[As]at i;exact absurd (AAC i) (Mo h)
  ·rintro⟨a,d,_,e⟩
   cases a with
   |nil=>rw[As]at d;exact absurd (AAC d) (Ej h)
   |cons j r=>cases e
 |cons j r=>
  rw[Ac]
  constructor
  ·rintro⟨x,f,g⟩
   obtain⟨b,m,d,rfl⟩:=(Qo w h).mp f
   refine⟨b::r,Ac.mpr ⟨x,d,g⟩,fun n=>m (List.cons_prefix_cons.mp n).1.symm,?_⟩
   show _=BF [z] [] b::Ce (BK [z] b) [] r
   rw[DS,Bw]
  ·rintro⟨a,d,o,e⟩
   cases a with
   |nil=>cases e
   |cons b a=>
    obtain⟨x,f,g⟩:=Ac.mp d
    have k:j::r=BF [z] [] b::Ce (BK [z] b) [] a:=e
    rw[DS,Bw]at k
    cases k
    exact⟨x,(Qo w h).mpr ⟨b,fun c=>o (by rw[c];exact⟨r,rfl⟩),f,rfl⟩,g⟩
theorem ID {e v:Dc} {z y:V} (w:e.Wf) (h:e.room z=true) {r:List V}:(CT e z v).sub r=some (leaf y)↔(∃a,e.sub a=some (leaf y)/\r=Ce [] [z] a)∨∃t,r=z::t/\v.sub t=some (leaf y):=by
 cases r with
 |nil=>
  constructor
  ·intro g;rw[As]at g;exact absurd (AAC g) (Mp h)
  ·rintro(⟨a,c,e⟩|⟨t,e,_⟩)
   ·cases a with
    |nil=>rw[As]at c;exact absurd (AAC c) (GF h)
    |cons j r=>cases e
   ·cases e
 |cons j r=>
  rw[Ac]
  constructor
  ·rintro⟨x,f,d⟩
   rcases(Mn w h).mp f with⟨rfl,rfl⟩|⟨b,c,rfl⟩
   ·exact .inr ⟨r,rfl,d⟩
   ·refine .inl ⟨b::r,Ac.mpr ⟨x,c,d⟩,?_⟩
    show _=BF [] [z] b::Ce [] (BK [z] b) r
    rw[DS,Bw]
  ·rintro(⟨a,c,e⟩|⟨t,e,d⟩)
   ·cases a with
    |nil=>cases e
    |cons b a=>
     obtain⟨x,f,d⟩:=Ac.mp c
     have i:j::r=BF [] [z] b::Ce [] (BK [z] b) a:=e
     rw[DS,Bw]at i
     cases i
     exact⟨x,(Mn w h).mpr (.inr ⟨b,f,rfl⟩),d⟩
   ·cases e
    exact⟨v,(Mn w h).mpr (.inl ⟨rfl,rfl⟩),d⟩
end Dc
theorem Fe (z:V) (r:List V):∀a:List V,Ce (a++[z]) [] (a++r)=a++Ce [z] [] r
 |[]=>rfl
 |u::a=>by
  have e:(u::a)++[z]=u::(a++[z]):=rfl
  have n:BK (u::(a++[z])) u=a++[z]:=by simp[BK]
  show BF (u::(a++[z])) [] u::Ce (BK (u::(a++[z])) u) [] (a++r)=_
  rw[n,Fe z r a]
  cases a with
  |nil=>rw[show u::([]++[z])=u::z::[]from rfl,Fu,CO];rfl
  |cons b a=>rw[show u::(b::a++[z])=u::b::(a++[z])from rfl,Fu,CO];rfl
theorem EL (z:V) (r:List V):∀a:List V,Ce [] (a++[z]) (a++r)=a++Ce [] [z] r
 |[]=>rfl
 |u::a=>by
  have n:BK (u::(a++[z])) u=a++[z]:=by simp[BK]
  show BF [] (u::(a++[z])) u::Ce [] (BK (u::(a++[z])) u) (a++r)=_
  rw[n,EL z r a]
  cases a with
  |nil=>rw[show u::([]++[z])=u::z::[]from rfl,DX,CO];rfl
  |cons b a=>rw[show u::(b::a++[z])=u::b::(a++[z])from rfl,DX,CO];rfl
theorem Ff (z:V):∀a q:List V,¬a<+:q->Ce (a++[z]) [] q=q
 |[],_,h=>absurd List.nil_prefix h
 |u::a,[],_=>rfl
 |u::a,j::r,h=>by
  show BF (u::(a++[z])) [] j::Ce (BK (u::(a++[z])) j) [] r=_
  have e:BF (u::(a++[z])) [] j=j:=by
   cases a with
   |nil=>rw[show u::([]++[z])=u::z::[]from rfl,Fu,CO]
   |cons b a=>rw[show u::(b::a++[z])=u::b::(a++[z])from rfl,Fu,CO]
  rw[e]
  by_cases c:u=j
  ·have n:BK (u::(a++[z])) j=a++[z]:=by simp[BK,c]
   rw[n,Ff z a r fun d=>h (by rw[c];exact List.cons_prefix_cons.mpr ⟨rfl,d⟩)]
  ·have n:BK (u::(a++[z])) j=[]:=by simp[BK,c]
   rw[n,Bw]
theorem EM (z:V):∀a q:List V,¬a<+:q->Ce [] (a++[z]) q=q
 |[],_,h=>absurd List.nil_prefix h
 |u::a,[],_=>rfl
 |u::a,j::r,h=>by
  show BF [] (u::(a++[z])) j::Ce [] (BK (u::(a++[z])) j) r=_
  have e:BF [] (u::(a++[z])) j=j:=by
   cases a with
   |nil=>rw[show u::([]++[z])=u::z::[]from rfl,DX,CO]
   |cons b a=>rw[show u::(b::a++[z])=u::b::(a++[z])from rfl,DX,CO]
  rw[e]
  by_cases c:u=j
  ·have n:BK (u::(a++[z])) j=a++[z]:=by simp[BK,c]
   rw[n,EM z a r fun d=>h (by rw[c];exact List.cons_prefix_cons.mpr ⟨rfl,d⟩)]
  ·have n:BK (u::(a++[z])) j=[]:=by simp[BK,c]
   rw[n,Bw]
theorem OU {a q:List V} {z:V} (h:a++[z]<+:a++q):[z]<+:q:=(List.prefix_append_right_inj a).mp h
theorem Dc.HS {d e l:Dc} {a:List V} {z y:V} (w:d.Wf) (h:d.sub a=some e) (j:e.sub [z]=some l) {q:List V}:(d.Aw a (e.B_ z)).sub q=some (leaf y)↔∃b,d.sub b=some (leaf y)/\¬(a++[z])<+:b/\q=Ce (a++[z]) [] b:=by
 rw[IC w h]
 constructor
 ·rintro(⟨r,rfl,m⟩|⟨f,n⟩)
  ·obtain⟨k,g,f,rfl⟩:=(Lc (Ey w h) j).mp m
   exact⟨a++k,by rw[sub_snoc h];exact g,fun i=>f (OU i),(Fe z k a).symm⟩
  ·exact⟨q,n,fun i=>f ((List.prefix_append a [z]).trans i),(Ff z a q f).symm⟩
 ·rintro⟨b,g,f,rfl⟩
  by_cases c:a<+:b
  ·obtain⟨r,rfl⟩:=c
   rw[sub_snoc h]at g
   exact .inl ⟨_,Fe z r a,(Lc (Ey w h) j).mpr ⟨r,g,fun i=>f ((List.prefix_append_right_inj a).mpr i),rfl⟩⟩
  ·rw[Ff z a b c]
   exact .inr ⟨c,g⟩
theorem Dc.KO {d e v:Dc} {a:List V} {z y:V} (w:d.Wf) (h:d.sub a=some e) (g:e.room z=true) {q:List V}:(d.Aw a (e.CT z v)).sub q=some (leaf y)↔(∃b,d.sub b=some (leaf y)/\q=Ce [] (a++[z]) b)∨∃t,q=a++[z]++t/\v.sub t=some (leaf y):=by
 rw[IC w h]
 constructor
 ·rintro(⟨r,rfl,k⟩|⟨l,m⟩)
  ·rcases(ID (Ey w h) g).mp k with⟨j,f,rfl⟩|⟨t,rfl,i⟩
   ·exact .inl ⟨a++j,by rw[sub_snoc h];exact f,(EL z j a).symm⟩
   ·exact .inr ⟨t,by simp,i⟩
  ·exact .inl ⟨q,m,(EM z a q l).symm⟩
 ·rintro(⟨b,f,rfl⟩|⟨t,rfl,i⟩)
  ·by_cases c:a<+:b
   ·obtain⟨r,rfl⟩:=c
    rw[sub_snoc h]at f
    exact .inl ⟨_,EL z r a,(ID (Ey w h) g).mpr (.inl ⟨r,f,rfl⟩)⟩
   ·rw[EM z a b c]
    exact .inr ⟨c,f⟩
  ·exact .inl ⟨z::t,by simp,(ID (Ey w h) g).mpr (.inr ⟨t,rfl,i⟩)⟩
theorem VL {x:V} (h:Dc.BB x):Kk x x=true:=by
 rcases h with⟨i,rfl⟩|⟨k,rfl,_⟩<;>simp[Kk]
theorem Ek {xs ys:List V} (b:steps xs) (c:steps ys):Bz xs ys=true↔xs=ys:=by
 constructor
 ·exact FX b c
 ·rintro rfl
  unfold Bz
  simp only[Bool.and_eq_true,beq_self_eq_true,and_true,List.all_eq_true,List.mem_range]
  intro j d
  have a:j<xs.length:=by lia
  rw[List.getD_eq_getElem?_getD,AAA a]
  exact VL (b _ (List.getElem_mem a))
def lX (w:Str) (xs:List V):List V:=if FA (.str w) [.str "take",.str "move"]=true then xs else[]
def mX (w:Str) (xs zs:List V):List V:=if FA (.str w) Dh=true then GW w xs zs else[]
def cc (w:Str) (xs zs a:List V) (z:V):V:=match z with| .int i=>.int (Cy a i w xs+EK a i w xs zs true)|_=>z
def cf (w:Str) (xs zs:List V):List V->List V->List V
 |_,[]=>[]
 |a,s::r=>cc w xs zs a s::cf w xs zs (a++[s]) r
theorem go_eq {w:Str} {xs zs:List V}:∀(q a ys:List V),ys.length=q.length->(∀(i:Nat) (y s:V),ys[i]?=some y->q[i]?=some s->y=cc w xs zs (a++q.take i) s)->ys=cf w xs zs a q
 |[],_,ys,l,_=>by cases ys with|nil=>rfl|cons _ _=>simp at l
 |s::r,a,ys,l,h=>by
  cases ys with
  |nil=>simp at l
  |cons y t=>
   have b:=h 0 y s rfl rfl
   rw[List.take_zero,List.append_nil]at b
   show y::t=cc w xs zs a s::cf w xs zs (a++[s]) r
   rw[b]
   congr 1
   refine go_eq r (a++[s]) t (by simpa using l) fun i c d e f=>?_
   have:=h (i+1) c d (by simpa using e) (by simpa using f)
   rw[this]
   simp
def Fg (l a:List V):List V:=if a<+:l then l.drop a.length else[]
theorem OV (l a:List V) (s:V):BK (Fg l a) s=Fg l (a++[s]):=by
 unfold Fg
 by_cases c:a<+:l
 ·obtain⟨t,rfl⟩:=c
  rw[if_pos (List.prefix_append a t),List.drop_left]
  cases t with
  |nil=>
   rw[if_neg fun b=>by have:=b.length_le;simp only[List.length_append,List.length_singleton,List.length_nil]at this;lia]
   rfl
  |cons x t=>
   by_cases e:x=s
   ·subst e
    have b:a++[x]<+:a++x::t:=⟨t,by simp⟩
    rw[if_pos b]
    simp[BK]
   ·rw[if_neg fun b=>e (List.cons_prefix_cons.mp ((List.prefix_append_right_inj a).mp b)).1.symm]
    simp[BK,e]
 ·rw[if_neg c,if_neg fun b=>c ((List.prefix_append a [s]).trans b)]
  rfl
theorem El {l b:List V} {a:V}:Fg l b=[a]↔l=b++[a]:=by
 unfold Fg
 constructor
 ·intro h
  split at h
  ·rename_i c
   obtain⟨t,rfl⟩:=c
   rw[List.drop_left]at h
   rw[h]
  ·cases h
 ·rintro rfl
  rw[if_pos (List.prefix_append _ _),List.drop_left]
theorem Ld {l:List V} {j:Int} (h:EJ l=some j):l=l.dropLast++[.int j]:=by
 unfold EJ at h
 split at h
 ·rename_i i e
  cases h
  have a:l≠[]:=by rintro rfl;cases e
  rw[List.getLast?_eq_some_getLast a]at e
  have:=List.dropLast_concat_getLast a
  rw[AAC e]at this
  exact this.symm
 ·cases h
theorem Le (b:List V) (a:V):EJ (b++[a])=match a with| .int j=>some j|_=>none:=by
 unfold EJ
 rw[List.getLast?_concat]
 cases a<;>rfl
theorem Xp {w:Str} {xs b:List V} {i:Int} (k:steps xs) (g:steps b):Cy b i w xs=EE (Fg (lX w xs) b) i:=by
 unfold Cy lX
 by_cases d:FA (.str w) [.str "take",.str "move"]=true
 ·rw[if_pos d]
  have h:steps xs.dropLast:=fun z l=>k z (List.dropLast_subset _ l)
  cases f:EJ xs with
  |none=>
   show i=_
   unfold EE
   split
   ·rename_i a e
    rw[El.mp e,Le]at f
    cases f
   ·rfl
  |some j=>
   show(if _ then _ else _)=_
   have m:=Ld f
   by_cases c:xs.dropLast=b
   ·have n:Fg xs b=[.int j]:=El.mpr (by rw[<-c];exact m)
    rw[n]
    simp only[EE,d,(Ek h g).mpr c,true_and]
   ·rw[if_neg fun z=>c (FX h g z.2.1)]
    unfold EE
    split
    ·rename_i a e
     have:=El.mp e
     exact absurd (by rw[this];simp) c
    ·rfl
 ·rw[if_neg d]
  have:Fg [] b=[]:=by unfold Fg;split<;>simp
  rw[this,OR]
  cases f:EJ xs with
  |none=>rfl
  |some j=>exact if_neg fun z=>d z.1
theorem Xq {w:Str} {xs zs b:List V} {i:Int} (k:steps xs) (sz:steps zs) (g:steps b):EK b i w xs zs true=EF (Fg (mX w xs zs) b) i:=by
 unfold EK mX
 by_cases d:FA (.str w) Dh=true
 ·rw[if_pos d]
  have st:=LW (w:=w) k sz
  have h:steps (GW w xs zs).dropLast:=fun z l=>st z (List.dropLast_subset _ l)
  cases f:EJ (GW w xs zs)with
  |none=>
   show(0:Int)=_
   unfold EF
   split
   ·rename_i a e
    rw[El.mp e,Le]at f
    cases f
   ·rfl
  |some j=>
   show(if _ then _ else _)=_
   have m:=Ld f
   by_cases c:(GW w xs zs).dropLast=b
   ·have n:Fg (GW w xs zs) b=[.int j]:=El.mpr (by rw[<-c];exact m)
    rw[n]
    simp only[EF,d,(Ek h g).mpr c,true_and]
    by_cases c2:j<=i
    ·rw[if_pos c2,if_pos (by lia)]
    ·rw[if_neg c2,if_neg (by lia)]
   ·rw[if_neg fun z=>c (FX h g z.2.1)]
    unfold EF
    split
    ·rename_i a e
     have:=El.mp e
     exact absurd (by rw[this];simp) c
    ·rfl
 ·rw[if_neg d]
  have:Fg [] b=[]:=by unfold Fg;split<;>simp
  rw[this,OS]
  cases f:EJ (GW w xs zs)with
  |none=>rfl
  |some j=>exact if_neg fun z=>d z.1
theorem ZI {w:Str} {xs zs:List V} (c:steps xs) (sz:steps zs):∀(q a:List V),steps a->steps q->cf w xs zs a q=Ce (Fg (lX w xs) a) (Fg (mX w xs zs) a) q
 |[],_,_,_=>rfl
 |s::r,a,d,e=>by
  show cc w xs zs a s::cf w xs zs (a++[s]) r=BF _ _ s::Ce (BK _ s) (BK _ s) r
  rw[OV,OV,ZI c sz r (a++[s]) (fun z b=>by
   rcases List.mem_append.mp b with b|b
   ·exact d z b
   ·rw[List.mem_singleton.mp b];exact e s List.mem_cons_self) fun z b=>e z (List.mem_cons_of_mem _ b)]
  congr 1
  cases s with
  |int i=>simp only[cc,BF,Xp c d,Xq c sz d]
  |_=>rfl
theorem OW (l:List V):Fg l []=l:=by unfold Fg;rw[if_pos List.nil_prefix];rfl
theorem up_eq (lv:V):∀(a zs:List V),steps a->steps zs->JL zs (a++[lv])=match zs[a.length]?,lv with
  |some (.int i),.int j=>if Bz (zs.take a.length) a=true/\(j<i∨(i=j/\a.length+1<zs.length))then zs.set a.length (.int (i+1))else zs
  |_,_=>zs
 |[],[],_,_=>by cases lv<;>rfl
 |[],z::zs,_,_=>by
  have e:(Bz ((z::zs).take ([]:List V).length) []=true)=True:=by simp[Bz]
  cases z<;>cases lv<;>try rfl
  rename_i i _ j
  show JL (.int i::zs) [.int j]=if _ then _ else _
  have c:(i=j/\([]:List V).length+1<(V.int i::zs).length)↔(i=j/\zs≠[]):=by
   cases zs<;>simp
  simp only[JL]
  by_cases c1:j<i∨(i=j/\zs≠[])
  ·rw[if_pos c1,if_pos ⟨e.mpr trivial,c1.imp id c.mpr⟩];rfl
  ·rw[if_neg c1,if_neg fun z=>c1 (z.2.imp id c.mp)]
 |u::a,[],_,_=>by cases lv<;>(show JL [] (u::(a++[_]))=_;simp[JL])
 |u::a,z::zs,g,sz=>by
  have d:steps a:=fun v b=>g v (List.mem_cons_of_mem _ b)
  have f:steps zs:=fun v b=>sz v (List.mem_cons_of_mem _ b)
  have k:JL (z::zs) ((u::a)++[lv])=if z=u then z::JL zs (a++[lv])else z::zs:=by
   cases a<;>rfl
  have l:(z::zs)[(u::a).length]?=zs[a.length]?:=by simp
  have st:∀n,steps (zs.take n):=fun n v b=>f v (List.mem_of_mem_take b)
  have m:(Bz ((z::zs).take (u::a).length) (u::a)=true)↔(z=u/\Bz (zs.take a.length) a=true):=by
   rw[Ek (fun v b=>sz v (List.mem_of_mem_take b)) g,Ek (st _) d]
   simp
  rw[k,l,up_eq lv a zs d f]
  cases o:zs[a.length]? with
  |none=>simp only;split<;>rfl
  |some c=>
   cases c with
   |int i=>
    cases lv with
    |int j=>
     simp only[m]
     by_cases c1:z=u
     ·rw[if_pos c1]
      by_cases c2:Bz (zs.take a.length) a=true/\(j<i∨(i=j/\a.length+1<zs.length))
      ·rw[if_pos c2,if_pos ⟨⟨c1,c2.1⟩,by simpa using c2.2⟩];rfl
      ·rw[if_neg c2,if_neg fun h=>c2 ⟨h.1.2,by simpa using h.2⟩]
     ·rw[if_neg c1,if_neg fun h=>c1 h.1.1]
    |_=>simp only;split<;>rfl
   |_=>simp only;split<;>rfl
theorem VM {xs zs:List V} (c:xs≠[]) (d:steps xs) (sz:steps zs):Ck zs xs=JL zs xs:=by
 obtain⟨a,b,rfl⟩:∃a b,xs=a++[b]:=⟨xs.dropLast,xs.getLast c,(List.dropLast_concat_getLast c).symm⟩
 rw[HM]
 refine Eq.trans ?_ (up_eq b a zs (fun v e=>d v (List.mem_append_left _ e)) sz).symm
 cases zs[a.length]? with
 |none=>rfl
 |some z=>cases z<;>cases b<;>rfl
def BE (w:Str) (xs zs q:List V):Option (List V):=
 if FA (.str w) [.str "take",.str "change"]=true/\xs<+:q then none
 else if w="move"/\xs<+:q then some (zs++q.drop xs.length)
 else some (Ce (lX w xs) (mX w xs zs) q)
theorem wA {w a b:Str}:FA (.str w) [.str a,.str b]=true↔w=a∨w=b:=by
 rw[show([.str a,.str b]:List V)=[a,b].map V.str from rfl,FZ]
 simp
def big (y:V):Prop:=∃i:Int,y=.int i/\10 ^ 20<=i
def Cz (v:Dc):Prop:=∀t y,v.sub t=some (.leaf y)->¬big y
def Uq (d:Dc):Prop:=∀a b y,big y->d.sub a=some (.leaf y)->d.sub b=some (.leaf y)->a=b
def Fh (d:Dc) (w:Str) (xs zs:List V) (d':Dc):Prop:=∀a y,big y->d.sub a=some (.leaf y)->∀q,(d'.sub q=some (.leaf y)/\(w="copy"->¬zs<+:q))↔BE w xs zs a=some q
def ZJ (d d':Dc):Prop:=∀q y,d.sub q=some (.leaf y)↔d'.sub q=some (.leaf y)
theorem ZJ.of {d d':Dc} (w:d.Wf) (f:d'.Wf) (h:Dc.Eqv d d'):ZJ d d':=by
 intro q y
 constructor
 ·intro a
  obtain⟨e,b,c⟩:=Dc.Eqv.sub w f h a
  cases c
  exact b
 ·intro a
  obtain⟨e,b,c⟩:=Dc.Eqv.sub f w h.symm a
  cases c
  exact b
theorem Uq.of {d d':Dc} (h:Uq d) (l:ZJ d d'):Uq d':=fun a c y b e f=>h a c y b ((l _ _).mpr e) ((l _ _).mpr f)
theorem Cz.of {d d':Dc} (h:Cz d) (l:ZJ d d'):Cz d':=fun t y a=>h t y ((l _ _).mpr a)
theorem Fh.of {d t d' a:Dc} {w:Str} {xs zs:List V} (h:Fh t w xs zs d') (l:ZJ d t) (c:ZJ d' a):Fh d w xs zs a:=fun e y b f q=>by
 rw[<-c q y]
 exact h e y b ((l _ _).mp f) q
theorem KP {w:Str} {xs zs q:List V} (a:FA (.str w) [.str "take",.str "change"]=false) (b:w≠"move"):BE w xs zs q=some (Ce (lX w xs) (mX w xs zs) q):=by
 unfold BE
 rw[if_neg fun z=>by rw[a]at z;exact Bool.false_ne_true z.1,if_neg fun z=>b z.1]
theorem DY {c:Type} {a b:c}:some a=some b↔b=a:=⟨fun h=>(AAC h).symm,fun h=>by rw[h]⟩
theorem SY {d:Dc} {w:Str} {xs zs:List V} (u:Uq d) (hw:w∈(["ask","has","lacks","is"]:List Str)):Fh d w xs zs d:=by
 intro a y b c q
 have e:BE w xs zs a=some a:=by
  simp only[List.mem_cons,List.not_mem_nil,or_false]at hw
  have:FA (.str w) [.str "take",.str "change"]=false/\w≠"move"/\w≠"copy"/\lX w xs=[]/\mX w xs zs=[]:=by
   rcases hw with rfl|rfl|rfl|rfl
   all_goals refine⟨by decide,by decide,by decide,if_neg (by decide),if_neg (by decide)⟩
  rw[KP this.1 this.2.1,this.2.2.2.1,this.2.2.2.2,Bw]
 have f:w≠"copy":=by
  simp only[List.mem_cons,List.not_mem_nil,or_false]at hw
  rcases hw with rfl|rfl|rfl|rfl<;>decide
 rw[e,DY]
 constructor
 ·rintro⟨h,_⟩;exact u q a y b h c
 ·rintro rfl;exact⟨c,fun z=>absurd z f⟩
theorem VN {d e v:Dc} {a:List V} {z:V} {zs:List V} (i:d.Wf) (u:Uq d) (j:Cz v) (h:d.sub a=some e) (k:e.room z=true):Fh d "put" (a++[z]) zs (d.Aw a (e.CT z v)):=by
 intro f y b g q
 have l:lX "put" (a++[z])=[]:=if_neg (by decide)
 have m:mX "put" (a++[z]) zs=a++[z]:=by
  unfold mX;rw[if_pos (by decide)];unfold GW;rw[if_neg (by decide),if_neg (by decide)]
 rw[KP (by decide) (by decide),l,m,DY,Dc.KO i h k]
 constructor
 ·rintro⟨⟨n,o,rfl⟩|⟨t,_,p⟩,_⟩
  ·rw[u n f y b o g]
  ·exact absurd b (j t y p)
 ·rintro rfl
  exact⟨.inl ⟨f,g,rfl⟩,fun c=>absurd c (by decide)⟩
theorem Sa {d e x:Dc} {a:List V} {z:V} {zs:List V} (l:d.Wf) (u:Uq d) (h:d.sub a=some e) (m:e.sub [z]=some x):Fh d "take" (a++[z]) zs (d.Aw a (e.B_ z)):=by
 intro f y b g q
 have n:lX "take" (a++[z])=a++[z]:=if_pos (by decide)
 have o:mX "take" (a++[z]) zs=[]:=if_neg (by decide)
 rw[Dc.HS l h m]
 unfold BE
 rw[n,o]
 by_cases c:a++[z]<+:f
 ·rw[if_pos ⟨by decide,c⟩]
  constructor
  ·rintro⟨⟨i,j,k,_⟩,_⟩
   rw[u i f y b j g]at k
   exact absurd c k
  ·intro z;cases z
 ·rw[if_neg fun z=>c z.2,if_neg fun z=>c z.2,DY]
  constructor
  ·rintro⟨⟨i,j,k,rfl⟩,_⟩
   rw[u i f y b j g]
  ·rintro rfl
   exact⟨⟨f,g,c,rfl⟩,fun c=>absurd c (by decide)⟩
theorem Ie {d e v:Dc} {xs zs:List V} (l:d.Wf) (u:Uq d) (k:Cz v) (h:d.sub xs=some e):Fh d "change" xs zs (d.Aw xs v):=by
 intro a y b f q
 have m:lX "change" xs=[]:=if_neg (by decide)
 have n:mX "change" xs zs=[]:=if_neg (by decide)
 rw[Dc.IC l h]
 unfold BE
 rw[m,n,Bw]
 by_cases c:xs<+:a
 ·rw[if_pos ⟨by decide,c⟩]
  constructor
  ·rintro⟨⟨r,_,g⟩|⟨i,j⟩,_⟩
   ·exact absurd b (k r y g)
   ·rw[u q a y b j f]at i
    exact absurd c i
  ·intro z;cases z
 ·rw[if_neg fun z=>c z.2,if_neg fun z=>c z.2,DY]
  constructor
  ·rintro⟨⟨r,_,g⟩|⟨i,j⟩,_⟩
   ·exact absurd b (k r y g)
   ·exact u q a y b j f
  ·rintro rfl
   exact⟨.inr ⟨c,f⟩,fun c=>absurd c (by decide)⟩
theorem Sb {d e:Dc} {b f:List V} {z y:V} (u:d.Wf) (h:d.sub b=some e) (p:e.room z=true) (g:d.sub f=some (.leaf y)):¬b++[z]<+:Ce [] (b++[z]) f:=by
 intro l
 by_cases c:b<+:f
 ·obtain⟨r,rfl⟩:=c
  rw[EL]at l
  rw[Dc.sub_snoc h]at g
  have o:=OU l
  cases r with
  |nil=>rw[Dc.As]at g;exact absurd (AAC g) (Dc.GF p)
  |cons j t=>
   have n:=(List.cons_prefix_cons.mp (show z::[]<+:BF [] [z] j::_ from o)).1
   obtain⟨x,q,_⟩:=Dc.Ac.mp g
   rcases Dc.DL p with⟨a,v,i,rfl,rfl,s⟩|⟨a,C,v,k,rfl,rfl,s⟩
   ·obtain⟨m,rfl,_⟩:=Dc.Cf.mp q
    simp only[BF,EE,EF,V.int.injEq]at n
    split at n<;>lia
   ·cases Dc.Ey u h with
    |tab w A D=>
     obtain⟨m,k2,rfl,B,_⟩:=(Dc.B' w A).mp q
     simp only[BF,V.str.injEq]at n
     exact s (n▸AAD B)
 ·rw[EM z b f c]at l
  exact c ((List.prefix_append b [z]).trans l)
theorem Sd {d e v:Dc} {xs a:List V} {z:V} (f:d.Wf) (u:Uq d) (h:d.sub a=some e) (g:e.room z=true):Fh d "copy" xs (a++[z]) (d.Aw a (e.CT z v)):=by
 intro i y b c q
 have j:lX "copy" xs=[]:=if_neg (by decide)
 have k:mX "copy" xs (a++[z])=a++[z]:=by
  unfold mX;rw[if_pos (by decide)];unfold GW;rw[if_pos rfl]
 rw[KP (by decide) (by decide),j,k,DY,Dc.KO f h g]
 constructor
 ·rintro⟨⟨l,m,rfl⟩|⟨t,rfl,o⟩,n⟩
  ·rw[u l i y b m c]
  ·exact absurd (List.prefix_append _ t) (n rfl)
 ·rintro rfl
  exact⟨.inl ⟨i,c,rfl⟩,fun _=>Sb f h g c⟩
theorem Se {d e x l:Dc} {a f:List V} {z z2:V} (m:d.Wf) (u:Uq d) (h:d.sub a=some e) (k:e.sub [z]=some x) (C:(d.Aw a (e.B_ z)).sub f=some l) (n:l.room z2=true) (D:(d.Aw a (e.B_ z)).Wf) (A:steps (a++[z])) (sz:steps (f++[z2])) (E:∀q y,d.sub q=some (.leaf y)->steps q):
  Fh d "move" (a++[z]) (f++[z2]) ((d.Aw a (e.B_ z)).Aw f (l.CT z2 x)):=by
 intro i y b g q
 have F:lX "move" (a++[z])=a++[z]:=if_pos (by decide)
 have G:mX "move" (a++[z]) (f++[z2])=JL (f++[z2]) (a++[z]):=by
  unfold mX;rw[if_pos (by decide)];unfold GW;rw[if_neg (by decide),if_pos rfl,VM (by simp) A sz]
 have o:∀t,d.sub (a++[z]++t)=x.sub t:=fun t=>by
  rw[List.append_assoc,Dc.sub_snoc h,Dc.sub_snoc k]
 rw[Dc.KO D C n]
 unfold BE
 rw[if_neg fun z=>absurd z.1 (by decide),F,G]
 by_cases c:a++[z]<+:i
 ·rw[if_pos ⟨rfl,c⟩,DY]
  obtain⟨B,rfl⟩:=c
  rw[List.drop_left]
  have j:=g
  rw[o]at j
  constructor
  ·rintro⟨⟨H,p,rfl⟩|⟨t,rfl,r⟩,_⟩
   ·obtain⟨s,v,w,_⟩:=(Dc.HS m h k).mp p
    rw[u s _ y b v g]at w
    exact absurd (List.prefix_append _ _) w
   ·have:=u (a++[z]++t) (a++[z]++B) y b (by rw[o];exact r) g
    rw[List.append_cancel_left this]
  ·rintro rfl
   exact⟨.inr ⟨B,rfl,j⟩,fun c=>absurd c (by decide)⟩
 ·rw[if_neg fun z=>c z.2,DY,ZH i (a++[z]) (f++[z2]) (E i y g) A sz c]
  constructor
  ·rintro⟨⟨H,p,rfl⟩|⟨t,rfl,r⟩,_⟩
   ·obtain⟨s,v,w,rfl⟩:=(Dc.HS m h k).mp p
    rw[u s i y b v g]
   ·have:=u (a++[z]++t) i y b (by rw[o];exact r) g
    exact absurd (by rw[<-this];exact List.prefix_append _ _) c
  ·rintro rfl
   exact⟨.inl ⟨_,(Dc.HS m h k).mpr ⟨i,g,c,rfl⟩,rfl⟩,fun c=>absurd c (by decide)⟩
theorem OX (s:V):∀(q xs zs:List V),(Ce xs zs (q++[s])).dropLast=Ce xs zs q/\Ce xs zs (q++[s])≠[]
 |[],xs,zs=>by
  refine⟨?_,?_⟩
  ·show[BF xs zs s].dropLast=[];rfl
  ·show BF xs zs s::_≠[];simp
 |j::r,xs,zs=>by
  obtain⟨a,b⟩:=OX s r (BK xs j) (BK zs j)
  refine⟨?_,?_⟩
  ·show(BF xs zs j::Ce (BK xs j) (BK zs j) (r++[s])).dropLast=BF xs zs j::Ce (BK xs j) (BK zs j) r
   rw[List.dropLast_cons_of_ne_nil b,a]
  ·show BF xs zs j::_≠[];simp
theorem Mq {xs q:List V} {s:V} (h:q++[s]≠xs):xs<+:q++[s]↔xs<+:q:=by
 constructor
 ·intro a
  rcases List.prefix_concat_iff.mp (by simpa using a)with e|e
  ·exact absurd e.symm h
  ·exact e
 ·intro a;exact a.trans (List.prefix_append _ _)
theorem Pu {w:Str} {xs zs q c:List V} {s:V} (h:q++[s]≠xs) (a:BE w xs zs q=some c):∃t,BE w xs zs (q++[s])=some t/\t.dropLast=c/\t≠[]:=by
 unfold BE at a⊢
 have b:=Mq h
 split at a
 ·cases a
 ·rename_i c1
  rw[if_neg fun z=>c1 ⟨z.1,b.mp z.2⟩]
  split at a
  ·rename_i c2
   rw[if_pos ⟨c2.1,b.mpr c2.2⟩]
   cases a
   refine⟨_,rfl,?_,?_⟩
   ·rw[List.drop_append_of_le_length c2.2.length_le,<-List.append_assoc,List.dropLast_concat]
   ·rw[List.drop_append_of_le_length c2.2.length_le,<-List.append_assoc];simp
  ·rename_i c2
   rw[if_neg fun z=>c2 ⟨z.1,b.mp z.2⟩]
   cases a
   exact⟨_,rfl,OX s q _ _⟩
def KQ (H:Hp) (v:V):Option (List V)->Prop
 |none=>v=.BL
 |some ys=>∃a:Addr,v=.ref a/\H a=some (.tup ys)
def JN:Sp:=fun e H Q _=>∃(t:Addr) (a:List V) (r:V) (w:Str) (c d:List V) (p:Addr),e=[.ref t,r]/\H t=some (.tup a)/\steps a/\a.length<=100/\Rw H r w c d p/\∀v b,AG H b->KQ b v (BE w c d a)->Q v b
theorem pre_take {xs q:List V} (a:steps xs) (b:steps q):Bz (q.take xs.length) xs=true↔xs<+:q:=by
 rw[Ek (fun z c=>b z (List.mem_of_mem_take c)) a]
 constructor
 ·intro h;rw[<-h];exact List.take_prefix _ _
 ·intro h;exact(List.prefix_iff_eq_take.mp h).symm
def JO:Sp:=fun b H Q _=>∃c:Int,b=[.int c]/\∀v a,HA v->¬big v->AG H a->Q v a
def HU:Sp:=fun e H Q _=>∃(c:Int) (n:Addr) (a:List Str),e=[.int c,.ref n]/\H n=some (.lst (a.map V.str))/\a.length<=100/\0<a.length/\(∀y∈a,BS y=true)/\∀(d:Dc) (b:Hp),AG H b->d.At b->d.ok->d.size<=2->Cz d->Q d.val b
def KR:Option Dc->V
 |some e=>e.val
 |none=>.BL
def C_:Sp:=fun b H Q _=>∃(d:Dc) (t:Addr) (a:List V),b=[d.val,.ref t]/\d.At H/\H t=some (.tup a)/\steps a/\Q (KR (d.sub a)) H
structure TB (D:List V) (f:V->Option Dc) (qs:List (List V)):Prop where
 hd:qs.head?=some []
 nd:qs.Nodup
 mem:∀q,q∈qs↔q=[]∨∃z x r,z∈D/\f z=some x/\q=z::r/\(x.sub r).isSome=true
structure Pw (d:Dc) (qs:List (List V)):Prop where
 hd:qs.head?=some []
 nd:qs.Nodup
 mem:∀q,q∈qs↔(d.sub q).isSome=true
theorem TB.one {f:V->Option Dc}:TB [] f [[]]:=⟨rfl,by simp,fun q=>by
 constructor
 ·intro h;exact .inl (List.mem_singleton.mp h)
 ·rintro(rfl|⟨z,x,r,h,_⟩)
  ·simp
  ·cases h⟩
theorem TB.push {D:List V} {f:V->Option Dc} {n i:List (List V)} {z:V} {x:Dc} (h:TB D f n) (t:z∉D) (s:f z=some x) (p:Pw x i):TB (D++[z]) f (n++i.map (z::·)):=by
 refine⟨?_,List.nodup_append.mpr ⟨h.nd,?_,?_⟩,fun q=>?_⟩
 ·have:=h.hd
  cases n with
  |nil=>cases this
  |cons a r=>exact this
 ·exact List.pairwise_map.mpr (p.nd.imp fun o e=>o (List.cons.inj e).2)
 ·intro a u b v e
  subst e
  obtain⟨r,_,rfl⟩:=List.mem_map.mp v
  rcases(h.mem _).mp u with c|⟨j,k,g,c,_,d,_⟩
  ·cases c
  ·cases d;exact t c
 ·rw[List.mem_append,h.mem,List.mem_map]
  constructor
  ·rintro((c|⟨j,k,g,c,d,l,m⟩)|⟨r,c,rfl⟩)
   ·exact .inl c
   ·exact .inr ⟨j,k,g,List.mem_append_left _ c,d,l,m⟩
   ·exact .inr ⟨z,x,r,by simp,s,rfl,(p.mem r).mp c⟩
  ·rintro(c|⟨j,k,g,c,d,l,m⟩)
   ·exact .inl (.inl c)
   ·rcases List.mem_append.mp c with c|c
    ·exact .inl (.inr ⟨j,k,g,c,d,l,m⟩)
    ·have:=List.mem_singleton.mp c
     subst this
     rw[s]at d;cases d
     exact .inr ⟨g,(p.mem g).mpr m,l.symm⟩
theorem TB.all {D:List V} {d:Dc} {f:List (List V)} (h:TB D (fun z=>d.sub [z]) f) (a:∀z x,d.sub [z]=some x->z∈D):Pw d f:=⟨h.hd,h.nd,fun q=>by
 rw[h.mem]
 constructor
 ·rintro(rfl|⟨z,x,r,_,b,rfl,i⟩)
  ·rw[Dc.As];rfl
  ·obtain⟨e,c⟩:=Option.isSome_iff_exists.mp i
   rw[Dc.Ac.mpr ⟨x,b,c⟩];rfl
 ·intro j
  obtain⟨e,c⟩:=Option.isSome_iff_exists.mp j
  cases q with
  |nil=>exact .inl rfl
  |cons z r=>
   obtain⟨x,g,b⟩:=Dc.Ac.mp c
   exact .inr ⟨z,x,r,a z x g,g,rfl,by rw[b];rfl⟩⟩
theorem BY.append {H:Hp} {ps a:List Addr} {b c:List (List V)} (h:BY H ps b) (h':BY H a c):BY H (ps++a) (b++c):=by
 induction h with
 |nil=>exact h'
 |cons h _ d=>exact .cons h d
theorem BY.get {H:Hp} {ps:List Addr} {a:List (List V)} (h:BY H ps a) {j:Nat} {p:Addr} (e:ps[j]?=some p):∃xs,a[j]?=some xs/\H p=some (.tup xs):=by
 induction h generalizing j with
 |nil=>cases e
 |cons h _ b=>
  cases j with
  |zero=>cases e;exact⟨_,rfl,h⟩
  |succ j=>exact b (by simpa using e)
def DZ (n:Nat):Sp:=fun f H Q _=>∃(d:Dc) (t:Addr) (b:List V),f=[d.val,.ref t]/\d.At H/\d.ok/\d.slim/\d.deep<=n/\H t=some (.tup b)/\b.length+d.size<=1000/\
 ∀(p:Addr) (c:List Addr) (e:List (List V)) (a:Hp),AG H a->H p=none->a p=some (.lst (c.map V.ref))->c.length=d.size->BY a c (e.map (b++·))->Pw d e->Q (.ref p) a
theorem Fv {d:Dc} {H':Hp} {xs:List V} {ps:List Addr} {c:List (List V)} (f:BY H' ps (c.map (xs++·))) (P:Pw d c):∀(j:Nat) q,ps[j]?=some q->∃zs,H' q=some (.tup (xs++zs))/\(d.sub zs).isSome=true/\(0<j->zs≠[]):=by
 intro j z g
 obtain⟨o,a,h⟩:=f.get g
 rw[List.getElem?_map]at a
 cases b:c[j]? with
 |none=>rw[b]at a;cases a
 |some r=>
  rw[b]at a
  cases a
  refine⟨r,h,(P.mem r).mp (AAD b),fun i k=>?_⟩
  subst k
  have e:=P.hd
  rw[List.head?_eq_getElem?]at e
  obtain⟨l,m⟩:=AAB e
  obtain⟨l1,n⟩:=AAB b
  exact(List.pairwise_iff_getElem.mp P.nd) 0 j l l1 i (m.trans n.symm)
theorem Av.one {H H':Hp} {t v:Dc} (F:Av H H' [t,v]):BQ H H' t:=by
 have at_:=F.at_
 simp only[Dc.CY]at at_
 have nd:=F.nd
 simp only[Dc.AH]at nd
 have m:∀a∈t.addrs,a∈Dc.AH [t,v]:=fun a b=>by simp only[Dc.AH];exact List.mem_append_left _ b
 exact⟨F.same,at_.1,(List.nodup_append.mp nd).1,fun a b=>F.own a (m a b),fun a b=>F.new a (m a b)⟩
theorem Av.two {H H':Hp} {t v:Dc} (F:Av H H' [t,v]):BQ H H' v:=by
 have at_:=F.at_
 simp only[Dc.CY]at at_
 have nd:=F.nd
 simp only[Dc.AH,List.append_nil]at nd
 have m:∀a∈v.addrs,a∈Dc.AH [t,v]:=fun a b=>by simp only[Dc.AH,List.append_nil];exact List.mem_append_right _ b
 exact⟨F.same,at_.2.1,(List.nodup_append.mp nd).2.1,fun a b=>F.own a (m a b),fun a b=>F.new a (m a b)⟩
theorem Av.apart {H H':Hp} {t v:Dc} (F:Av H H' [t,v]):∀a∈v.addrs,a∉t.addrs:=fun a b c=>by
 have nd:=F.nd
 simp only[Dc.AH,List.append_nil]at nd
 exact(List.nodup_append.mp nd).2.2 a c a b rfl
theorem BQ.insert {G H H4:Hp} {t v e:Dc} {s:List V} {lv:V} {b:Addr} (F:Av G H [t,v]) (i:t.sub s=some e) (A:e.room lv=true) (w:e.val=.ref b) (B:b∈e.addrs) (j:(e.CT lv v).At H4) (k:∀a o,a≠b->H a=some o->H4 a=some o) (C:∀o u,H4 b≠some (.CK o u)):BQ G H4 (t.Aw s (e.CT lv v)):=by
 have f:=F.one
 have g:=F.two
 have P:=Dc.BD.sub i
 have wt:=Dc.EI t f.at_
 have m:=Dc.Pa (v:=v) A
 have p:e.addrs.Nodup:=by
  obtain⟨l,r,D,_⟩:=Dc.CN (n:=e) wt f.nd i
  have:=f.nd
  rw[D]at this
  exact(List.nodup_append.mp (List.nodup_append.mp this).1).2.1
 refine f.edit i w B ((Dc.HK ..).trans w) j k (m.nodup_iff.mpr (List.nodup_append.mpr ⟨p,g.nd,fun x E y I z=>F.apart y I (by rw[<-z];exact P.addrs x E)⟩)) (fun c q=>?_) (fun c q=>?_)
 ·by_cases d:c=b
  ·rw[d];exact C
  ·rcases List.mem_append.mp (m.mem_iff.mp q)with h|h
   ·exact Bs (Dc.there f.at_ (P.addrs c h)) (f.own c (P.addrs c h)) fun o=>k c o d
   ·exact Bs (Dc.there g.at_ h) (g.own c h) fun o=>k c o d
 ·rcases List.mem_append.mp (m.mem_iff.mp q)with h|h
  ·exact .inl h
  ·exact .inr ⟨F.apart c h,g.new c h⟩
def Mr:Sp:=fun g H Q _=>∃(G:Hp) (d v:Dc) (t:Addr) (b:List V),g=[d.val,.ref t,v.val]/\Av G H [d,v]/\d.size<=200/\H t=some (.tup b)/\steps b/\b≠[]/\
 (∀c f e,b=c++[f]->d.sub c=some e->e.room f=true->∀a,BQ G a (d.Aw c (e.CT f v))->Q d.val a)/\(∀a,AG H a->Q .BL a)
theorem Dc.Ms {e v:Dc} {z:V} (h:e.ok) (b:v.ok) (sz:Dc.BB z):(Dc.CT e z v).ok:=by
 cases e with
 |leaf w=>cases z<;>exact h
 |row a c=>
  cases z with
  |int i=>
   simp only[Dc.CT,Dc.ok]at h⊢
   refine Dc.BC.mpr fun y q=>?_
   rcases List.mem_append.mp q with q|q
   ·exact Dc.BC.mp h y (List.mem_of_mem_take q)
   ·rcases List.mem_cons.mp q with rfl|q
    ·exact b
    ·exact Dc.BC.mp h y (List.mem_of_mem_drop q)
  |_=>exact h
 |tab a f c=>
  cases z with
  |str k=>
   simp only[Dc.CT,Dc.ok]at h⊢
   refine⟨fun y q=>?_,Dc.BC.mpr fun y q=>?_⟩
   ·rcases List.mem_append.mp q with q|q
    ·exact h.1 y q
    ·rw[List.mem_singleton.mp q]
     rcases sz with⟨i,e⟩|⟨g,e,d⟩
     ·cases e
     ·cases e;exact d
   ·rcases List.mem_append.mp q with q|q
    ·exact Dc.BC.mp h.2 y q
    ·rw[List.mem_singleton.mp q];exact b
  |_=>exact h
theorem GZ {v:V} (h:¬big v):Cz (.leaf v):=fun t y e=>by
 cases t with
 |nil=>cases e;exact h
 |cons z r=>exact absurd rfl (Dc.Ej (v:=v) (Dc.Ac.mp e).choose_spec.1)
theorem Py {a:Addr}:Cz (.row a []):=fun t y e=>by
 cases t with
 |nil=>cases e
 |cons z r=>
  obtain⟨x,b,_⟩:=Dc.Ac.mp e
  obtain⟨i,_,h⟩:=Dc.Cf.mp b
  simp at h
theorem Pz {a:Addr}:Cz (.tab a [] []):=fun t y e=>by
 cases t with
 |nil=>cases e
 |cons z r=>
  obtain⟨x,b,_⟩:=Dc.Ac.mp e
  obtain⟨i,k,_,_,h⟩:=(Dc.B' rfl List.nodup_nil).mp b
  simp at h
theorem P_ {a:Addr} {v:V} (h:¬big v):Cz (.row a [.leaf v]):=fun t y e=>by
 cases t with
 |nil=>cases e
 |cons z r=>
  obtain⟨x,c,b⟩:=Dc.Ac.mp e
  obtain⟨i,_,g⟩:=Dc.Cf.mp c
  rw[List.mem_singleton.mp (AAD g)]at b
  exact GZ h r y b
theorem P' {a:Addr} {k:Str} {v:V} (h:¬big v):Cz (.tab a [k] [.leaf v]):=fun t y e=>by
 cases t with
 |nil=>cases e
 |cons z r=>
  obtain⟨x,c,b⟩:=Dc.Ac.mp e
  obtain⟨i,k,_,_,g⟩:=(Dc.B' rfl (by simp)).mp c
  rw[List.mem_singleton.mp (AAD g)]at b
  exact GZ h r y b
structure HZ (H:Hp) (w:Str) (zs rest:List V):Prop where
 pc:w="put"∨w="change"->∃v:Dc,rest=[v.val]/\v.At H/\v.ok/\v.size<=2/\Cz v
 cm:w="copy"∨w="move"->∃p2,rest=[.ref p2]/\H p2=some (.tup zs)
 ak:w="ask"->∃v:Dc,rest=[v.val]/\v.At H/\v.ok/\v.size<=40
 is:w="is"->∃x:Str,rest=[.str x]
theorem HZ.up {H H':Hp} {w:Str} {zs rest:List V} (h:HZ H w zs rest) (s:AG H H'):HZ H' w zs rest:=
 ⟨fun e=>by obtain⟨v,a,b,c⟩:=h.pc e;exact⟨v,a,Dc.Ad s b,c⟩,fun e=>by obtain⟨p,a,b⟩:=h.cm e;exact⟨p,a,s _ _ b⟩,fun e=>by obtain⟨v,a,b,c⟩:=h.ak e;exact⟨v,a,Dc.Ad s b,c⟩,h.is⟩
structure Rx (H:Hp) (r:V) (w:Str) (xs zs:List V) (p:Addr):Prop where
 rw:Rw H r w xs zs p
 th:∃(a:Addr) (rest:List V),r=.ref a/\H a=some (.tup (.str w::.ref p::rest))/\HZ H w zs rest
theorem Rx.up {H H':Hp} {r:V} {w:Str} {xs zs:List V} {p:Addr} (h:Rx H r w xs zs p) (s:AG H H'):Rx H' r w xs zs p:=by
 obtain⟨b,a,rest,e,c,d⟩:=h
 exact⟨b.up s,a,rest,e,s _ _ c,d.up s⟩
def KS:Sp:=fun c H Q _=>∃(d:Dc) (r:V) (w:Str) (e f:List V) (p:Addr),c=[d.val,r]/\d.At H/\d.ok/\d.size<=60/\Rx H r w e f p/\∀(b:Bool) a,AG H a->Q (.bl b) a
mutual
theorem Dc.QA {H:Hp}:∀d:Dc,d.At H->d.ok->d.size<64->d.tr.doc/\d.tr.deep<=d.size
 | .leaf v,_,h,_=>by
  rcases(show HA v from h)with⟨i,rfl,_⟩|⟨x,rfl,e⟩
  ·exact⟨trivial,Nat.le_refl _⟩
  ·have:=Nu e
   exact⟨show x.length<=100 by lia,Nat.le_refl _⟩
 | .row a b,t,h,z=>by
  simp only[Dc.ok]at h
  simp only[Dc.At]at t
  simp only[Dc.size]at z
  obtain⟨c,f⟩:=Dc.Mt b t.2 h (by lia)
  exact⟨c,by simp only[Dc.tr,Pt.deep,Dc.size];lia⟩
 | .tab a g b,t,h,z=>by
  simp only[Dc.ok]at h
  simp only[Dc.At]at t
  simp only[Dc.size]at z
  obtain⟨c,f⟩:=Dc.Mt b t.2.2.2 h.2 (by lia)
  have j:=Dc.Es b
  refine⟨⟨?_,t.2.2.1,h.1,by have:=t.2.1;lia,c⟩,by simp only[Dc.tr,Pt.deep,Dc.size];lia⟩
  rw[Dc.Qh,List.length_map];exact t.2.1
theorem Dc.Mt {H:Hp}:∀xs:List Dc,Dc.CY H xs->Dc.Gd xs->Dc.Ae xs<64->Pt.KJ (Dc.Xh xs)/\Pt.Cn (Dc.Xh xs)<=Dc.Ae xs
 |[],_,_,_=>⟨trivial,Nat.le_refl _⟩
 |x::r,t,h,z=>by
  simp only[Dc.Gd]at h
  simp only[Dc.CY]at t
  simp only[Dc.Ae]at z
  obtain⟨a,c⟩:=Dc.QA x t.1 h.1 (by lia)
  obtain⟨b,d⟩:=Dc.Mt r t.2 h.2 (by lia)
  exact⟨⟨a,b⟩,by simp only[Dc.Xh,Pt.Cn,Dc.Ae];lia⟩
end
theorem Dc.fE (d:Dc) (b:Bool):d.tr≠.bl b:=by
 cases d with
 |leaf v=>cases v<;>simp[Dc.tr]
 |row a c=>simp[Dc.tr]
 |tab a e c=>simp[Dc.tr]
theorem VO {K:AAE} [BH K] {d e:Dc} {H:Hp} {Q:VK} (a:d.At H) (c:e.At H) (f:d.ok) (g:e.ok) (j:d.size<=60) (k:e.size<=60) (q:∀b,Q (.bl b) H):@Xl K _ d.val e.val H Q:=by
 obtain⟨h,l⟩:=Dc.QA d a f (by lia)
 obtain⟨i,m⟩:=Dc.QA e c g (by lia)
 exact⟨d.tr,e.tr,Dc.Us d a,Dc.Us e c,Dc.fE d,.inl ⟨h,i⟩,by lia,q _⟩
theorem BQ.fF {H H':Hp} {d:Dc} (F:BQ H H' d):Av H H' [d]:=
 ⟨F.same,by simp only[Dc.CY];exact⟨F.at_,trivial⟩,by simp only[Dc.AH,List.append_nil];exact F.nd,fun a b=>F.own a (by simpa only[Dc.AH,List.append_nil]using b),fun a b=>F.new a (by simpa only[Dc.AH,List.append_nil]using b)⟩
theorem Av.taken {G H H4:Hp} {t e x:Dc} {s:List V} {lv:V} {b:Addr} (F:BQ G H t) (v:t.sub s=some e) (D:e.sub [lv]=some x) (E:e.val=.ref b) (K:b∈e.addrs) (L:b∈(e.B_ lv).addrs) (w:(e.B_ lv).At H4) (p:∀a o,a≠b->H a=some o->H4 a=some o) (M:∀o u,H4 b≠some (.CK o u)):Av G H4 [t.Aw s (e.B_ lv),x]:=by
 have P:=Dc.BD.sub v
 have N:=Dc.BD.sub D
 have wt:=Dc.EI t F.at_
 have O:=Dc.EI e (P.at_ F.at_)
 have A:=Dc.Pb O D
 obtain⟨l,r,Q,R⟩:=Dc.CN (n:=e.B_ lv) wt F.nd v
 have j:=F.nd
 rw[Q]at j
 obtain⟨S,Z,T⟩:=List.nodup_append.mp j
 obtain⟨n4,U,W⟩:=List.nodup_append.mp S
 obtain⟨X,Y,I⟩:=List.nodup_append.mp (A.nodup_iff.mpr U)
 have i:∀c,c∈(e.B_ lv).addrs->c∈e.addrs:=fun c d=>A.mem_iff.mp (List.mem_append_right _ d)
 have f:∀c,c∈x.addrs->c∈e.addrs:=fun c d=>A.mem_iff.mp (List.mem_append_left _ d)
 have J:b∉x.addrs:=fun z=>I b z b L rfl
 have k:BQ G H4 (t.Aw s (e.B_ lv)):=F.edit v E K ((Dc.OB ..).trans E) w p Y
  (fun c d=>by
   by_cases m:c=b
   ·rw[m];exact M
   ·exact Bs (Dc.there F.at_ (P.addrs c (i c d))) (F.own c (P.addrs c (i c d))) fun o=>p c o m)
  (fun c d=>.inl (i c d))
 have B:x.At H4:=Dc.Bk x (fun c d o h=>p c o (fun z=>J (by rw[<-z];exact d)) h) (N.at_ (P.at_ F.at_))
 refine⟨k.same,by simp only[Dc.CY];exact⟨k.at_,B,trivial⟩,?_,fun c d=>?_,fun c d=>?_⟩
 ·simp only[Dc.AH,List.append_nil]
  refine List.nodup_append.mpr ⟨k.nd,X,fun y g z C q=>?_⟩
  subst q
  rw[R]at g
  rcases List.mem_append.mp g with g|g
  ·rcases List.mem_append.mp g with g|g
   ·exact W y g y (f y C) rfl
   ·exact I y C y g rfl
  ·exact T y (List.mem_append_right _ (f y C)) y g rfl
 ·simp only[Dc.AH,List.append_nil]at d
  rcases List.mem_append.mp d with d|d
  ·exact k.own c d
  ·exact Bs (Dc.there F.at_ (P.addrs c (f c d))) (F.own c (P.addrs c (f c d))) fun o=>p c o fun z=>J (by rw[<-z];exact d)
 ·simp only[Dc.AH,List.append_nil]at d
  rcases List.mem_append.mp d with d|d
  ·exact k.new c d
  ·exact F.new c (P.addrs c (f c d))
def JP:Sp:=fun f H Q _=>∃(d:Dc) (r:V) (w:Str) (c e:List V) (p:Addr),f=[d.val,r]/\d.At H/\d.ok/\d.size<=30/\Rx H r w c e p/\
 (∀(a:Dc) (b:Hp),AG H b->a.At b->a.ok->a.size<=60->(w="take"->a.size<=d.size)->(Uq d->Fh d w c e a)->Q a.val b)/\(¬(w="take"/\(d.sub c).isSome=true)->∀b,AG H b->Q .BL b)
theorem JQ {H H':Hp} {d e:Dc} (a:d.At H) (b:e.At H') (l:Dc.CS d e):ZJ d e:=ZJ.of (Dc.EI d a) (Dc.EI e b) (Dc.KA d e l)
theorem IE {d e:Dc} {q:List V} (ok:d.ok) (h:d.sub q=some e):steps q:=(Dc.Ef ok h).1
theorem Dc.Mu {e x n:Dc} {z:V} (h:e.sub [z]=some x):(e.Aw [z] n).val=e.val:=by
 rcases Dc.sub_one h with⟨a,b,i,rfl,rfl,c⟩|⟨a,d,b,k,rfl,rfl,c⟩<;>rfl
def EA (H:Hp) (b:List V):Prop:=∀v∈b,∃(p:Addr) (a:List V),v=.ref p/\H p=some (.tup a)/\steps a/\a≠[]/\a.length<=40
theorem OY {d a:Hp} {l:Addr} {b:List V} {ps:List Addr} (s:AG d a) (f:d l=some (.lst b)) (S:EA d b) (new:∀q∈ps,∃xs,a q=some (.tup xs)/\steps xs/\xs≠[]/\xs.length<=40):EA (upd a l (.lst (b++ps.map V.ref))) (b++ps.map V.ref):=by
 have k:∀{q:Addr} {xs:List V},a q=some (.tup xs)->upd a l (.lst (b++ps.map V.ref)) q=some (.tup xs):=fun h=>by
  rw[AN (Di h (s _ _ f) (by intro z;cases z))];exact h
 intro v c
 rcases List.mem_append.mp c with c|c
 ·obtain⟨p,xs,e,g,r⟩:=S v c
  exact⟨p,xs,e,k (s _ _ g),r⟩
 ·obtain⟨q,i,rfl⟩:=List.mem_map.mp c
  obtain⟨xs,h,r⟩:=new q i
  exact⟨q,xs,rfl,k h,r⟩
theorem EA.up {H H':Hp} {a:List V} (S:EA H a) (s:∀q xs,H q=some (.tup xs)->H' q=some (.tup xs)):EA H' a:=fun v b=>by
 obtain⟨p,xs,e,c,r⟩:=S v b
 exact⟨p,xs,e,s _ _ c,r⟩
def KU:Sp:=fun e H Q _=>∃(d:Dc) (n:Addr) (b:List Str),e=[d.val,.ref n]/\d.At H/\d.ok/\d.size<=30/\H n=some (.lst (b.map V.str))/\b.length<=6/\(∀y∈b,BS y=true)/\
 ∀(l:Addr) (c:List V) (a:Hp),AG H a->a l=some (.lst c)->c.length<=970->EA a c->Q (.ref l) a
def IF:Sp:=fun h H Q _=>∃(w:Str) (t:Addr) (c:Int) (d:Dc) (n:Addr) (g:List V) (e:Dc) (b:List Str),h=[.str w,.ref t,.int c,d.val,.ref n]/\(w="ask"∨w="is"∨w="has")/\H t=some (.tup g)/\steps g/\d.At H/\d.ok/\d.size<=30/\d.sub g=some e/\H n=some (.lst (b.map V.str))/\b.length<=6/\0<b.length/\(∀y∈b,BS y=true)/\
 ∀(a:Addr) (rest:List V) (f:Hp),AG H f->f a=some (.tup (.str w::.ref t::rest))->HZ f w [] rest->Q (.ref a) f
def QB:Sp:=fun e H Q _=>∃(c:Int) (d:Dc) (n:Addr) (a:List Str),e=[.int c,d.val,.ref n]/\d.At H/\d.ok/\d.size<=30/\H n=some (.lst (a.map V.str))/\a.length<=6/\0<a.length/\(∀y∈a,BS y=true)/\
 ∀(r:V) (w:Str) (f g:List V) (p:Addr) (b:Hp),AG H b->Rx b r w f g p->Q r b
theorem HZ.no {H:Hp} {w:Str} {zs rest:List V} (h:w∈(["take","has","lacks"]:List Str)):HZ H w zs rest:=by
 simp only[List.mem_cons,List.not_mem_nil,or_false]at h
 rcases h with rfl|rfl|rfl<;>exact⟨fun z=>absurd z (by decide),fun z=>absurd z (by decide),fun z=>absurd z (by decide),fun z=>absurd z (by decide)⟩
theorem HZ.val {H:Hp} {w:Str} {zs:List V} {v:Dc} (h:w="put"∨w="change") (a:v.At H) (b:v.ok) (c:v.size<=2) (d:Cz v):HZ H w zs [v.val]:=by
 rcases h with rfl|rfl<;>exact⟨fun _=>⟨v,rfl,a,b,c,d⟩,fun z=>absurd z (by decide),fun z=>absurd z (by decide),fun z=>absurd z (by decide)⟩
theorem HZ.two {H:Hp} {w:Str} {zs:List V} {p:Addr} (h:w="copy"∨w="move") (a:H p=some (.tup zs)):HZ H w zs [.ref p]:=by
 rcases h with rfl|rfl<;>exact⟨fun z=>absurd z (by decide),fun _=>⟨p,rfl,a⟩,fun z=>absurd z (by decide),fun z=>absurd z (by decide)⟩
theorem HZ.ask {H:Hp} {zs:List V} {v:Dc} (a:v.At H) (b:v.ok) (c:v.size<=40):HZ H "ask" zs [v.val]:=⟨fun z=>absurd z (by decide),fun z=>absurd z (by decide),fun _=>⟨v,rfl,a,b,c⟩,fun z=>absurd z (by decide)⟩
theorem HZ.wB {H:Hp} {zs:List V} {x:Str}:HZ H "is" zs [.str x]:=⟨fun z=>absurd z (by decide),fun z=>absurd z (by decide),fun z=>absurd z (by decide),fun _=>⟨x,rfl⟩⟩
theorem Fi {H:Hp} {a p:Addr} {w:Str} {xs zs rest:List V} (b:H a=some (.tup (.str w::.ref p::rest))) (c:H p=some (.tup xs)) (d:steps xs) (g:xs.length<=40) (e:w∈FY) (nx:w="put"∨w="lacks"∨w="take"∨w="move"->xs≠[]) (T:HZ H w zs rest) (sz:steps zs) (h:zs.length<=40) (f:w="copy"∨w="move"->zs≠[]):Rx H (.ref a) w xs zs p:=
 ⟨⟨⟨a,rest,rfl,b,T.cm⟩,c,d,sz,by lia,by lia,e,nx,f⟩,a,rest,rfl,b,T⟩
def VP (K:AAE) (a:Addr):It:=
 ⟨fun i H=>∃b x,A_ K H a b/\b[i]?=some x,fun i H v c=>∃T x,(∀b,A_ K H a b->b[i]?=some x)/\v=.ref T/\H T=none/\c=upd H T (.tup [.int (i:Int),x]),fun i H=>∃b,A_ K H a b/\b.length=i⟩
theorem QC {P:Program} {w:World} {K:AAE} {es:List Expr} {kt:Nat} {pt:Pos} (a e it:Addr) (ne:e≠it):Turn P w K (.Tuple es kt pt) (VP K a) [e,it] e (fun i h=>(∃old,IsEnum h e it (i:Nat) old)/\h.IsListIter it a i)where
 mem:=by simp
 obj:=fun i h st b hb=>by
  rcases List.mem_cons.mp hb with rfl|hb
  ·obtain⟨⟨old,x⟩,_⟩:=st
   exact⟨_,x,fun v z=>by cases z⟩
  ·rw[List.mem_singleton.mp hb]
   obtain⟨_,o,x,_,d⟩:=st
   exact⟨o,x,fun v z=>by rw[d]at z;cases z⟩
 keep:=fun i h h' st k=>⟨let⟨old,x⟩:=st.1;⟨old,k e (by simp) _ x⟩,st.2.at fun o x=>k it (by simp) o x⟩
 item:=by
  intro X hP hw hK hc i pins s σ H E I hf st hg
  subst hP hw hK
  obtain⟨xs,x,hq,hx⟩:=hg
  obtain⟨its,rv,p,hz⟩:=I.list hq
  obtain⟨u,hu,ru⟩:=rv.get hx
  obtain⟨⟨old,he⟩,hit⟩:=st
  have ht:s.heap.IsList a its.toArray:=p.isList
  have av:a≠it:=fun z=>by
   obtain⟨o,h1,h2,_⟩:=ht
   obtain⟨o',g1,g2,_⟩:=hit
   rw[z,g1]at h1
   cases h1
   rw[g2]at h2
   exact absurd (Value.type.inj h2) (by decide)
  have kJ:a≠e:=fun z=>by
   obtain⟨o,h1,h2,_⟩:=ht
   rw[z,he]at h1
   cases h1
   exact absurd (Value.type.inj h2) (by decide)
  have kK:i<its.toArray.size:=by
   have:=(AAB hu).1
   simpa using this
  refine wpAny_pyNext_enum_itemD (Draws.list (A:=X.A.in1) (I.ok.hd hc) it a av its.toArray) he ⟨hit,ht⟩ kK ne (by simp[ne,Ne.symm kJ]) fun y h1 tk hy ho fB hT hsz hk=>?_
  have ey:y=u:=by
   have aw:its.toArray[i]?=some y:=hy
   rw[List.getElem?_toArray]at aw
   rw[hu]at aw
   exact(AAC aw).symm
  subst ey
  refine⟨_,rfl,wpAny_letOwnedTupleGo_enum ho fun h2 kL S'=>?_⟩
  have le:e<s.heap.objs.size:=Heap.lt_size he
  have li:it<s.heap.objs.size:=by obtain⟨o,g1,_⟩:=hit;exact Heap.lt_size g1
  have nT:∀b∈[e,it],b≠s.heap.objs.size:=fun b hb=>by
   rcases List.mem_cons.mp hb with rfl|hb
   ·exact Nat.ne_of_lt le
   ·rw[List.mem_singleton.mp hb];exact Nat.ne_of_lt li
  have I1:Inv X pins σ (upd H s.heap.objs.size (.tup [.int (i:Int),x])) {s with heap:=s.heap.push {cls:=.type "tuple",data:=.seq #[.int i tk,y]},toks:=tk+1}:=
   I.laid (fun b o q=>Heap.get?_push_of_some _ q) (Nat.le_refl _) ⟨Aq,[.int i tk,y],.cons ⟨tk,rfl⟩ (.cons ru .nil),⟨_,Heap.get?_push_size _ rfl,rfl,_,rfl⟩⟩
  have ff:∀b∈[e,it],EC X pins (upd H s.heap.objs.size (.tup [.int (i:Int),x])) b:=fun b hb=>⟨by rw[AN (nT b hb)];exact(hf b hb).1,(hf b hb).2⟩
  have I2:=Inv.Qn (h':=h2) (t':=tk+1) (it:=e) (jt:=it) I1 (fun b o b1 b2 q=>by
   refine(S'.2 b b1).trans ?_
   by_cases hb:b=s.heap.objs.size
   ·subst hb
    have q:(s.heap.push {cls:=.type "tuple",data:=.seq #[.int i tk,y]}).get? s.heap.objs.size=some o:=q
    rw[Heap.get?_push_size _ rfl]at q
    rw[hT]
    exact q
   ·refine hk b o b1 b2 ?_
    have q:(s.heap.push {cls:=.type "tuple",data:=.seq #[.int i tk,y]}).get? b=some o:=q
    rwa [Heap.get?_push_ne _ _ _ hb]at q) (ff e (by simp)) (ff it (by simp))
  refine⟨.ref s.heap.objs.size,_,I2,rfl,⟨_,x,(fun ys hy=>by rw[I.NM hy hq];exact hx),rfl,I.fresh,rfl⟩,⟨⟨y,by simpa using kL⟩,fB.1.extBut S'.extBut (Ne.symm ne)⟩,fun b hb=>(ff b hb).1⟩
 done:=by
  intro X hP hw hK hc i pins s σ H E I hf st hg
  subst hP hw hK
  obtain⟨xs,hq,hx⟩:=hg
  obtain⟨its,rv,p,hz⟩:=I.list hq
  obtain⟨⟨old,he⟩,hit⟩:=st
  have ht:s.heap.IsList a its.toArray:=p.isList
  have av:a≠it:=fun z=>by
   obtain⟨o,h1,h2,_⟩:=ht
   obtain⟨o',g1,g2,_⟩:=hit
   rw[z,g1]at h1
   cases h1
   rw[g2]at h2
   exact absurd (Value.type.inj h2) (by decide)
  obtain⟨f0,f1,f2,f3,f4,f5⟩:=hf it (by simp)
  have hl:=rv.length
  have en:i=its.toArray.size:=by simp;lia
  exact wpAny_pyNext_enum_endD (Draws.list (A:=X.A.in1) (I.ok.hd hc) it a av its.toArray) he (by rw[<-en];exact⟨hit,ht⟩) fun h' eb=>⟨rfl,I.turned (t':=s.toks) (fun b o hb q=>eb b o hb q) f0 f1 f3 f4 f5⟩
 self:=fun _ _ _ _ _ st h=>let⟨_,x⟩:=st.1;wpAny_pyIter_enum x h
section
variable{X:Cx} {es:List Expr} {kt:Nat} {pt:Pos}
def a_ (K:AAE) (c:TA):TI:=fun d H R=>c d H fun e b=>∃a f,e=[.ref a]/\A_ K b a f/\R (VP K a) b
theorem VQ {x:Str} {p pos:Pos} {e:Expr} {j:TA} (l:Gl X x) (m:X.mg x=none) (n:bootBuiltins x=some (.type "enumerate")) (o:PA X [e] j) (r:x≠"__name__":=by decide) (f:(x==("__debug__":Str))=false:=by decide)
  (t:starEach [e] X.env=(false,eval e X.env)::starEach [] X.env:=by rfl) (g:(backTo pos (starEach [] X.env)).any (·.1)=false:=by rfl):PI X (.Tuple es kt pt) (.Call (.Name x p) [e] [] pos) (a_ X.K j):=by
 intro pins s v H R I h
 refine wpAny_Call_Name_kw (FN I l m n ?_ r f)
 refine PyProof.Rows.callWith_type1 (Bl (o pos pins s v H _ I h) fun J c w=>w.elim fun L y d z A=>?_) t g
 obtain⟨a,M,rfl,B,q⟩:=A
 obtain⟨u,rfl,C⟩:=vals1 z
 cases C
 obtain⟨D,N,E,O⟩:=d.list B
 refine call_enumerate_list E.isList fun P k F sz G=>?_
 refine wpAny_pyIter_enum k ?_
 refine⟨c.heap.objs.size+1,[c.heap.objs.size+1,c.heap.objs.size],_,_,y,rfl,d.kept (t':=c.toks) G,QC a _ _ (Nat.succ_ne_self _),⟨⟨_,k⟩,F⟩,fun b i=>?_,q⟩
 have e:c.heap.objs.size<=b:=by
  rcases List.mem_cons.mp i with rfl|i
  ·exact Nat.le_succ _
  ·rw[List.mem_singleton.mp i];exact Nat.le_refl _
 exact d.NN e (d.BV.fresh e)
end
theorem Sf {K:AAE} {a:Addr} {xs:List V} {g:TG} {j:TS} {D:Ends} {σ:St} {H:Hp} (Pv:Nat->St->Hp->Prop) (l:Pv 0 σ H) (n:∀i σ H,i<=xs.length->Pv i σ H->A_ K H a xs)
  (o:∀i x σ H T,xs[i]?=some x->Pv i σ H->H T=none->g (.ref T) σ (upd H T (.tup [.int (i:Int),x])) fun b h=>j {D with nx:=Pv (i+1),ct:=Pv (i+1),bk:=D.nx} b h) (r:∀σ H,Pv xs.length σ H->D.nx σ H):
  ∃W:Nat->Nat->St->Hp->Prop,(∃m,W 0 m σ H)/\∀i m σ H,W i m σ H->
   ((VP K a).stop i H/\D.nx σ H)∨((VP K a).go i H/\∃N:St->Hp->Prop,(∀c d,N c d->∃k,k<m/\W (i+1) k c d)/\∀x d,(VP K a).Sy i H x d->g x σ d fun b h=>j {D with nx:=N,ct:=N,bk:=D.nx} b h):=by
 refine⟨fun i m σ H=>m=xs.length-i/\i<=xs.length/\Pv i σ H,⟨xs.length,by simp,Nat.zero_le _,l⟩,?_⟩
 rintro i m σ H ⟨rfl,s,p⟩
 have q:=n i σ H s p
 by_cases f:i<xs.length
 ·refine .inr ⟨⟨xs,xs[i],q,by simp[f]⟩,Pv (i+1),fun c d t=>⟨xs.length-(i+1),by lia,rfl,f,t⟩,fun v d y=>?_⟩
  obtain⟨T,x,u,rfl,w,rfl⟩:=y
  exact o i x σ H T (u xs q) p w
 ·have e:i=xs.length:=by lia
  subst e
  exact .inl ⟨⟨xs,q,rfl⟩,r σ H p⟩
inductive VR:Nat->Dc->Prop
 |leaf (m:Nat):VR m (.leaf (.int (10 ^ 20+(m:Int))))
 |kids {m:Nat} {d:Dc} (e:∀v,d≠.leaf v) (a:V->Nat) (f:∀z x,d.sub [z]=some x->1<=a z/\a z<=19) (h:∀z x,d.sub [z]=some x->VR (m*20+a z) x) (inj:∀z b x c,d.sub [z]=some x->d.sub [b]=some c->a z=a b->z=b):VR m d
theorem VR.num {m:Nat} {d:Dc} (h:VR m d):∀{q:List V} {y:V},d.sub q=some (.leaf y)->∃N:Nat,y=.int (10 ^ 20+(N:Int))/\20 ^ q.length*m<=N/\N<20 ^ q.length*(m+1):=by
 induction h with
 |leaf m=>
  intro q y a
  cases q with
  |nil=>rw[Dc.As]at a;cases a;exact⟨m,rfl,by simp,by simp⟩
  |cons z r=>exact absurd rfl (Dc.Ej (Dc.Ac.mp a).choose_spec.1)
 |@kids m d f g i h inj j=>
  intro q y a
  cases q with
  |nil=>rw[Dc.As]at a;exact absurd (AAC a) (f y)
  |cons z r=>
   obtain⟨x,c,k⟩:=Dc.Ac.mp a
   obtain⟨N,e,l,n⟩:=j z x c k
   obtain⟨o,p⟩:=i z x c
   have b:20 ^ (z::r).length=20 ^ r.length*20:=Nat.pow_succ ..
   refine⟨N,e,?_,?_⟩
   ·rw[b,Nat.mul_assoc]
    exact Nat.le_trans (Nat.mul_le_mul_left _ (by lia)) l
   ·rw[b,Nat.mul_assoc]
    exact Nat.lt_of_lt_of_le n (Nat.mul_le_mul_left _ (by lia))
theorem VR.big {m:Nat} {d:Dc} (h:VR m d) {q:List V} {y:V} (a:d.sub q=some (.leaf y)):big y:=by
 obtain⟨N,e,_⟩:=h.num a
 exact⟨_,e,by lia⟩
theorem Lg {l1 l2 a b N:Nat} (h:l1<l2) (c:a+1<=20*b) (f:N<20 ^ l1*(a+1)) (d:20 ^ l2*b<=N):False:=by
 have e:20 ^ l2=20 ^ l1*20 ^ (l2-l1-1)*20:=by
  rw[<-Nat.pow_add,<-Nat.pow_succ]
  congr 1
  lia
 have p:1<=20 ^ (l2-l1-1):=Nat.one_le_pow _ _ (by decide)
 have g:20 ^ l1*(a+1)<=20 ^ l1*(20*b):=Nat.mul_le_mul_left _ c
 have i:20 ^ l1*(20*b)<=20 ^ l1*20 ^ (l2-l1-1)*(20*b):=Nat.mul_le_mul_right _ (Nat.le_mul_of_pos_right _ p)
 rw[e,Nat.mul_assoc]at d
 lia
theorem VR.uq {m:Nat} {d:Dc} (h:VR m d):Uq d:=by
 induction h with
 |leaf m=>
  intro j k y _ a f
  have n:∀{q},Dc.sub (.leaf (.int (10 ^ 20+(m:Int)))) q=some (.leaf y)->q=[]:=fun{q} B=>by
   cases q with
   |nil=>rfl
   |cons z r=>exact absurd rfl (Dc.Ej (Dc.Ac.mp B).choose_spec.1)
  rw[n a,n f]
 |@kids m d p g s h inj C=>
  intro j k y b a f
  cases j with
  |nil=>rw[Dc.As]at a;exact absurd (AAC a) (p y)
  |cons z1 t=>
   cases k with
   |nil=>rw[Dc.As]at f;exact absurd (AAC f) (p y)
   |cons z2 u=>
    obtain⟨i,k1,v⟩:=Dc.Ac.mp a
    obtain⟨l,k2,w⟩:=Dc.Ac.mp f
    by_cases e:g z1=g z2
    ·have D:=inj z1 z2 i l k1 k2 e
     subst D
     rw[k1]at k2;cases k2
     rw[C z1 i k1 t u y b v w]
    ·exfalso
     obtain⟨N,E,l1,o⟩:=(h z1 i k1).num v
     obtain⟨F,x,l2,A⟩:=(h z2 l k2).num w
     have G:N=F:=by
      rw[E]at x
      have:=V.int.inj x
      lia
     subst G
     obtain⟨J,H⟩:=s z1 i k1
     obtain⟨K,I⟩:=s z2 l k2
     rcases Nat.lt_trichotomy t.length u.length with c|c|c
     ·exact Lg c (by lia) o l2
     ·rw[c]at l1 o
      have j:=Nat.lt_of_mul_lt_mul_left (Nat.lt_of_le_of_lt l1 A)
      have k:=Nat.lt_of_mul_lt_mul_left (Nat.lt_of_le_of_lt l2 o)
      lia
     ·exact Lg c (by lia) A l1
structure cg (m:Nat) (x y:Dc):Prop where
 iM:VR m y
 ok:y.ok
 sb:y.addrs.Sublist x.addrs
 sz:y.size<=2*x.size
 lf:∀v,x=.leaf v->y.size=1
namespace Dc
theorem JR {H:Hp}:∀{xs:List Dc},(∀x∈xs,x.At H)->CY H xs
 |[],_=>trivial
 |x::r,h=>⟨h x List.mem_cons_self,JR fun y a=>h y (List.mem_cons_of_mem _ a)⟩
theorem BZ {b:Addr}:∀{xs:List Dc},b∈AH xs↔∃x∈xs,b∈x.addrs
 |[]=>by simp[AH]
 |x::r=>by
  simp only[AH,List.mem_append,BZ (xs:=r),List.mem_cons]
  constructor
  ·rintro(h|⟨y,c,a⟩)
   ·exact⟨x,.inl rfl,h⟩
   ·exact⟨y,.inr c,a⟩
  ·rintro⟨y,rfl|c,a⟩
   ·exact .inl a
   ·exact .inr ⟨y,c,a⟩
theorem HV {b:Addr}:∀{xs:List Dc} {i j:Nat} {x y:Dc},(AH xs).Nodup->xs[i]?=some x->xs[j]?=some y->i≠j->b∈x.addrs->b∉y.addrs
 |[],_,_,_,_,_,h,_,_,_=>by simp at h
 |z::r,0,0,_,_,_,_,_,g,_=>absurd rfl g
 |z::r,0,j+1,x,y,a,c,d,_,f=>fun k=>by
  simp only[AH]at a
  cases c
  exact(List.nodup_append.mp a).2.2 b f b (BZ.mpr ⟨y,AAD (by simpa using d),k⟩) rfl
 |z::r,i+1,0,x,y,a,c,d,_,f=>fun k=>by
  simp only[AH]at a
  cases d
  exact(List.nodup_append.mp a).2.2 b k b (BZ.mpr ⟨x,AAD (by simpa using c),f⟩) rfl
 |z::r,i+1,j+1,x,y,a,c,d,g,f=>by
  simp only[AH]at a
  exact HV (List.nodup_append.mp a).2.1 (by simpa using c) (by simpa using d) (fun e=>g (by rw[e])) f
theorem Ga:∀{xs ws:List Dc},ws.length=xs.length->(∀(j:Nat) x y,xs[j]?=some x->ws[j]?=some y->y.addrs.Sublist x.addrs)->(AH ws).Sublist (AH xs)
 |[],[],_,_=>.refl _
 |[],_::_,l,_=>by simp at l
 |_::_,[],l,_=>by simp at l
 |x::xs,w::ws,l,h=>by
  simp only[AH]
  exact(h 0 x w rfl rfl).append (Ga (by simpa using l) fun j a b c d=>h (j+1) a b (by simpa using c) (by simpa using d))
theorem OZ:∀{xs ws:List Dc},ws.length=xs.length->(∀(j:Nat) x y,xs[j]?=some x->ws[j]?=some y->y.size<=2*x.size)->Ae ws<=2*Ae xs
 |[],[],_,_=>Nat.le_refl _
 |[],_::_,l,_=>by simp at l
 |_::_,[],l,_=>by simp at l
 |x::xs,w::ws,l,h=>by
  simp only[Ae]
  have:=h 0 x w rfl rfl
  have:=OZ (xs:=xs) (ws:=ws) (by simpa using l) fun j a b c d=>h (j+1) a b (by simpa using c) (by simpa using d)
  lia
theorem Lh {v:V}:∀{xs ws:List Dc},ws.length=(xs++[leaf v]).length->(∀(j:Nat) x y,(xs++[leaf v])[j]?=some x->ws[j]?=some y->y.size<=2*x.size/\∀v,x=leaf v->y.size=1)->Ae ws<=2*Ae xs+1
 |[],[],l,_=>by simp at l
 |[],[w],_,h=>by
  have:=(h 0 _ w rfl rfl).2 v rfl
  simp only[Ae]
  lia
 |[],_::_::_,l,_=>by simp at l
 |_::_,[],l,_=>by simp at l
 |x::xs,w::ws,l,h=>by
  simp only[Ae]
  have:=(h 0 x w rfl rfl).1
  have:=Lh (v:=v) (xs:=xs) (ws:=ws) (by simpa using l) fun j a b c d=>h (j+1) a b (by simpa using c) (by simpa using d)
  lia
end Dc
theorem Dc.Fj {x:Dc}:∀{xs:List Dc},(Dc.AH xs).Nodup->x∈xs->x.addrs.Nodup
 |[],_,h=>nomatch h
 |y::r,a,h=>by
  simp only[Dc.AH]at a
  rcases List.mem_cons.mp h with rfl|h
  ·exact(List.nodup_append.mp a).1
  ·exact Dc.Fj (List.nodup_append.mp a).2.1 h
abbrev zero:Dc:=.leaf (.int 0)
structure Sg (xs ZK:List Dc):Prop where
 sb:(Dc.AH ZK).Sublist (Dc.AH xs)
 mem:∀x∈ZK,x∈xs∨x=zero
 len:ZK.length<=xs.length+1
 sz:∀ws:List Dc,ws.length=ZK.length->(∀(j:Nat) x y,ZK[j]?=some x->ws[j]?=some y->y.size<=2*x.size/\∀v,x=.leaf v->y.size=1)->Dc.Ae ws<=2*Dc.Ae xs+1
theorem Sg.snoc (xs:List Dc):Sg xs (xs++[zero]):=by
 refine⟨?_,fun x a=>?_,by simp,fun b l h=>Dc.Lh l h⟩
 ·rw[Dc.AU]
  have:Dc.AH [zero]=[]:=rfl
  rw[this,List.append_nil]
  exact .refl _
 ·rcases List.mem_append.mp a with a|a
  ·exact .inl a
  ·exact .inr (List.mem_singleton.mp a)
theorem Sg.set {xs:List Dc} {j:Nat} {x:Dc} (h:xs[j]?=some x):Sg xs (xs.set j zero):=by
 refine⟨Dc.Ga (by simp) fun i a b d c=>?_,fun y f=>List.mem_or_eq_of_mem_set f,by simp,fun k l g=>?_⟩
 ·by_cases e:j=i
  ·subst e
   rw[List.getElem?_set_self (AAB h).1]at c
   cases c
   exact List.nil_sublist _
  ·rw[List.getElem?_set_ne e]at c
   rw[d]at c;cases c
   exact .refl _
 ·have d:=Dc.OZ l fun j x y a b=>(g j x y a b).1
  have c:=Dc.Hw (y:=zero) h
  have m:=Dc.size_pos x
  simp only[Dc.size]at c
  lia
structure JC (ZK:List Dc) (dn:Nat->Option Nat) (m:Nat) (Hi:Hp) (ws:List Dc):Prop where
 len:ws.length=ZK.length
 pt:∀(j:Nat) x y,ZK[j]?=some x->ws[j]?=some y->(∀g,dn j=some g->cg (m*20+g) x y)/\(dn j=none->y=x)
 at_:Dc.CY Hi ws
 own:∀b∈Dc.AH ws,∀o u,Hi b≠some (.CK o u)
theorem JC.sub {a ws:List Dc} {b:Nat->Option Nat} {m:Nat} {c:Hp} (I:JC a b m c ws) {j:Nat} {x y:Dc} (d:a[j]?=some x) (f:ws[j]?=some y):y.addrs.Sublist x.addrs:=by
 obtain⟨h,i⟩:=I.pt j x y d f
 cases e:b j with
 |none=>rw[i e];exact .refl _
 |some g=>exact(h g e).sb
theorem JC.get {a ws:List Dc} {b:Nat->Option Nat} {m:Nat} {e:Hp} (I:JC a b m e ws) {j:Nat} {x:Dc} (c:a[j]?=some x) (f:b j=none):ws[j]?=some x:=by
 have h:=(AAB c).1
 obtain⟨d,g⟩:∃d,ws[j]?=some d:=⟨_,AAA (by rw[I.len];exact h)⟩
 rw[g,(I.pt j x _ c g).2 f]
theorem JC.step {a:Addr} {c ws:List Dc} {E l:Nat->Option Nat} {m g:Nat} {F A L:Hp} {j:Nat} {x y:Dc} (I:JC c E m F ws) (N:a∉Dc.AH c) (T:(Dc.AH c).Nodup) (B:c[j]?=some x) (Y:E j=none)
  (O:FW x.addrs F A) (n:y.At A) (r:∀b∈y.addrs,∀o u,A b≠some (.CK o u)) (M:cg (m*20+g) x y) (C:∀b o,b≠a->A b=some o->L b=some o) (P:l j=some g) (U:∀i,i≠j->l i=E i):JC c l m L (ws.set j y):=by
 have V:=(AAB B).1
 have G:j<ws.length:=by rw[I.len];exact V
 have H:∀b∈x.addrs,b∈Dc.AH c:=fun b f=>Dc.BZ.mpr ⟨x,AAD B,f⟩
 have Q:∀b∈y.addrs,b≠a:=fun b f e=>N (by rw[<-e];exact H b (M.sb.subset f))
 have other:∀(i:Nat) w,i≠j->ws[i]?=some w->∀b∈w.addrs,b∉x.addrs/\b≠a:=fun i w W hw b f=>by
  have X:=(AAB hw).1
  obtain⟨R,J⟩:∃R,c[i]?=some R:=⟨_,AAA (by rw[<-I.len];exact X)⟩
  have s:=(I.sub J hw).subset f
  exact⟨Dc.HV T J B W s,fun e=>N (by rw[<-e];exact Dc.BZ.mpr ⟨_,AAD J,s⟩)⟩
 have t:∀w∈ws,w.At F:=fun w hw=>Dc.CD I.at_ w hw
 refine⟨by rw[List.length_set];exact I.len,fun i p q K D=>?_,Dc.JR fun w hw=>?_,fun b f=>?_⟩
 ·by_cases e:j=i
  ·subst e
   rw[List.getElem?_set_self G]at D
   cases D
   rw[B]at K;cases K
   refine⟨fun Z v=>?_,fun v=>by rw[P]at v;cases v⟩
   rw[P]at v;cases v
   exact M
  ·rw[List.getElem?_set_ne e]at D
   rw[U i (Ne.symm e)]
   exact I.pt i p q K D
 ·obtain⟨i,k⟩:=List.getElem?_of_mem hw
  by_cases e:j=i
  ·subst e
   rw[List.getElem?_set_self G]at k
   cases k
   exact Dc.Bk y (fun b f o h=>C b o (Q b f) h) n
  ·rw[List.getElem?_set_ne e]at k
   have z:=other i w (Ne.symm e) k
   exact Dc.Bk w (fun b f o h=>C b o (z b f).2 (O b o (z b f).1 h)) (t w (AAD k))
 ·obtain⟨w,hw,d⟩:=Dc.BZ.mp f
  obtain⟨i,k⟩:=List.getElem?_of_mem hw
  by_cases e:j=i
  ·subst e
   rw[List.getElem?_set_self G]at k
   cases k
   exact Bs (Dc.there n d) (r b d) fun o=>C b o (Q b d)
  ·rw[List.getElem?_set_ne e]at k
   have z:=other i w (Ne.symm e) k b d
   have S:=AAD k
   exact Bs (Dc.there (t w S) d) (I.own b (Dc.BZ.mpr ⟨w,S,d⟩)) fun o h=>C b o z.2 (O b o z.1 h)
theorem JC.size {xs a ws:List Dc} {b:Nat->Option Nat} {m:Nat} {d:Hp} (I:JC a b m d ws) (Z:Sg xs a) (all:∀j,j<a.length->∃g,b j=some g):Dc.Ae ws<=2*Dc.Ae xs+1:=
 Z.sz ws I.len fun j x y c e=>by
  obtain⟨g,f⟩:=all j (AAB c).1
  have M:=(I.pt j x y c e).1 g f
  exact⟨M.sz,M.lf⟩
theorem JC.Gd {a ws:List Dc} {b:Nat->Option Nat} {m:Nat} {f:Hp} (I:JC a b m f ws) (all:∀j,j<a.length->∃g,b j=some g):Dc.Gd ws:=Dc.BC.mpr fun w hw=>by
 obtain⟨i,c⟩:=List.getElem?_of_mem hw
 have d:=(AAB c).1
 obtain⟨e,h⟩:∃e,a[i]?=some e:=⟨_,AAA (by rw[<-I.len];exact d)⟩
 obtain⟨g,k⟩:=all i (by rw[<-I.len];exact d)
 exact((I.pt i _ w h c).1 g k).ok
theorem JC.fG {xs a ws:List Dc} {b:Nat->Option Nat} {m:Nat} {c:Hp} (I:JC a b m c ws) (Z:Sg xs a):(Dc.AH ws).Sublist (Dc.AH xs):=(Dc.Ga I.len fun j x y d e=>I.sub d e).trans Z.sb
theorem JC.tH {a ws:List Dc} {b:Nat->Option Nat} {m g:Nat} {e:Hp} (I:JC a b m e ws) {j:Nat} {y:Dc} (c:ws[j]?=some y) (f:b j=some g):VR (m*20+g) y:=by
 have h:=(AAB c).1
 obtain⟨d,i⟩:∃d,a[j]?=some d:=⟨_,AAA (by rw[<-I.len];exact h)⟩
 exact((I.pt j _ y i c).1 g f).iM
theorem Xr {a:Addr} {xs b ws:List Dc} {f:Nat->Option Nat} {m:Nat} {l:Hp} (I:JC b f m l ws) (Z:Sg xs b) (l19:b.length<=19) (all:∀j,j<b.length->f j=some (j+1)):cg m (.row a xs) (.row a ws):=by
 have c:∀j,j<b.length->∃g,f j=some g:=fun j h=>⟨_,all j h⟩
 have k:∀{j:Nat} {y:Dc},ws[j]?=some y->j<b.length:=fun h=>by rw[<-I.len];exact(AAB h).1
 refine⟨.kids (fun v z=>by cases z) (fun z=>match z with| .int i=>i.toNat+1|_=>0) (fun z x h=>?_) (fun z x h=>?_) (fun z q x r h n e=>?_),?_,?_,?_,fun v z=>by cases z⟩
 ·obtain⟨j,rfl,d⟩:=Dc.Cf.mp h
  have:=k d
  simp only[Int.toNat_natCast]
  lia
 ·obtain⟨j,rfl,d⟩:=Dc.Cf.mp h
  simp only[Int.toNat_natCast]
  exact I.tH d (all j (k d))
 ·obtain⟨j,rfl,d⟩:=Dc.Cf.mp h
  obtain⟨o,rfl,p⟩:=Dc.Cf.mp n
  simp only[Int.toNat_natCast]at e
  have:j=o:=by lia
  rw[this]
 ·simp only[Dc.ok];exact I.Gd c
 ·simp only[Dc.addrs];exact(I.fG Z).cons₂ a
 ·have:=I.size Z c
  simp only[Dc.size]
  lia
theorem Xs {a:Addr} {ks b i:List Str} {xs c ws:List Dc} {p:Nat->Option Nat} {m:Nat} {u:Hp} (I:JC c p m u ws) (Z:Sg xs c) (lk:b.length=c.length) (n:b.Nodup) (q:∀k∈b,BS k=true) (s:i.Perm b) (l19:c.length<=19) (all:∀(j:Nat) k,b[j]?=some k->p j=some (Dc.ix i k+1)):cg m (.tab a ks xs) (.tab a b ws):=by
 have o:b.length=ws.length:=by rw[I.len];exact lk
 have d:∀j,j<c.length->∃g,p j=some g:=fun j h=>⟨_,all j _ (AAA (by rw[lk];exact h))⟩
 have f:∀{j:Nat} {k:Str},b[j]?=some k->k∈i:=fun h=>s.mem_iff.mpr (AAD h)
 refine⟨.kids (fun v z=>by cases z) (fun z=>match z with| .str k=>Dc.ix i k+1|_=>0) (fun z x h=>?_) (fun z x h=>?_) (fun z D x E h w e=>?_),?_,?_,?_,fun v z=>by cases z⟩
 ·obtain⟨j,k,rfl,l,_⟩:=(Dc.B' o n).mp h
  have:=Dc.OC (f l)
  have:=s.length_eq
  simp only
  lia
 ·obtain⟨j,k,rfl,l,y⟩:=(Dc.B' o n).mp h
  exact I.tH y (all j k l)
 ·obtain⟨j,k,rfl,l,_⟩:=(Dc.B' o n).mp h
  obtain⟨F,A,rfl,r,_⟩:=(Dc.B' o n).mp w
  simp only at e
  have t:=Dc.Dg (f l)
  have B:=Dc.Dg (f r)
  have C:Dc.ix i k=Dc.ix i A:=by lia
  rw[C,B]at t
  cases t
  rfl
 ·simp only[Dc.ok];exact⟨q,I.Gd d⟩
 ·simp only[Dc.addrs];exact(I.fG Z).cons₂ a
 ·have:=I.size Z d
  simp only[Dc.size]
  lia
def Fl (n:Nat):Sp:=fun e H Q _=>∃(d:Dc) (m:Nat),e=[d.val,.int (m:Int)]/\d.At H/\d.ok/\d.addrs.Nodup/\(∀a∈d.addrs,∀o u,H a≠some (.CK o u))/\1<=n/\((∀v,d≠.leaf v)->d.deep+1<=n)/\d.size<=15/\(m+1)*20 ^ n<=20 ^ 60/\
 ∀(b:Dc) (c:Hp),FW d.addrs H c->b.At c->(∀a∈b.addrs,∀o u,c a≠some (.CK o u))->cg m d b->Q b.val c
theorem Li {a:List Dc} {m:Nat} {H:Hp} {c:Nat->Option Nat} (h:Dc.CY H a) (o:∀b∈Dc.AH a,∀o u,H b≠some (.CK o u)) (f:∀j,c j=none):JC a c m H a:=⟨rfl,fun j x y i d=>by
 rw[i]at d
 cases d
 exact⟨(fun g e=>by rw[f]at e;cases e),fun _=>rfl⟩,h,o⟩
theorem QD {m n:Nat} (h:(m+1)*20 ^ n<=20 ^ 60) (v:V):cg m (.leaf v) (.leaf (.int (10 ^ 20+(m:Int)))):=by
 have p:1<=20 ^ n:=Nat.one_le_pow _ _ (by decide)
 have b:m+1<=20 ^ 60:=Nat.le_trans (Nat.le_mul_of_pos_right _ p) h
 have a:(20:Nat) ^ 60+10 ^ 20<2 ^ 400:=by decide+kernel
 have e:(10 ^ 20+(m:Int)).natAbs=10 ^ 20+m:=by lia
 exact⟨.leaf m,.inl ⟨_,rfl,by rw[e];exact Nat.lt_of_le_of_lt (show 10 ^ 20+m<=20 ^ 60+10 ^ 20 by lia) a⟩,.refl _,by simp[Dc.size],fun _ _=>rfl⟩
theorem Qp {m n g:Nat} (h:(m+1)*20 ^ (n+1)<=20 ^ 60) (a:g<=19):(m*20+g+1)*20 ^ n<=20 ^ 60:=by
 have e:(m+1)*20 ^ (n+1)=(m*20+20)*20 ^ n:=by rw[Nat.pow_succ];lia
 rw[e]at h
 exact Nat.le_trans (Nat.mul_le_mul_right _ (by lia)) h
theorem VS {ks:List Str} {xs:List Dc} (l:ks.length=xs.length) (n:ks.Nodup) (z:Str):∃(a:List Str) (b:List Dc),putK (Dc.kvs ks xs) (Sum.inr z) (.int 0)=Dc.kvs a b/\Sg xs b/\a.length=b.length/\a.Nodup/\∀k∈a,k∈ks∨k=z:=by
 by_cases h:z∈ks
 ·have g:=Dc.Dg h
  obtain⟨x,d⟩:∃x,xs[Dc.ix ks z]?=some x:=⟨_,AAA (by rw[<-l];exact Dc.OC h)⟩
  refine⟨ks,xs.set (Dc.ix ks z) zero,?_,Sg.set d,by rw[List.length_set];exact l,n,fun k c=>.inl c⟩
  rw[Dz,Dz,J' (by rw[List.length_map];exact l) n g,List.map_set]
  rfl
 ·have e:BX (Dc.kvs ks xs) (Sum.inr z)=none:=by
   rw[Dc.Cv l]
   cases f:(ks.zip xs).lookup z with
   |none=>rfl
   |some x=>exact absurd (Dc.Aj f).1 h
  refine⟨ks++[z],xs++[zero],?_,Sg.snoc xs,by simp[l],MK n h,fun k c=>?_⟩
  ·rw[Gp _ e,Dc.Jq z zero l]
   rfl
  ·rcases List.mem_append.mp c with c|c
   ·exact .inl c
   ·exact .inr (List.mem_singleton.mp c)
def a' (ks a:List Str) (i j:Nat):Option Nat:=match ks[j]? with
 |some k=>if Dc.ix a k<i then some (Dc.ix a k+1)else none
 |none=>none
theorem fH {a:List Str} (n:a.Nodup) {i:Nat} {k:Str} (h:a[i]?=some k):Dc.ix a k=i:=Dc.DT n (Dc.Dg (AAD h)) h
theorem JC.up {a ws:List Dc} {d:Nat->Option Nat} {m:Nat} {H H':Hp} (I:JC a d m H ws) (s:AG H H'):JC a d m H' ws:=
 ⟨I.len,I.pt,Dc.BJ ws (fun c _ o h=>s c o h) I.at_,fun b e=>Bs (Dc.FV I.at_ e) (I.own b e) (s b)⟩
theorem bA:BS "zzzzzzzz"=true:=by decide+kernel
def Oa (y:V):Option Dc->Bool
 |some (.leaf v)=>decide (v=y)
 |_=>false
theorem Ob {y:V} {o:Option Dc}:Oa y o=true↔o=some (.leaf y):=by
 constructor
 ·intro h
  unfold Oa at h
  split at h
  ·rw[of_decide_eq_true h]
  ·cases h
 ·rintro rfl
  exact decide_eq_true rfl
def KW (d:Dc) (y:V) (a:List (List V)):List (List V):=a.filter fun q=>Oa y (d.sub q)
def Lj (H:Hp) (kvs:List (Key×V)) (d:Dc) (a:List (List V)) (k:Key):Prop:=(BX kvs k=none/\KW d (kV k) a=[])∨∃(l:Addr) (b:List Addr),BX kvs k=some (.ref l)/\H l=some (.lst (b.map V.ref))/\BY H b (KW d (kV k) a)
theorem Lj.up {H H':Hp} {kvs:List (Key×V)} {d:Dc} {f:List (List V)} {k:Key} (h:Lj H kvs d f k) (s:AG H H'):Lj H' kvs d f k:=by
 rcases h with h|⟨l,g,a,b,c⟩
 ·exact .inl h
 ·exact .inr ⟨l,g,a,s _ _ b,c.up fun b i e=>s _ _ e⟩
def Dq (H:Hp) (D:Addr) (d:Dc) (a:List (List V)):Prop:=∃kvs:List (Key×V),H D=some (.dK kvs)/\kvs.length<=a.length/\∀k:Key,Lj H kvs d a k
theorem Dq.up {H H':Hp} {D:Addr} {d:Dc} {a:List (List V)} (h:Dq H D d a) (s:AG H H'):Dq H' D d a:=by
 obtain⟨kvs,b,c,e⟩:=h
 exact⟨kvs,s _ _ b,c,fun k=>(e k).up s⟩
def Mv:Sp:=fun c H Q _=>∃d:Dc,c=[d.val]/\d.At H/\d.ok/\d.size<=60/\∀(D:Addr) (a:List (List V)) (b:Hp),AG H b->Dq b D d a->Pw d a->a.length<=60->Q (.ref D) b
theorem Oc {d:Dc} {y:V} {a:List (List V)} {q:List V}:KW d y (a++[q])=KW d y a++if Oa y (d.sub q)=true then[q]else[]:=by
 unfold KW
 rw[List.filter_append]
 congr 1
 by_cases c:Oa y (d.sub q)=true
 ·rw[if_pos c];simp[c]
 ·rw[if_neg c];simp[c]
theorem bB {v:V} (h:Dc.Lf v):∃k:Key,v=kV k:=by
 rcases h with⟨i,rfl⟩|⟨x,rfl,_⟩
 ·exact⟨.inl i,rfl⟩
 ·exact⟨.inr x,rfl⟩
theorem VT (kvs:List (Key×V)) (k:Key) (v:V):(putK kvs k v).length<=kvs.length+1:=by
 unfold putK
 split<;>simp
def FJ (w:Str) (zs q:List V):Bool:= !(decide (w="copy")&&decide (zs<+:q))
theorem Lk {w:Str} {zs q:List V}:FJ w zs q=true↔(w="copy"->¬zs<+:q):=by
 unfold FJ
 by_cases c:w="copy"<;>by_cases c2:zs<+:q<;>simp[c,c2]
theorem VU {l:List (List V)} {q:List V} (c:l.Nodup) (h:∀x,x∈l↔x=q):l=[q]:=by
 cases l with
 |nil=>exact absurd ((h q).mpr rfl) (by simp)
 |cons a r=>
  have d:=(h a).mp (by simp)
  subst d
  cases r with
  |nil=>rfl
  |cons b r=>
   have e:=(h b).mp (by simp)
   subst e
   exact absurd c (by simp)
theorem bC {d':Dc} {y:V} {w:Str} {xs zs a:List V} {b:List (List V)} (P:Pw d' b) (SP:∀q,(d'.sub q=some (.leaf y)/\(w="copy"->¬zs<+:q))↔BE w xs zs a=some q):(KW d' y b).filter (FJ w zs)=match BE w xs zs a with|none=>[]|some q=>[q]:=by
 have nd:((KW d' y b).filter (FJ w zs)).Nodup:=(P.nd.filter _).filter _
 have mem:∀q,q∈(KW d' y b).filter (FJ w zs)↔BE w xs zs a=some q:=fun q=>by
  rw[<-SP q,List.mem_filter,Lk]
  unfold KW
  rw[List.mem_filter,Ob,P.mem]
  constructor
  ·rintro⟨⟨_,c⟩,d⟩;exact⟨c,d⟩
  ·rintro⟨c,d⟩;exact⟨⟨by rw[c];rfl,c⟩,d⟩
 cases e:BE w xs zs a with
 |none=>
  refine List.eq_nil_iff_forall_not_mem.mpr fun q f=>?_
  have:=(mem q).mp f
  rw[e]at this
  cases this
 |some q=>
  exact VU nd fun x=>by rw[mem x,e,DY]
def Mw:Sp:=fun g H Q _=>∃(t:Addr) (a:List V) (y r:V) (w:Str) (e c:List V) (p D:Addr) (b:Dc) (d:List (List V)),g=[.ref t,y,r,.ref D]/\H t=some (.tup a)/\steps a/\a.length<=90/\big y/\Rx H r w e c p/\Dq H D b d/\Pw b d/\d.length<=60/\b.ok/\(∀q,(b.sub q=some (.leaf y)/\(w="copy"->¬c<+:q))↔BE w e c a=some q)/\∀f,AG H f->Q (.bl true) f
def IG:Sp:=fun c H Q _=>∃(t:Addr) (a:List V) (e:Dc) (r:V) (w:Str) (d f:List V) (p:Addr),c=[.ref t,e.val,r]/\H t=some (.tup a)/\steps a/\a.length<=90/\(∀v,e≠.leaf v)/\e.At H/\e.ok/\e.size<=60/\Rx H r w d f p/\∀b,AG H b->Q (.bl true) b
theorem Od:∀(q xs zs:List V),(∀z∈q,BR z=true)->∀z∈Ce xs zs q,BR z=true
 |[],_,_,_,z,a=>by cases a
 |j::r,xs,zs,h,z,a=>by
  rcases List.mem_cons.mp (show z∈BF xs zs j::Ce (BK xs j) (BK zs j) r from a)with rfl|a
  ·have:=h j List.mem_cons_self
   cases j<;>first|exact this|rfl
  ·exact Od r _ _ (fun v b=>h v (List.mem_cons_of_mem _ b)) z a
theorem QE {w:Str} {xs zs q b:List V} (c:steps q) (sz:steps zs) (h:BE w xs zs q=some b):∀z∈b,BR z=true:=by
 unfold BE at h
 split at h
 ·cases h
 ·split at h
  ·cases h
   intro z a
   rcases List.mem_append.mp a with a|a
   ·exact(sz z a).flat
   ·exact(c z (List.mem_of_mem_drop a)).flat
  ·cases h
   exact Od _ _ _ fun z a=>(c z a).flat
theorem KX {xs:List V} (h:∀z∈xs,BR z=true):Bz xs xs=true:=by
 unfold Bz
 simp only[Bool.and_eq_true,beq_self_eq_true,and_true,List.all_eq_true,List.mem_range]
 intro j b
 have a:j<xs.length:=by lia
 rw[List.getD_eq_getElem?_getD,AAA a]
 exact Nz (h _ (List.getElem_mem a))
theorem QF {w:Str} {xs zs q:List V} (h:¬(FA (.str w) [.str "take",.str "change"]=true/\xs<+:q)):∃a,BE w xs zs q=some a:=by
 unfold BE
 rw[if_neg h]
 split<;>exact⟨_,rfl⟩
theorem KQ.up {H H':Hp} {v:V} {o:Option (List V)} (h:KQ H v o) (s:AG H H'):KQ H' v o:=by
 cases o with
 |none=>exact h
 |some d=>obtain⟨b,a,c⟩:=h;exact⟨b,a,s _ _ c⟩
end L2
namespace CJ
open PySem L2
def top (i:Nat):Stmt:=PySem.Challenge.pw_patchbough_k82_where_parts_stand_behind.main.body.getD i (.Pass ⟨0,0,0,0⟩)
abbrev Fw:Stmt:=top 1
abbrev Fx:Stmt:=top 4
abbrev Em:Stmt:=top 5
abbrev En:Stmt:=top 6
abbrev DN:Stmt:=top 7
abbrev DO:Stmt:=top 8
abbrev CC:Stmt:=top 9
abbrev Eo:Stmt:=top 10
abbrev Fy:Stmt:=top 11
abbrev CV:Stmt:=top 12
abbrev Cp:Stmt:=top 13
abbrev IH:Stmt:=top 14
abbrev Ll:Stmt:=top 16
abbrev QG:Stmt:=top 17
abbrev II:Stmt:=top 18
abbrev Lm:Stmt:=top 19
abbrev Ln:Stmt:=top 20
abbrev Sh:Stmt:=top 21
abbrev KY:Stmt:=top 22
abbrev IJ:Stmt:=top 23
abbrev Si:Stmt:=top 24
abbrev IK:Stmt:=top 25
abbrev Lo:Stmt:=top 26
abbrev Gb:Stmt:=top 27
abbrev IL:Stmt:=top 28
abbrev IM:Stmt:=top 29
abbrev Fz:Stmt:=top 30
abbrev F_:Stmt:=top 31
abbrev Sk:Stmt:=top 32
abbrev E':Stmt:=top 33
abbrev IP:Stmt:=top 34
abbrev DP:Stmt:=top 35
abbrev CW:Stmt:=top 36
abbrev Mx:Stmt:=top 37
end CJ
namespace CJ
open PySem L2
section
variable{P:Program} {w:World} {K:AAE} [BH K] {mg:Str->Option Value} {base:Heap}
theorem Oe:An ["one","other"] ["one","other"] (AK Fw):=⟨rfl,rfl,rfl,by decide+kernel,rfl,by decide+kernel,by decide+kernel⟩
def HW:Sp:=fun f H Q _=>∃(a b:Addr) (c d:List V),f=[.ref a,.ref b]/\H a=some (.tup c)/\H b=some (.tup d)/\(∀z∈c,BR z=true)/\(∀z∈d,BR z=true)/\∀e,AG H e->Q (.bl (Bz (d.take c.length) c)) e
theorem Sl {f:Addr} {d:FuncData} (F:EH K "begins" "begins" Fw f d) (T:Txt mg):Bb P w K mg base Dk 1 f d ["one","other"] HW:=by
 refine F.ok Oe (fun n H Q E h=>?_) (fun o A outer s H n Q E e h=>?_)
 ·obtain⟨a,b,r,g,rfl,c,i,j,k,q⟩:=h
  rfl
 ·obtain⟨a,b,r,g,rfl,c,i,j,k,q⟩:=h
  have nd:=Oe.nd
  have v:=Be e
  refine⟨_,(AI (AO (Cr (Hu (Am.Cg e)) (BN CP (pv 1) Bv (Bd (AL AZ rfl T.len PySem.boot_len (AA (pv 0) AB)))) (pv 0) (AS _)))),?_⟩
  refine⟨_,rfl,_,rfl,a,_,rfl,.inr (Ap.of c),_,rfl,b,g,rfl,i,fun p t l m=>?_⟩
  rw[JI]at m
  exact⟨_,rfl,p,a,_,_,rfl,rfl,Ap.of m,Ap.of (l _ _ c),fun z u=>k z (List.mem_of_mem_take u),j,q t l⟩
end
end CJ
namespace CJ
open PySem L2
section
variable{P:Program} {w:World} {K:AAE} [BH K] {mg:Str->Option Value} {base:Heap}
theorem Of:An ["row"] ["row"] (AK Fx):=⟨rfl,rfl,rfl,by decide+kernel,rfl,by decide+kernel,by decide+kernel⟩
theorem Sn {f:Addr} {e:FuncData} (F:EH K "gone_by" "gone_by" Fx f e) (T:Txt mg):Bb P w K mg base Dk 1 f e ["row"] (LU [.str "take",.str "change"]):=by
 refine F.ok Of (fun j H Q E h=>?_) (fun k A outer s H j Q E l h=>?_)
 ·obtain⟨r,g,m,n,p,rfl,R,q⟩:=h
  rfl
 ·obtain⟨r,g,m,n,p,rfl,R,q⟩:=h
  have nd:=Of.nd
  have u:=Be l
  refine⟨_,(AD (Ag (AM (DE:Ep _ _ (WK K false)) (AY (r:=Ax K) AW (pv 0) AF (fun _ _=>rfl)) (BI (AA Ab (AA Ab AB))) rfl) (AI (AO (AY (r:=Ax K) AW (pv 0) AF (fun _ _=>rfl)))) AQ)
   (AI (AO Bg))),?_⟩
  obtain⟨a,rest,rfl,i,o⟩:=R.ex
  refine⟨_,rfl,a,_,0,.str g,rfl,rfl,Ap.of i,HY,Aq,fun t c=>⟨t,_,rfl,.inr (Ap.of AE),rfl,rfl,_,rfl,?_⟩⟩
  refine Ia (fun h=>?_) (fun h=>?_)
  ·have d:∀b,AG H b->Q (.ref p) b:=fun b s=>by
    have:=q b s
    rw[if_pos h]at this
    exact this
   exact⟨_,rfl,a,_,1,_,rfl,rfl,Ap.of (AG.new c _ _ i),GD,d _ (AG.new c)⟩
  ·have d:∀b,AG H b->Q .BL b:=fun b s=>by
    have:=q b s
    rw[h,if_neg Bool.false_ne_true]at this
    exact this
   exact d _ (AG.new c)
end
end CJ
namespace CJ
open PySem L2
section
variable{P:Program} {w:World} {K:AAE} [BH K] {mg:Str->Option Value} {base:Heap}
theorem Lp:An ["row"] ["row"] (AK Em):=⟨rfl,rfl,rfl,by decide+kernel,rfl,by decide+kernel,by decide+kernel⟩
theorem QH {f:Addr} {b:FuncData} (F:EH K "moved_by" "moved_by" Em f b) (T:Txt mg):Bb P w K mg base Dk 1 f b ["row"] Mc:=by
 refine F.ok Lp (fun e H Q E h=>?_) (fun g A outer s H e Q E i h=>?_)
 ·obtain⟨r,c,j,k,p,rfl,R,q⟩:=h
  rfl
 ·obtain⟨r,c,j,k,p,rfl,R,q⟩:=h
  have nd:=Lp.nd
  have m:=Be i
  refine⟨_,(AD (Ag (AM Bj (AY (r:=Ax K) AW (pv 0) AF (fun _ _=>rfl)) Ab (AS _)) (AI (AO (AY (r:=Ax K) AW (pv 0) AF (fun _ _=>rfl)))) AQ)
   (AI (AO Bg))),?_⟩
  obtain⟨a,rest,rfl,d,l⟩:=R.ex
  refine⟨_,rfl,a,_,0,.str c,rfl,rfl,Ap.of d,HY,rfl,_,rfl,?_⟩
  refine CG (fun h=>?_) (fun h=>?_)
  ·rw[if_pos h]at q
   exact⟨_,rfl,a,_,1,_,rfl,rfl,Ap.of d,GD,q⟩
  ·rw[if_neg h]at q
   exact q
end
end CJ
namespace CJ
open PySem L2
section
variable{P:Program} {w:World} {K:AAE} [BH K] {mg:Str->Option Value} {base:Heap}
theorem Lq:An ["step"] ["step"] (AK En):=⟨rfl,rfl,rfl,by decide+kernel,rfl,by decide+kernel,by decide+kernel⟩
theorem QI {f:Addr} {a:FuncData} (F:EH K "is_place" "is_place" En f a) (T:Txt mg):Bb P w K mg base Dk 1 f a ["step"] Fs:=by
 refine F.ok Lq (fun c H Q E h=>?_) (fun d A outer s H c Q E e h=>?_)
 ·obtain⟨z,rfl,b,q⟩:=h
  rfl
 ·obtain⟨z,rfl,b,q⟩:=h
  have nd:=Lq.nd
  have g:=Be e
  refine⟨_,(AI (AO (Zj (AL Ah rfl T.isinstance AR (AA (pv 0) (AA (Ao (v:=.ty "str") rfl T.str Nt rfl) AB)))))),?_⟩
  rcases b with⟨i,rfl⟩|⟨k,rfl,_⟩
  ·exact⟨_,rfl,_,"str","int",rfl,rfl,.int _,_,rfl,q⟩
  ·exact⟨_,rfl,_,"str","str",rfl,rfl,.str _,_,rfl,q⟩
end
end CJ
namespace CJ
open PySem L2
section
variable{P:Program} {w:World} {K:AAE} [BH K] {mg:Str->Option Value} {base:Heap}
theorem Ig:An ["path","holder"] ["path","holder"] (AK DN):=⟨rfl,rfl,rfl,by decide+kernel,rfl,by decide+kernel,by decide+kernel⟩
theorem My {f:Addr} {Z:FuncData} (F:EH K "place_into" "place_into" DN f Z) (T:Txt mg) (m:Df P w K mg base "begins" ["one","other"] 1 HW) (b:Df P w K mg base "is_place" ["step"] 1 Fs):Bb P w K mg base Dk 2 f Z ["path","holder"] Ph:=by
 obtain⟨G,I,n,o,t,u⟩:=m.ex
 obtain⟨y,B,c,d,g,i⟩:=b.ex
 refine F.ok Ig (fun vs H Q E h=>?_) (fun Jg A outer s H vs Q E M h=>?_)
 ·obtain⟨p,h,l,j,rfl,N,O,R,sx,q⟩:=h
  rfl
 ·obtain⟨p,h,l,j,rfl,N,O,R,sx,q⟩:=h
  have nd:=Ig.nd
  have hu:=Be M
  have k:Am 1 _:=M.mono (by first|decide|omega)
  have a:Am 1 _:=M.mono (by first|decide|omega)
  refine⟨_,(AD (Ag (PW.pt (pw_and (Az (AJ u k rfl t n o .nil AV (AA (pv 1) (AA (pv 0) AB)))) (pw_and (AM Gg (AL AZ rfl T.len PySem.boot_len (AA (pv 1) AB)) (AL AZ rfl T.len PySem.boot_len (AA (pv 0) AB)) (AS _)) (pw_and1 (Az (AJ i a rfl g c d .nil AV (AA (AY (r:=Ax K) AW (pv 0) (AL AZ rfl T.len PySem.boot_len (AA (pv 1) AB)) (fun _ _=>rfl)) AB))))))) (AI (AO (AY (r:=Ax K) AW (pv 0) (AL AZ rfl T.len PySem.boot_len (AA (pv 1) AB)) (fun _ _=>rfl)))) AQ)
   (AI (AO Bg))),?_⟩
  have fx:∀z∈j,BR z=true:=fun z S=>(sx z S).flat
  have fy:∀z∈l,BR z=true:=fun z S=>(R z S).flat
  have no:∀J,AG H J->(Bz (l.take j.length) j&&decide (j.length<l.length)&&WL (l.getD j.length .BL))=false->Q .BL J:=fun J s e=>by
   have:=q J s
   unfold KD at this
   rw[e,if_neg Bool.false_ne_true]at this
   exact this
  refine⟨_,rfl,_,rfl,h,p,j,l,rfl,O,N,fx,fy,fun L C=>⟨_,rfl,?_⟩⟩
  have v:=C _ _ O
  have x:=C _ _ N
  refine CG (fun U=>?_) (fun U=>Au (no L C (by rw[Bool.eq_false_iff.mpr U];rfl)))
  refine⟨_,rfl,h,_,rfl,.inr (Ap.of v),_,rfl,p,_,rfl,.inr (Ap.of x),_,_,rfl,rfl,_,rfl,?_⟩
  refine CG (fun V=>?_) (fun V=>Au (no L C ?_))
  ·have D:j.length<l.length:=by have:=of_decide_eq_true V;omega
   have X:l[j.length]?=some l[j.length]:=AAA D
   have gd:l.getD j.length .BL=l[j.length]:=by rw[List.getD_eq_getElem?_getD,X];rfl
   refine⟨_,rfl,_,rfl,h,_,rfl,.inr (Ap.of v),p,_,_,_,rfl,rfl,Ap.of x,Cb X,_,rfl,R _ (List.getElem_mem D),_,rfl,?_⟩
   refine CG (fun Y=>?_) (fun Y=>no L C ?_)
   ·refine⟨_,rfl,_,rfl,h,_,rfl,.inr (Ap.of v),p,_,_,_,rfl,rfl,Ap.of x,Cb X,?_⟩
    have:=q L C
    unfold KD at this
    rw[gd,U,decide_eq_true D,Y,Bool.and_self,Bool.and_self,if_pos rfl]at this
    exact this
   ·rw[gd,Bool.eq_false_iff.mpr Y,Bool.and_false]
  ·have D:¬j.length<l.length:=fun D=>V (decide_eq_true (by omega))
   rw[decide_eq_false D,Bool.and_false,Bool.false_and]
end
end CJ
namespace CJ
open PySem L2
section
variable{P:Program} {w:World} {K:AAE} [BH K] {mg:Str->Option Value} {base:Heap}
theorem Ih:An ["path","holder","place"] ["path","holder","place"] (AK DO):=⟨rfl,rfl,rfl,by decide+kernel,rfl,by decide+kernel,by decide+kernel⟩
theorem Mz {f:Addr} {m:FuncData} (F:EH K "with_place" "with_place" DO f m) (T:Txt mg):Bb P w K mg base Dk 1 f m ["path","holder","place"] Pj:=by
 refine F.ok Ih (fun u H Q E h=>?_) (fun v A outer s H u Q E x h=>?_)
 ·obtain⟨p,h,c,a,i,rfl,n,g,y,z,q⟩:=h
  rfl
 ·obtain⟨p,h,c,a,i,rfl,n,g,y,z,q⟩:=h
  have nd:=Ih.nd
  have L:=Be x
  refine⟨_,(AI (AO (Aa Dn (Aa Dn (pv 1) (BI (AA (pv 2) AB))) (BN CP (pv 0) (Bd (Aa Bh (AL AZ rfl T.len PySem.boot_len (AA (pv 1) AB)) AF)) Bv)))),?_⟩
  refine⟨_,rfl,_,rfl,CM,fun t B=>?_⟩
  have d:=AG.new (o:=.tup [.int i]) B
  refine⟨h,t,_,_,rfl,rfl,d _ _ g,AE,BA (show a.length+1<=1000 by omega),fun C M j k=>?_⟩
  refine⟨_,rfl,_,rfl,h,_,rfl,.inr (Ap.of (j _ _ (d _ _ g))),_,_,rfl,rfl,_,rfl,p,_,rfl,j _ _ (d _ _ n),fun D N r b=>?_⟩
  have e:GA c (some ((a.length:Int)+1)) none=c.drop (a.length+1):=by
   have:=Hr c (a.length+1)
   simpa using this
  rw[e]at b
  refine⟨C,D,_,_,rfl,rfl,r _ _ k,b,BA (by simp only[List.length_append,List.length_cons,List.length_nil,List.length_drop];omega),fun G I J l=>q G I (((d.trans j).trans r).trans J) l⟩
end
end CJ
namespace CJ
open PySem L2
section
variable{P:Program} {w:World} {K:AAE} [BH K] {mg:Str->Option Value} {base:Heap}
theorem FK:An ["to","path","holder","place"] ["to","path"] (AK CC):=⟨rfl,rfl,rfl,by decide+kernel,rfl,by decide+kernel,by decide+kernel⟩
theorem IQ {f:Addr} {fd:FuncData} (F:EH K "ahead_of_taking" "ahead_of_taking" CC f fd) (T:Txt mg) (G:Df P w K mg base "is_place" ["step"] 1 Fs) (l:Df P w K mg base "place_into" ["path","holder"] 2 Ph) (m:Df P w K mg base "with_place" ["path","holder","place"] 1 Pj):Bb P w K mg base Dk 3 f fd ["to","path"] KG:=by
 obtain⟨VW,VX,I,J,L,M⟩:=G.ex
 obtain⟨U,X,n,o,u,v⟩:=l.ex
 obtain⟨Y,Z,x,y,B,C⟩:=m.ex
 refine F.ok FK (fun vs H Q E h=>?_) (fun Jg A outer s H vs Q E hr h=>?_)
 ·obtain⟨t,p,N,xs,rfl,ht,hp,nx,sz,sx,lz,lx,q⟩:=h
  rfl
 ·obtain⟨t,p,N,xs,rfl,ht,hp,nx,sz,sx,lz,lx,q⟩:=h
  have nd:=FK.nd
  have hu:=Be hr
  have D:Am 1 _:=hr.mono (by first|decide|omega)
  have a:Am 2 _:=hr.mono (by first|decide|omega)
  have b:Am 1 _:=hr.mono (by first|decide|omega)
  refine⟨_,(AD (AX (i:=2) nd rfl (Or.inl rfl) (BN CP (pv 1) Bv (Bd (Cm CA AF))))
   (AD (AX (i:=3) nd rfl (Or.inl rfl) (AJ v a rfl u n o .nil AV (AA (pv 0) (AA (pv 2) AB))))
   (AD (Ag (PW.pt (pw_or (AM JX (pv 3) Bg (AS _)) (pw_or (De (Az (AJ M D rfl L I J .nil AV (AA (AY (r:=Ax K) AW (pv 1) (Cm CA AF) (fun _ _=>rfl)) AB)))) (pw_or1 (AM Gg (pv 3) (AY (r:=Ax K) AW (pv 1) (Cm CA AF) (fun _ _=>rfl)) (AS _)))))) (AI (AO (pv 0))) AQ)
   (AD (Ag (PW.pt (pw_and (AM Bj (pv 3) (AY (r:=Ax K) AW (pv 1) (Cm CA AF) (fun _ _=>rfl)) (AS _)) (pw_and1 (AM Bj (AL AZ rfl T.len PySem.boot_len (AA (pv 0) AB)) (AL AZ rfl T.len PySem.boot_len (AA (pv 1) AB)) (AS _))))) (AI (AO (pv 0))) AQ)
   (AI (AO (AJ C b rfl B x y .nil AV (AA (pv 0) (AA (pv 2) (AA (Aa Bh (pv 3) AF) AB)))))))))),?_⟩
  obtain⟨d,lv,rfl⟩:∃d lv,xs=d++[lv]:=⟨xs.dropLast,xs.getLast nx,(List.dropLast_concat_getLast nx).symm⟩
  have su:steps d:=fun z hz=>sx z (List.mem_append_left _ hz)
  have sl:Dc.BB lv:=sx lv (by simp)
  refine⟨_,rfl,_,rfl,_,rfl,p,_,rfl,hp,fun h H1 s1 hh=>?_⟩
  rw[CQ]at hh
  refine⟨_,rfl,_,rfl,t,h,N,d,rfl,s1 _ _ ht,hh,sz,su,fun H2 s2=>?_⟩
  have O:=s1.trans s2
  have R:=O _ _ ht
  have S:=O _ _ hp
  have tJ:=s2 _ _ hh
  have lu:d.length<=400:=by simp only[List.length_append,List.length_cons,List.length_nil]at lx;omega
  have keep:Ck N (d++[lv])=N->Q (.ref t) H2:=fun e=>q t H2 O (by rw[e];exact R)
  cases hb:(Bz (N.take d.length) d&&decide (d.length<N.length)&&WL (N.getD d.length .BL))with
  |false=>
   rw[SG hb]
   exact⟨_,rfl,rfl,_,rfl,Ay rfl (BO ⟨_,rfl,keep (Pg hb)⟩)⟩
  |true=>
  obtain⟨i,g,e,b1,b2⟩:=SF sz hb
  rw[e]
  refine⟨_,rfl,rfl,_,rfl,Af rfl ?_⟩
  refine⟨_,rfl,_,rfl,p,_,_,_,rfl,rfl,Ap.of S,Br d lv,_,rfl,sl,_,rfl,?_⟩
  rcases sl with⟨j,rfl⟩|⟨k,rfl,_⟩
  ·refine Au ?_
   refine⟨_,rfl,_,rfl,_,rfl,p,_,_,_,rfl,rfl,Ap.of S,Br d _,_,_,rfl,rfl,_,rfl,?_⟩
   have ea:=SI (j:=(j:Int)) g b1
   refine CG (fun c1=>⟨_,rfl,keep (by rw[ea];exact if_neg (by have:=of_decide_eq_true c1;omega))⟩) (fun c1=>?_)
   have n1:¬(i:Int)<(j:Int):=fun z=>c1 (decide_eq_true z)
   have go:((j:Int)<(i:Int)∨((i:Int)=(j:Int)/\d.length+1<N.length))->∀q' H3,AG H2 H3->H3 q'=some (.tup (d++[.int ((i:Int)+1)]++N.drop (d.length+1)))->Q (.ref q') H3:=fun c q' H3 s3 hq=>by
    refine q q' H3 (O.trans s3) ?_
    rw[ea,if_pos c,<-Co (FX (fun z hz=>sz z (List.mem_of_mem_take hz)) su b1) b2]
    exact hq
   refine⟨_,rfl,_,rfl,_,rfl,p,_,_,_,rfl,rfl,Ap.of S,Br d _,rfl,_,rfl,?_⟩
   refine CG (fun c2=>?_) (fun c2=>Au ?_)
   ·have e2:(i:Int)=(j:Int):=by have:=of_decide_eq_true c2;exact V.int.inj this
    refine⟨_,rfl,t,_,rfl,.inr (Ap.of R),_,rfl,p,_,rfl,.inr (Ap.of S),rfl,_,rfl,?_⟩
    refine CG (fun c3=>⟨_,rfl,keep ?_⟩) (fun c3=>?_)
    ·have:=V.int.inj (of_decide_eq_true c3)
     simp only[List.length_append,List.length_cons,List.length_nil]at this
     rw[ea]
     exact if_neg (by omega)
    ·refine⟨_,rfl,_,rfl,_,rfl,_,_,rfl,rfl,t,h,N,d,_,rfl,R,tJ,lz,lu,go (.inr ⟨e2,?_⟩)⟩
     have:¬((N.length:Nat):Int)=(((d++[V.int (j:Int)]).length:Nat):Int):=fun z=>c3 (decide_eq_true (congrArg V.int z))
     simp only[List.length_append,List.length_cons,List.length_nil]at this
     omega
   ·have n2:¬(i:Int)=(j:Int):=fun z=>c2 (decide_eq_true (congrArg V.int z))
    exact⟨_,rfl,_,rfl,_,rfl,_,_,rfl,rfl,t,h,N,d,_,rfl,R,tJ,lz,lu,go (.inl (by omega))⟩
  ·exact BO (BO ⟨_,rfl,keep SH⟩)
end
end CJ
namespace CJ
open PySem L2
section
variable{P:Program} {w:World} {K:AAE} [BH K] {mg:Str->Option Value} {base:Heap}
theorem Lr:An ["row","to"] ["row"] (AK Eo):=⟨rfl,rfl,rfl,by decide+kernel,rfl,by decide+kernel,by decide+kernel⟩
theorem QJ {tC:Addr} {f:Addr} {fd:FuncData} (F:EH K "comes_to" "comes_to" Eo f fd) (T:Txt mg) (c:Df P w K mg base "ahead_of_taking" ["to","path"] 3 KG) (mC:mg "WORDS_OF_COMING"=some (.ref tC)) (hC:Xb K tC JJ=true):Bb P w K mg base Dk 4 f fd ["row"] Md:=by
 obtain⟨u,x,d,g,j,k⟩:=c.ex
 refine F.ok Lr (fun vs H Q E h=>?_) (fun Jg A outer s H vs Q E hr h=>?_)
 ·obtain⟨r,N,n,o,p,rfl,R,q⟩:=h
  rfl
 ·obtain⟨r,N,n,o,p,rfl,R,q⟩:=h
  have nd:=Lr.nd
  have hu:=Be hr
  have b:Am 3 _:=hr.mono (by first|decide|omega)
  refine⟨_,(AD (Ag (AM (MH:Ep _ _ (WK K true)) (AY (r:=Ax K) AW (pv 0) AF (fun _ _=>rfl)) (WU (v:=.ref tC) rfl mC rfl) rfl) (AI (AO Bg)) AQ)
   (AD (AX (i:=1) nd rfl (Or.inl rfl) (AY (r:=Ax K) AW (pv 0) AF (fun _ _=>rfl)))
   (AD (Ag (AM Bj (AY (r:=Ax K) AW (pv 0) AF (fun _ _=>rfl)) Ab (AS _)) (AI (AX (i:=1) nd rfl (Or.inl rfl) (AY (r:=Ax K) AW (pv 0) AF (fun _ _=>rfl)))) AQ)
   (AD (Ag (AM Bj (AY (r:=Ax K) AW (pv 0) AF (fun _ _=>rfl)) Ab (AS _)) (AI (AX (i:=1) nd rfl (Or.inl rfl) (AJ k b rfl j d g .nil AV (AA (AY (r:=Ax K) AW (pv 0) AF (fun _ _=>rfl)) (AA (AY (r:=Ax K) AW (pv 0) AF (fun _ _=>rfl)) AB))))) AQ)
   (AI (AO (BI (AA (BN CP (pv 1) Bv (Bd (Cm CA AF))) (AA (AY (r:=Ax K) AW (pv 1) (Cm CA AF) (fun _ _=>rfl)) AB))))))))),?_⟩
  obtain⟨a,rest,rfl,y,O⟩:=R.ex
  refine⟨_,rfl,a,_,0,.str N,rfl,rfl,Ap.of y,HY,tC,_,rfl,.inr (Ap.vV hC H),rfl,rfl,_,rfl,?_⟩
  refine eW (fun h=>?_) (fun h=>?_)
  ·refine q .BL H (AG.refl _) ?_
   unfold Xc
   rw[if_neg (by rw[Bool.not_eq_true']at h;rw[h];exact Bool.false_ne_true)]
  have hc:FA (.str N) Dh=true:=by
   cases hh:FA (.str N) Dh with
   |true=>rfl
   |false=>rw[hh]at h;cases h
  have fin:∀(X:Hp),AG H X->∀B D,AG X B->B D=some (.tup (GW N n o).dropLast)->∀t,B t=none->∀l,(GW N n o).getLast?=some l->Q (.ref t) (upd B t (.tup [.ref D,l])):=fun X Z B D G h2 t J l wC=>by
   refine q _ _ ((Z.trans G).trans (AG.new J)) ?_
   unfold Xc
   rw[if_pos hc]
   exact⟨t,D,l,rfl,AE,AG.new J _ _ h2,wC⟩
  have M:∀S:List V,S≠[]->∃I l,S=I++[l]:=fun S h=>⟨S.dropLast,S.getLast h,(List.dropLast_concat_getLast h).symm⟩
  refine⟨_,rfl,a,_,1,_,rfl,rfl,Ap.of y,GD,?_⟩
  rcases vU hc with rfl|rfl|rfl
  ·have U:GW "put" n o=n:=rfl
   obtain⟨I,l,e⟩:=M n (R.nx (.inl rfl))
   have L:GW "put" n o=I++[l]:=U.trans e
   have hp:=R.hp
   rw[e]at hp
   exact⟨_,rfl,a,_,0,_,rfl,rfl,Ap.of y,HY,rfl,_,rfl,Af (by decide) ⟨_,rfl,a,_,0,_,rfl,rfl,Ap.of y,HY,rfl,_,rfl,Af (by decide) ⟨_,rfl,_,rfl,_,rfl,p,_,rfl,hp,fun D B G m=>⟨_,rfl,_,rfl,p,_,_,_,rfl,rfl,Ap.of (G _ _ hp),Br I l,Aq,fun t J=>fin _ (AG.refl _) B D G (by rw[CQ]at m;rw[L,List.dropLast_concat];exact m) t J l (by rw[L];simp)⟩⟩⟩⟩
  ·obtain⟨Y,rfl,C⟩:=O (.inl rfl)
   have U:GW "copy" n o=o:=rfl
   obtain⟨I,l,e⟩:=M o (R.nz (.inl rfl))
   have L:GW "copy" n o=I++[l]:=U.trans e
   rw[e]at C
   exact⟨_,rfl,a,_,0,_,rfl,rfl,Ap.of y,HY,rfl,_,rfl,Ay (by decide) ⟨_,rfl,a,_,2,_,rfl,rfl,Ap.of y,at2,⟨_,rfl,a,_,0,_,rfl,rfl,Ap.of y,HY,rfl,_,rfl,Af (by decide) ⟨_,rfl,_,rfl,_,rfl,Y,_,rfl,C,fun D B G m=>⟨_,rfl,_,rfl,Y,_,_,_,rfl,rfl,Ap.of (G _ _ C),Br I l,Aq,fun t J=>fin _ (AG.refl _) B D G (by rw[CQ]at m;rw[L,List.dropLast_concat];exact m) t J l (by rw[L];simp)⟩⟩⟩⟩⟩
  ·obtain⟨Y,rfl,C⟩:=O (.inr rfl)
   have U:GW "move" n o=Ck o n:=rfl
   have lz:=R.lz
   have lx:=R.lx
   obtain⟨I,l,e⟩:=M (Ck o n) (fun z=>R.nz (.inr rfl) (List.eq_nil_of_length_eq_zero (by rw[<-Mb o n,z];rfl)))
   have L:GW "move" n o=I++[l]:=U.trans e
   refine⟨_,rfl,a,_,0,_,rfl,rfl,Ap.of y,HY,rfl,_,rfl,Af (by decide) ⟨_,rfl,a,_,0,_,rfl,rfl,Ap.of y,HY,rfl,_,rfl,Ay (by decide) ⟨_,rfl,a,_,2,_,rfl,rfl,Ap.of y,at2,_,rfl,a,_,1,_,rfl,rfl,Ap.of y,GD,Y,p,o,n,rfl,C,R.hp,R.nx (.inr (.inr (.inr rfl))),R.sz,R.sx,by omega,by omega,fun q1 X Z h1=>?_⟩⟩⟩
   rw[e]at h1
   exact⟨_,rfl,_,rfl,_,rfl,q1,_,rfl,h1,fun D B G m=>⟨_,rfl,_,rfl,q1,_,_,_,rfl,rfl,Ap.of (G _ _ h1),Br I l,Aq,fun t J=>fin _ Z B D G (by rw[CQ]at m;rw[L,List.dropLast_concat];exact m) t J l (by rw[L];simp)⟩⟩
end
end CJ
namespace CJ
open PySem L2
section
variable{P:Program} {w:World} {K:AAE} [BH K] {mg:Str->Option Value} {base:Heap}
theorem Og:An ["row"] ["row"] (AK Fy):=⟨rfl,rfl,rfl,by decide+kernel,rfl,by decide+kernel,by decide+kernel⟩
theorem So {f:Addr} {e:FuncData} (F:EH K "leaves" "leaves" Fy f e) (T:Txt mg):Bb P w K mg base Dk 1 f e ["row"] (LU [.str "take",.str "move"]):=by
 refine F.ok Og (fun j H Q E h=>?_) (fun k A outer s H j Q E l h=>?_)
 ·obtain⟨r,g,m,n,p,rfl,R,q⟩:=h
  rfl
 ·obtain⟨r,g,m,n,p,rfl,R,q⟩:=h
  have nd:=Og.nd
  have u:=Be l
  refine⟨_,(AD (Ag (AM (DE:Ep _ _ (WK K false)) (AY (r:=Ax K) AW (pv 0) AF (fun _ _=>rfl)) (BI (AA Ab (AA Ab AB))) rfl) (AI (AO (AY (r:=Ax K) AW (pv 0) AF (fun _ _=>rfl)))) AQ)
   (AI (AO Bg))),?_⟩
  obtain⟨a,rest,rfl,i,o⟩:=R.ex
  refine⟨_,rfl,a,_,0,.str g,rfl,rfl,Ap.of i,HY,Aq,fun t c=>⟨t,_,rfl,.inr (Ap.of AE),rfl,rfl,_,rfl,?_⟩⟩
  refine Ia (fun h=>?_) (fun h=>?_)
  ·have d:∀b,AG H b->Q (.ref p) b:=fun b s=>by
    have:=q b s
    rw[if_pos h]at this
    exact this
   exact⟨_,rfl,a,_,1,_,rfl,rfl,Ap.of (AG.new c _ _ i),GD,d _ (AG.new c)⟩
  ·have d:∀b,AG H b->Q .BL b:=fun b s=>by
    have:=q b s
    rw[h,if_neg Bool.false_ne_true]at this
    exact this
   exact d _ (AG.new c)
end
end CJ
namespace CJ
open PySem L2
section
variable{P:Program} {w:World} {K:AAE} [BH K] {mg:Str->Option Value} {base:Heap}
theorem GG:An ["holder","place","row","ahead","told","gone","coming"] ["holder","place","row","ahead"] (AK CV):=⟨rfl,rfl,rfl,by decide+kernel,rfl,by decide+kernel,by decide+kernel⟩
theorem KZ {f:Addr} {fd:FuncData} (F:EH K "place_behind" "place_behind" CV f fd) (T:Txt mg) (x:Df P w K mg base "is_place" ["step"] 1 Fs) (y:Df P w K mg base "comes_to" ["row"] 4 Md) (L:Df P w K mg base "leaves" ["row"] 1 (LU [.str "take",.str "move"])):Bb P w K mg base Dk 5 f fd ["holder","place","row","ahead"] Ml:=by
 obtain⟨VW,VX,b,d,l,m⟩:=x.ex
 obtain⟨fI,fJ,B,C,D,G⟩:=y.ex
 obtain⟨iN,iO,M,N,O,S⟩:=L.ex
 refine F.ok GG (fun vs H Q E h=>?_) (fun Jg A outer s H vs Q E hr h=>?_)
 ·obtain⟨h,J,i,r,o,n,zs,p,ah,rfl,hh,sh,R,q⟩:=h
  rfl
 ·obtain⟨h,J,i,r,o,n,zs,p,ah,rfl,hh,sh,R,q⟩:=h
  have nd:=GG.nd
  have hu:=Be hr
  have a:Am 1 _:=hr.mono (by first|decide|omega)
  have u:Am 4 _:=hr.mono (by first|decide|omega)
  have I:Am 1 _:=hr.mono (by first|decide|omega)
  refine⟨_,(AD (AX (i:=4) nd rfl (Or.inl rfl) (pv 1))
   (AD (AX (i:=5) nd rfl (Or.inl rfl) (AJ S I rfl O M N .nil AV (AA (pv 2) AB)))
   (AD (Ag (PW.pt (pw_and (AM EG (pv 5) Bg (AS _)) (pw_and (AM (Hu (Am.Cg hr)) (BN CP (pv 5) Bv (Bd (Cm CA AF))) (pv 0) (AS _)) (pw_and (Az (AJ m a rfl l b d .nil AV (AA (AY (r:=Ax K) AW (pv 5) (Cm CA AF) (fun _ _=>rfl)) AB))) (pw_and1 (AM Gg (AY (r:=Ax K) AW (pv 5) (Cm CA AF) (fun _ _=>rfl)) (pv 1) (AS _))))))) (AI (AX (i:=4) nd rfl (Or.inl rfl) (Aa Ox (pv 4) AF))) AQ)
   (AD (AX (i:=6) nd rfl (Or.inl rfl) (AJ G u rfl D B C .nil AV (AA (pv 2) AB)))
   (AD (Ag (PW.pt (pw_or (AM JX (pv 6) Bg (AS _)) (pw_or (AM (MY (Am.Cg hr)) (AY (r:=Ax K) AW (pv 6) AF (fun _ _=>rfl)) (pv 0) (AS _)) (pw_or1 (De (Az (AJ m a rfl l b d .nil AV (AA (AY (r:=Ax K) AW (pv 6) AF (fun _ _=>rfl)) AB)))))))) (AI (AO (pv 4))) AQ)
   (AD (Ag (PW.pt (pw_or (AM Gg (AY (r:=Ax K) AW (pv 6) AF (fun _ _=>rfl)) (pv 1) (AS _)) (pw_or1 (PW.pt (pw_and (Az (pv 3)) (pw_and1 (AM Bj (AY (r:=Ax K) AW (pv 6) AF (fun _ _=>rfl)) (pv 1) (AS _)))))))) (AI (AO (Aa Bh (pv 4) AF))) AQ)
   (AI (AO (pv 4))))))))),?_⟩
  refine⟨_,rfl,_,rfl,r,o,n,zs,p,rfl,R,fun H1 s1=>?_⟩
  have R1:=R.up s1
  have wD:=s1 _ _ hh
  dsimp only[EU]
  refine D' (t:=L' _ _ _) (fun σ H'=>AG H H'/\∃g,σ=[some (.ref h),some (.int i),some r,some (.bl ah),some (.int (Cy J i o n)),g,none]) (fun σ' H' z=>?_) (fun k=>?_)
  ·obtain⟨U,g,rfl⟩:=z
   refine⟨_,rfl,r,o,n,zs,p,rfl,R.up U,fun v H3 s3 cm=>?_⟩
   have wF:=s3 _ _ (U _ _ hh)
   unfold Xc at cm
   have no:∀Hx,AG H Hx->EK J i o n zs ah=0->Q (.int (Cy J i o n)) Hx:=fun Hx sx e=>by
    have:=q Hx sx
    rw[e,Int.add_zero]at this
    exact this
   by_cases hc:FA (.str o) Dh=true
   ·rw[if_pos hc]at cm
    obtain⟨t,h3,Y,rfl,ht,hh,hg⟩:=cm
    have st:=LW (w:=o) R.sx R.sz
    have sv:Dc.BB Y:=st Y (List.mem_of_getLast? hg)
    have sd:steps (GW o n zs).dropLast:=fun z X=>st z (List.dropLast_subset _ X)
    refine⟨_,rfl,rfl,_,rfl,Af rfl ⟨_,rfl,t,_,0,_,rfl,rfl,Ap.of ht,HY,_,rfl,h3,h,_,J,rfl,rfl,Ap.of hh,Ap.of wF,(fun z X=>(sd z X).flat),(fun z X=>(sh z X).flat),_,rfl,?_⟩⟩
    cases ce:Bz (GW o n zs).dropLast J with
    |false=>exact BO (BO ⟨_,rfl,no _ (U.trans s3) (Xn ce)⟩)
    |true=>
     refine Au ⟨_,rfl,t,_,1,_,rfl,rfl,Ap.of ht,GD,_,rfl,sv,_,rfl,?_⟩
     rcases sv with⟨j,rfl⟩|⟨kk,rfl,_⟩
     ·refine Au ⟨_,rfl,t,_,1,_,rfl,rfl,Ap.of ht,GD,_,rfl,_,_,rfl,rfl,_,rfl,?_⟩
      have mo:=VG (i:=i) (ah:=ah) hg hc ce
      have yes:((j:Int)<i∨(ah=true/\(j:Int)=i))->Q (.int (Cy J i o n+1)) H3:=fun c=>by
       have:=q H3 (U.trans s3)
       rw[mo,if_pos c]at this
       exact this
      have nay:¬((j:Int)<i∨(ah=true/\(j:Int)=i))->Q (.int (Cy J i o n)) H3:=fun c=>no H3 (U.trans s3) (by rw[mo,if_neg c])
      refine CG (fun c=>BO ⟨_,rfl,_,_,rfl,rfl,yes (.inl (of_decide_eq_true c))⟩) (fun c=>?_)
      have nc:¬(j:Int)<i:=fun z=>c (decide_eq_true z)
      refine⟨_,rfl,_,rfl,?_⟩
      cases ah with
      |false=>exact Au (Au ⟨_,rfl,nay (fun z=>z.elim nc fun z=>Bool.false_ne_true z.1)⟩)
      |true=>
       refine BO ⟨_,rfl,t,_,1,_,rfl,rfl,Ap.of ht,GD,_,rfl,rfl,_,rfl,?_⟩
       refine CG (fun c2=>⟨_,rfl,_,_,rfl,rfl,yes (.inr ⟨rfl,V.int.inj (of_decide_eq_true c2)⟩)⟩) (fun c2=>⟨_,rfl,nay (fun z=>z.elim nc fun z=>c2 (decide_eq_true (congrArg V.int z.2)))⟩)
     ·exact BO ⟨_,rfl,no _ (U.trans s3) (VF hg)⟩
   ·rw[if_neg hc]at cm
    subst cm
    exact⟨_,rfl,rfl,_,rfl,Ay rfl (BO ⟨_,rfl,no _ (U.trans s3) (ay hc)⟩)⟩
  have fin:∀(g:Option V) Hx,AG H Hx->Cy J i o n=i->(AG H Hx/\∃g',[some (V.ref h),some (V.int i),some r,some (V.bl ah),some (V.int i),g,none]=[some (V.ref h),some (V.int i),some r,some (V.bl ah),some (V.int (Cy J i o n)),g',none]):=fun g Hx sx e=>⟨sx,g,by rw[e]⟩
  by_cases hw:FA (.str o) [.str "take",.str "move"]=true
  ·rw[if_pos hw]
   have nx:=R.nx (.inr (.inr (wA.mp hw)))
   obtain⟨us,Y,e⟩:∃us Y,n=us++[Y]:=⟨n.dropLast,n.getLast nx,(List.dropLast_concat_getLast nx).symm⟩
   have Sq:=R1.hp
   rw[e]at Sq
   have sd:steps us:=fun z X=>R.sx z (by rw[e];exact List.mem_append_left _ X)
   have sl:Dc.BB Y:=R.sx Y (by rw[e];simp)
   have ed:n.dropLast=us:=by rw[e,List.dropLast_concat]
   have gl:n.getLast?=some Y:=by rw[e];simp
   refine⟨_,rfl,rfl,_,rfl,Ay rfl ⟨_,rfl,_,rfl,_,rfl,p,_,rfl,Sq,fun p1 H2 U Ls=>?_⟩⟩
   rw[CQ]at Ls
   have Sr:=U _ _ Sq
   have Z:=s1.trans U
   refine⟨_,rfl,p1,h,us,J,rfl,rfl,Ap.of Ls,Ap.of (U _ _ wD),(fun z X=>(sd z X).flat),(fun z X=>(sh z X).flat),_,rfl,?_⟩
   cases ce:Bz us J with
   |false=>exact Au (Au (k _ _ (fin _ _ Z (Xo (by rw[ed];exact ce)))))
   |true=>
    refine BO ⟨_,rfl,_,rfl,p,_,_,_,rfl,rfl,Ap.of Sr,Br us Y,_,rfl,sl,_,rfl,?_⟩
    rcases sl with⟨j,rfl⟩|⟨kk,rfl,_⟩
    ·have le:=less_int (i:=i) gl hw (by rw[ed];exact ce)
     refine BO ⟨_,rfl,_,rfl,p,_,_,_,rfl,rfl,Ap.of Sr,Br us _,_,rfl,_,_,rfl,rfl,_,rfl,?_⟩
     refine CG (fun c=>⟨_,rfl,_,_,rfl,rfl,k _ _ ⟨Z,some (.ref p),?_⟩⟩) (fun c=>k _ _ (fin _ _ Z ?_))
     ·rw[le,if_pos (of_decide_eq_true c)];rfl
     ·rw[le,if_neg fun z=>c (decide_eq_true z)]
    ·exact Au (Au (k _ _ (fin _ _ Z (VH gl))))
  ·rw[if_neg hw]
   exact⟨_,rfl,rfl,_,rfl,Af rfl (Au (k _ _ (fin _ _ s1 (az hw))))⟩
end
end CJ
namespace CJ
open PySem L2
section
variable{P:Program} {w:World} {K:AAE} [BH K] {mg:Str->Option Value} {base:Heap}
theorem HX:An ["holder","step","row"] ["holder","step","row"] (AK Cp):=⟨rfl,rfl,rfl,by decide+kernel,rfl,by decide+kernel,by decide+kernel⟩
theorem Kv {f:Addr} {D:FuncData} (F:EH K "step_behind" "step_behind" Cp f D) (T:Txt mg) (l:Df P w K mg base "is_place" ["step"] 1 Fs) (b:Df P w K mg base "place_behind" ["holder","place","row","ahead"] 5 Ml):Bb P w K mg base Dk 6 f D ["holder","step","row"] Mm:=by
 obtain⟨x,y,m,n,o,t⟩:=l.ex
 obtain⟨u,v,c,d,e,g⟩:=b.ex
 refine F.ok HX (fun O H Q E h=>?_) (fun S A outer s H O Q E B h=>?_)
 ·obtain⟨h,G,z,r,I,J,L,p,rfl,M,N,C,R,q⟩:=h
  rfl
 ·obtain⟨h,G,z,r,I,J,L,p,rfl,M,N,C,R,q⟩:=h
  have nd:=HX.nd
  have U:=Be B
  have j:Am 1 _:=B.mono (by first|decide|omega)
  have a:Am 5 _:=B.mono (by first|decide|omega)
  refine⟨_,(AD (Ag (Az (AJ t j rfl o m n .nil AV (AA (pv 1) AB))) (AI (AO (AJ g a rfl e c d .nil AV (AA (pv 0) (AA (pv 1) (AA (pv 2) (AA NK AB))))))) AQ)
   (AI (AO (pv 1)))),?_⟩
  refine⟨_,rfl,z,rfl,C,_,rfl,?_⟩
  rcases C with⟨i,rfl⟩|⟨k,rfl,_⟩
  ·exact BO ⟨_,rfl,_,rfl,_,rfl,h,G,_,r,I,J,L,p,true,rfl,M,N,R,q⟩
  ·exact Au ⟨_,rfl,q H (AG.refl _)⟩
end
end CJ
namespace CJ
open PySem L2
section
variable{P:Program} {w:World} {K:AAE} [BH K] {mg:Str->Option Value} {base:Heap}
theorem Qq:An ["path","row","gone","taken"] ["path","row"] (AK IH):=⟨rfl,rfl,rfl,by decide+kernel,rfl,by decide+kernel,by decide+kernel⟩
theorem VY {f:Addr} {fd:FuncData} (F:EH K "after" "after" IH f fd) (T:Txt mg) (Z:Df P w K mg base "begins" ["one","other"] 1 HW) (Xt:Df P w K mg base "gone_by" ["row"] 1 (LU [.str "take",.str "change"])) (M:Df P w K mg base "moved_by" ["row"] 1 Mc) (e:Df P w K mg base "step_behind" ["holder","step","row"] 6 Mm) (VZ:mg "enumerate"=none):Bb P w K mg base Dk 7 f fd ["path","row"] JN:=by
 obtain⟨iP,iQ,v,B,G,I⟩:=Z.ex
 obtain⟨iR,iS,Xu,Xv,Xw,Xx⟩:=Xt.ex
 obtain⟨fK,fM,N,O,S,U⟩:=M.ex
 obtain⟨ZL,ZM,j,m,n,o⟩:=e.ex
 refine F.ok Qq (fun vs H Q E h=>?_) (fun Jg A outer s H vs Q E hr h=>?_)
 ·obtain⟨t,u,r,Y,J,zs,p,rfl,ht,sq,lq,R,q⟩:=h
  rfl
 ·obtain⟨t,u,r,Y,J,zs,p,rfl,ht,sq,lq,R,q⟩:=h
  have nd:=Qq.nd
  have hu:=Be hr
  have d:Am 1 _:=hr.mono (by first|decide|omega)
  have V:Am 1 _:=hr.mono (by first|decide|omega)
  have L:Am 1 _:=hr.mono (by first|decide|omega)
  have c:Am 6 _:=hr.mono (by first|decide|omega)
  refine⟨_,(AD (AX (i:=2) nd rfl (Or.inl rfl) (AJ Xx V rfl Xw Xu Xv .nil AV (AA (pv 1) AB)))
   (AD (Ag (PW.pt (pw_and (AM EG (pv 2) Bg (AS _)) (pw_and1 (Az (AJ I d rfl G v B .nil AV (AA (pv 2) (AA (pv 0) AB))))))) (AI (AO Bg)) AQ)
   (AD (AX (i:=3) nd rfl (Or.inl rfl) (AJ U L rfl S N O .nil AV (AA (pv 1) AB)))
   (AD (Ag (PW.pt (pw_and (AM EG (pv 3) Bg (AS _)) (pw_and1 (Az (AJ I d rfl G v B .nil AV (AA (pv 3) (AA (pv 0) AB))))))) (AI (AO (Aa Dn (AY (r:=Ax K) AW (pv 1) AF (fun _ _=>rfl)) (BN CP (pv 0) (Bd (AL AZ rfl T.len PySem.boot_len (AA (pv 3) AB))) Bv)))) AQ)
   (AI (AO (EZ Kr rfl T.tuple G_ (AA (VB (fv:=["row","path"]) (fs:=[1,0]) rfl (.of (by rfl)) (Xm rfl VZ Ic (AA (pv 0) AB)) (fun _ _ _ _=>Gv) (fun C s0 H0 fp=>(AJ o c rfl n j m .nil AV (AA (BN CP (pv 3) Bv (Bd (pv 0))) (AA (pv 1) (AA (pv 2) AB)))))) AB)))))))),?_⟩
  have fx:∀z∈J,BR z=true:=fun z hz=>(R.sx z hz).flat
  have fq:∀z∈u,BR z=true:=fun z hz=>(sq z hz).flat
  refine⟨_,rfl,r,Y,J,zs,p,rfl,R,fun H1 s1=>?_⟩
  dsimp only[EU]
  have fN:=s1 _ _ ht
  have R1:=R.up s1
  refine D' (t:=L' _ _ _) (fun σ H'=>AG H H'/\(∃g,σ=[some (.ref t),some r,g,none])/\¬(FA (.str Y) [.str "take",.str "change"]=true/\J<+:u)) (fun σ' H2 z=>?_) (fun k=>?_)
  ·obtain⟨s2,⟨g,rfl⟩,c1⟩:=z
   have R2:=R.up s2
   have cj:=s2 _ _ ht
   refine⟨_,rfl,r,Y,J,zs,p,rfl,R2,?_⟩
   dsimp only[EU]
   refine D' (t:=L' _ _ _) (fun σ H'=>AG H H'/\(∃g g3,σ=[some (.ref t),some r,g,g3])/\¬(Y="move"/\J<+:u)) (fun σ' H3 z=>?_) (fun k=>?_)
   ·obtain⟨X,⟨g,g3,rfl⟩,c2⟩:=z
    have fO:=X _ _ ht
    have ea:BE Y J zs u=some (cf Y J zs [] u):=by
     unfold BE
     rw[if_neg c1,if_neg c2,ZI R.sx R.sz u [] (fun z hz=>nomatch hz) sq,OW,OW]
    refine⟨_,rfl,t,u,rfl,Ap.of fO,?_⟩
    refine SX (fun i y=>∀s,u[i]?=some s->y=cc Y J zs (u.take i) s) (Ap.of fO) (BA (by omega)) (fun i x H4 Rk hx s4 k=>?_) (fun D H4 ys hD s4 wG ly oy=>?_)
    ·refine⟨_,rfl,_,rfl,_,rfl,t,u,rfl,s4 _ _ fO,fun p5 H5 s5 cn=>?_⟩
     rw[JI]at cn
     have s45:=s4.trans s5
     refine⟨_,rfl,_,rfl,p5,u.take i,x,r,Y,J,zs,p,rfl,cn,(fun z hz=>sq z (List.mem_of_mem_take hz)),sq x (AAD hx),(R.up X).up s45,fun H6 s6=>k _ _ (s5.trans s6) fun s' tK=>?_⟩
     rw[hx]at tK
     cases tK
     cases x<;>rfl
    ·refine⟨D,ys,rfl,.inl ⟨A_.of wG,fun l hl=>q _ _ ((X.trans s4).trans (AG.new hl)) ?_⟩⟩
     rw[ea,<-go_eq u [] ys ly fun i y s h1 h2=>oy i y h1 s h2]
     exact⟨l,rfl,AE⟩
   ·by_cases hw:Y="move"
    ·subst hw
     rw[if_pos (by decide)]
     obtain⟨a,rest,er,ha,bD⟩:=R2.ex
     obtain⟨p2,rfl,Ls⟩:=bD (.inr rfl)
     refine⟨_,rfl,rfl,_,rfl,Ay rfl ⟨_,rfl,_,rfl,p,t,J,u,rfl,R2.hp,cj,fx,fq,fun H3 X=>⟨_,rfl,?_⟩⟩⟩
     have fO:=X _ _ cj
     refine CG (fun b=>?_) (fun b=>k _ _ ⟨s2.trans X,⟨_,_,rfl⟩,fun z=>b ((pre_take R.sx sq).mpr z.2)⟩)
     have kM:=(pre_take R.sx sq).mp b
     have l1:=R.lz
     refine⟨_,rfl,a,_,2,_,er,rfl,Ap.of (X _ _ ha),at2,?_⟩
     refine⟨_,rfl,_,rfl,p,_,rfl,.inr (Ap.of (X _ _ R2.hp)),_,rfl,t,_,rfl,fO,fun p4 H4 s4 WN=>?_⟩
     rw[Hr]at WN
     refine⟨p2,p4,_,_,rfl,rfl,s4 _ _ (X _ _ Ls),WN,BA (by rw[List.length_drop];omega),fun p5 H5 s5 cn=>q _ _ (((s2.trans X).trans s4).trans s5) ?_⟩
     have ea:BE "move" J zs u=some (zs++u.drop J.length):=by
      unfold BE
      rw[if_neg c1,if_pos ⟨rfl,kM⟩]
     rw[ea]
     exact⟨p5,rfl,cn⟩
    ·rw[if_neg (by simpa using hw)]
     exact⟨_,rfl,rfl,_,rfl,Af rfl (Au (k _ _ ⟨s2,⟨_,_,rfl⟩,fun z=>hw z.1⟩))⟩
  ·by_cases hw:FA (.str Y) [.str "take",.str "change"]=true
   ·rw[if_pos hw]
    refine⟨_,rfl,rfl,_,rfl,Ay rfl ⟨_,rfl,_,rfl,p,t,J,u,rfl,R1.hp,fN,fx,fq,fun H3 X=>⟨_,rfl,?_⟩⟩⟩
    refine CG (fun b=>q _ _ (s1.trans X) ?_) (fun b=>k _ _ ⟨s1.trans X,⟨_,rfl⟩,fun z=>b ((pre_take R.sx sq).mpr z.2)⟩)
    have ea:BE Y J zs u=none:=by
     unfold BE
     rw[if_pos ⟨hw,(pre_take R.sx sq).mp b⟩]
    rw[ea]
    rfl
   ·rw[if_neg hw]
    exact⟨_,rfl,rfl,_,rfl,Af rfl (Au (k _ _ ⟨s1,⟨_,rfl⟩,fun z=>hw z.1⟩))⟩
end
end CJ
namespace CJ
open PySem L2
section
variable{P:Program} {w:World} {K:AAE} [BH K] {mg:Str->Option Value} {base:Heap}
theorem Va:An ["_law_script","_law_k"] ["_law_script","_law_k"] (AK Ll):=⟨rfl,rfl,rfl,by decide+kernel,rfl,by decide+kernel,by decide+kernel⟩
theorem Xy {f:Addr} {d:FuncData} (F:EH K "_law_cell" "_law_cell" Ll f d) (T:Txt mg):Bb P w K mg base Dk 1 f d ["_law_script","_law_k"] (MS K):=by
 refine F.ok Va (fun g H Q E h=>?_) (fun i A outer s H g Q E j h=>?_)
 ·obtain⟨a,b,k,rfl,c,q⟩:=h
  rfl
 ·obtain⟨a,b,k,rfl,c,q⟩:=h
  have nd:=Va.nd
  have n:=Be j
  refine⟨_,(AD (Ag (AM Gg (pv 1) (AL AZ rfl T.len PySem.boot_len (AA (pv 0) AB)) (AS _)) (AI (AO (Aa BU (AY (r:=Hn K) Cc (pv 0) (pv 1) (fun _ _=>rfl)) (Aa Oy AF AF)))) AQ)
   (AI (AO (Aa Bh AF (Aa Er AF (pv 1)))))),?_⟩
  refine⟨_,rfl,_,rfl,a,_,rfl,.inl c,_,_,rfl,rfl,_,rfl,?_⟩
  refine CG (fun e=>?_) (fun e=>?_)
  ·have l:k<b.length:=by
    have:=of_decide_eq_true e
    rw[List.length_map]at this
    omega
   have m:(b.map V.int)[k]?=some (.int b[k]):=by rw[List.getElem?_map,AAA l];rfl
   exact⟨_,rfl,_,rfl,a,_,_,_,rfl,rfl,c,Cb m,_,_,rfl,rfl,⟨by decide,by decide,by decide⟩,_,_,rfl,rfl,(by show(0:Int)<_;decide),q _ (Int.emod_nonneg _ (by decide))⟩
  ·exact⟨_,rfl,_,_,rfl,rfl,.inl ⟨by decide,by decide⟩,_,_,rfl,rfl,q _ (by omega)⟩
end
end CJ
namespace CJ
open PySem L2
section
variable{P:Program} {w:World} {K:AAE} [BH K] {mg:Str->Option Value} {base:Heap}
theorem ZN:An ["_law_cell_here","_law_k","_law_number","_law_j"] ["_law_cell_here","_law_k"] (AK QG):=⟨rfl,rfl,rfl,by decide+kernel,rfl,by decide+kernel,by decide+kernel⟩
theorem Vb {f:Addr} {n:FuncData} (F:EH K "_law_mix" "_law_mix" QG f n) (T:Txt mg):Bb P w K mg base Dk 1 f n ["_law_cell_here","_law_k"] MT:=by
 refine F.ok ZN (fun p H Q E h=>?_) (fun r A outer s H p Q E t h=>?_)
 ·obtain⟨c,k,rfl,u,q⟩:=h
  rfl
 ·obtain⟨c,k,rfl,u,q⟩:=h
  have nd:=ZN.nd
  have v:=Be t
  refine⟨_,(AD (Ag (PW.pt (pw_and (AM Bj (Aa BU (pv 0) AF) AF (AS _)) (pw_and1 (AM Yi (pv 0) (Aa Er AF (Aa Oy AF AF)) (AS _))))) (AD (AX (i:=2) nd rfl (Or.inl rfl) (Aa Gf (pv 0) AF))
   (AD (DD PassesOwn.never rfl (DB rfl T.range (AA (pv 1) AB)) (Bm (i:=3) nd rfl (Or.inl rfl)) (AI (AX (i:=2) nd rfl (Or.inl rfl) (Aa Gf (pv 2) AF))))
   (AI (AO (Aa BU (pv 2) AF))))) AQ)
   (AD (AX (i:=2) nd rfl (Or.inl rfl) (Aa BU (Aa Er (Aa Bh (pv 0) AF) AF) AF))
   (AD (AX (i:=2) nd rfl (Or.inl rfl) (Aa BU (Aa Bh (pv 2) (Aa Er (Aa Bh (pv 1) AF) AF)) AF))
   (AD (AX (i:=2) nd rfl (Or.inl rfl) (Aa BU (Aa Er (pv 2) (pv 2)) AF))
   (AD (AX (i:=2) nd rfl (Or.inl rfl) (Aa BU (Aa Er (Aa Bh (pv 2) AF) (Aa Bh (Aa Gf (pv 2) AF) AF)) AF))
   (AI (AO (Aa Gf (pv 2) AF)))))))),?_⟩
  have lo:∀x:Int,-(2 ^ 64)<x % 2305843009213693951/\x % 2305843009213693951<2 ^ 64:=fun x=>by
   have b:=Int.emod_nonneg x (show(2305843009213693951:Int)≠0 by decide)
   have d:=Int.emod_lt_of_pos x (show(0:Int)<2305843009213693951 by decide)
   constructor<;>omega
  have lo1:∀x:Int,-(2 ^ 64)<x % 999999999999999989+1/\x % 999999999999999989+1<2 ^ 64:=fun x=>by
   have b:=Int.emod_nonneg x (show(999999999999999989:Int)≠0 by decide)
   have d:=Int.emod_lt_of_pos x (show(0:Int)<999999999999999989 by decide)
   constructor<;>omega
  have o:¬(c % 4=0/\4*10 ^ 60<=c)->Q (.int ((Nv c k+1)*(Nv c k/1000003+7) % 2305843009213693951/7919)) H:=fun h=>by
   have e:Jt c k=_:=if_neg h
   rw[e]at q
   exact q
  refine⟨_,rfl,_,_,rfl,rfl,(by show(0:Int)<_;decide),rfl,_,rfl,?_⟩
  refine CG (fun b=>?_) (fun b=>?_)
  ·refine⟨_,rfl,_,_,rfl,rfl,⟨by decide,by decide,by decide⟩,_,_,rfl,rfl,.inl ⟨by decide,by decide⟩,_,_,rfl,rfl,_,rfl,?_⟩
   have c4:c % 4=0:=V.int.inj (of_decide_eq_true b)
   refine CG (fun d=>?_) (fun d=>?_)
   ·have g:4*10 ^ 60<=c:=of_decide_eq_true d
    have e:Jt c k=_:=if_pos ⟨c4,g⟩
    rw[e]at q
    refine⟨_,rfl,_,_,rfl,rfl,⟨by decide,by decide⟩,?_⟩
    refine⟨_,rfl,_,rfl,by omega,by omega,Dr (lo:=0) (fun i j l=>∃(m:Option V),j=[some (.int c),some (.int (k:Int)),some (.int (UE i (c/4))),m]/\l=H) ⟨none,rfl,rfl⟩ ?_ ?_⟩
    ·rintro i j l y ⟨m,rfl,rfl⟩
     exact⟨_,rfl,_,_,rfl,rfl,⟨by decide,by decide⟩,_,rfl,rfl⟩
    ·rintro j l ⟨m,rfl,rfl⟩
     rw[Int.toNat_natCast]
     exact⟨_,rfl,_,_,rfl,rfl,(by show(0:Int)<_;decide),q⟩
   ·have a:¬(c % 4=0/\4*10 ^ 60<=c):=fun z=>d (decide_eq_true z.2)
    refine⟨_,rfl,_,_,rfl,rfl,_,_,rfl,rfl,.inr ⟨by decide,by decide⟩,_,_,rfl,rfl,(by show(0:Int)<_;decide),?_⟩
    refine⟨_,rfl,_,rfl,_,_,rfl,rfl,_,_,rfl,rfl,.inr ⟨by decide,by decide⟩,_,_,rfl,rfl,_,_,rfl,rfl,(by show(0:Int)<_;decide),?_⟩
    refine⟨_,rfl,_,rfl,_,_,rfl,rfl,.inl (lo _),_,_,rfl,rfl,(by show(0:Int)<_;decide),?_⟩
    refine⟨_,rfl,_,_,rfl,rfl,_,rfl,_,_,rfl,rfl,⟨by decide,by decide⟩,_,_,rfl,rfl,_,_,rfl,rfl,.inl (lo1 _),_,_,rfl,rfl,(by show(0:Int)<_;decide),?_⟩
    exact⟨_,rfl,_,_,rfl,rfl,⟨by decide,by decide⟩,o a⟩
  ·refine Au ?_
   have a:¬(c % 4=0/\4*10 ^ 60<=c):=fun z=>b (decide_eq_true (congrArg V.int z.1))
   refine⟨_,rfl,_,_,rfl,rfl,_,_,rfl,rfl,.inr ⟨by decide,by decide⟩,_,_,rfl,rfl,(by show(0:Int)<_;decide),?_⟩
   refine⟨_,rfl,_,rfl,_,_,rfl,rfl,_,_,rfl,rfl,.inr ⟨by decide,by decide⟩,_,_,rfl,rfl,_,_,rfl,rfl,(by show(0:Int)<_;decide),?_⟩
   refine⟨_,rfl,_,rfl,_,_,rfl,rfl,.inl (lo _),_,_,rfl,rfl,(by show(0:Int)<_;decide),?_⟩
   refine⟨_,rfl,_,_,rfl,rfl,_,rfl,_,_,rfl,rfl,⟨by decide,by decide⟩,_,_,rfl,rfl,_,_,rfl,rfl,.inl (lo1 _),_,_,rfl,rfl,(by show(0:Int)<_;decide),?_⟩
   exact⟨_,rfl,_,_,rfl,rfl,⟨by decide,by decide⟩,o a⟩
theorem Xz {f:Addr} {a:FuncData} (F:EH K "_law_mix" "_law_mix" QG f a) (T:Txt mg):Bb P w K mg base Dk 1 f a ["_law_cell_here","_law_k"] HE:=(Vb F T).imp fun _ _ _ _ h=>UH h
end
end CJ
namespace CJ
open PySem L2
section
variable{P:Program} {w:World} {K:AAE} [BH K] {mg:Str->Option Value} {base:Heap}
theorem Qr:An ["_law_one","_law_two","_law_letters","_law_word","_law_size","_law_at","_law_shift","_law_names_here","_law_k","_law_sign"] ["_law_one","_law_two"] (AK II):=⟨rfl,rfl,rfl,by decide+kernel,rfl,by decide+kernel,by decide+kernel⟩
theorem Vc {f:Addr} {fd:FuncData} (F:EH K "_law_names" "_law_names" II f fd) (T:Txt mg) (bE:Df P w K mg base "_law_mix" ["_law_cell_here","_law_k"] 1 MT):Bb P w K mg base Dk 2 f fd ["_law_one","_law_two"] MU:=by
 obtain⟨bF,bG,k,l,o,t⟩:=bE.ex
 refine F.ok Qr (fun vs H Q E h=>?_) (fun Jg A outer s H vs Q E hr h=>?_)
 ·obtain⟨c,d,rfl,q⟩:=h
  rfl
 ·obtain⟨c,d,rfl,q⟩:=h
  have nd:=Qr.nd
  have hu:=Be hr
  have b:Am 1 _:=hr.mono (by first|decide|omega)
  refine⟨_,(AD (AX (i:=2) nd rfl (Or.inr rfl) Ab)
   (AD (AX (i:=3) nd rfl (Or.inl rfl) (FD PySem.F.plainAttrs_str PySem.F.slot_str_join PySem.F.type_str_join Ww Ab (AA (Gw (fv:=["_law_letters","_law_one"]) (fs:=[2,0]) rfl (.of (by rfl)) (DB rfl T.range (AA AF AB)) (fun _ _ _ _=>Gv) (fun C s0 H0 fp=>(AY TX (pv 1) (Aa BU (AJ t b rfl o k l .nil AV (AA (pv 2) (AA (pv 0) AB))) AF) (fun _ _=>rfl)))) AB)))
   (AD (AX (i:=4) nd rfl (Or.inl rfl) (Aa Bh AF (Aa BU (AJ t b rfl o k l .nil AV (AA (pv 1) (AA AF AB))) AF)))
   (AD (AX (i:=5) nd rfl (Or.inl rfl) (Aa BU (AJ t b rfl o k l .nil AV (AA (pv 1) (AA AF AB))) (pv 4)))
   (AD (AX (i:=6) nd rfl (Or.inl rfl) (Aa BU (AJ t b rfl o k l .nil AV (AA (pv 1) (AA AF AB))) AF))
   (AD (AX (i:=7) nd rfl (Or.inl rfl) (BW AB))
   (AD (DD PassesOwn.never rfl (DB rfl T.range (AA AF AB)) (Bm (i:=8) nd rfl (Or.inl rfl)) (AI (Ag (AM Bj (Aa BU (AJ t b rfl o k l .nil AV (AA (pv 1) (AA AF AB))) AF) AF (AS _)) (AI (Cq (FD PySem.F.plainAttrs_list PySem.F.slot_list_append PySem.F.type_list_append Ds (pv 7) (AA (BN Jk (pv 3) Bv (Bd (Aa Bh (Aa Bh (pv 8) AF) (Aa BU (pv 6) AF)))) AB)))) (AD (AX (i:=9) nd rfl (Or.inl rfl) (AY TX (pv 2) (Aa BU (Aa Bh (pv 6) (Aa Er AF (pv 8))) AF) (fun _ _=>rfl)))
   (AI (Cq (FD PySem.F.plainAttrs_list PySem.F.slot_list_append PySem.F.type_list_append Ds (pv 7) (AA (Aa JY (Aa JY (BN Jk (pv 3) Bv (Bd (pv 5))) (pv 9)) (BN Jk (pv 3) (Bd (Aa Bh (pv 5) AF)) (Bd (pv 4)))) AB))))))))
   (AI (AO (pv 7)))))))))),?_⟩
  refine⟨rfl,8,rfl,by decide,by decide,Tp (n:=8) (fun i=>.int (0+(i:Int))) (fun _ v=>eJ v) (by decide) (fun i H2 hi s2=>hi) (fun i H2 v H' hi s2 y=>⟨y.2,y.1⟩) (fun H2 s2=>Nat.le_refl _) (fun i H2 R hi s2 r=>?_) (fun D H2 u hD s2 d2 ly oy=>?_)⟩
  ·refine⟨_,rfl,_,rfl,_,rfl,c,i,by simp,by omega,?_⟩
   obtain⟨L,I,hl⟩:=UC (Jt c i % 26) (HB _).1 (HB _).2
   exact⟨_,_,rfl,rfl,(by show(0:Int)<_;decide),Oq,_,L,rfl,rfl,by decide,I,r _ H2 (AG.refl H2) ⟨L,rfl,hl⟩⟩
  ·obtain⟨M,e1,h1,h2,h3⟩:=LO u fun y N=>by
    obtain⟨j,U,e⟩:=List.mem_iff_getElem.mp N
    exact oy j y (by rw[AAA U,e])
   subst e1
   have lz:M.length=8:=by rw[<-ly,List.length_map]
   have sz:∀M:List Str,(∀z∈M,z.length=1)->(M.map (·.length)).sum=M.length:=by
    intro M
    induction M with
    |nil=>intro _;rfl
    |cons z r ih=>
     intro h
     rw[List.map_cons,List.sum_cons,ih fun y N=>h y (List.mem_cons_of_mem _ N),h z List.mem_cons_self,List.length_cons]
     omega
   refine⟨_,D,M,rfl,rfl,A_.of d2,?_,?_⟩
   ·rw[sz M h1,lz]
    decide
   obtain⟨W,hW⟩:∃W,W=Txt.join "" M:=⟨_,rfl⟩
   have X:(sgn W).length=8:=by rw[hW,Nn,h2,List.length_map,lz]
   have wL:(sgn W).all Sz=true:=by rw[hW,Nn];exact h3
   have wz:W.length=8:=by rw[<-Jl];exact X
   rw[<-hW]
   obtain⟨G,wH⟩:∃r,r=Jt d 0:=⟨_,rfl⟩
   refine⟨_,rfl,d,0,rfl,by decide,_,_,rfl,rfl,(by show(0:Int)<_;decide),_,_,rfl,rfl,?_⟩
   rw[<-wH]
   have b1:0<=G % 8/\G % 8<8:=⟨Int.emod_nonneg _ (by decide),Int.emod_lt_of_pos _ (by decide)⟩
   obtain⟨J,fB⟩:∃z:Nat,1+G % 8=(z:Int):=⟨(1+G % 8).toNat,by omega⟩
   have bs:1<=J/\J<=8:=by omega
   obtain⟨r2,iT⟩:∃r,r=Jt d 1:=⟨_,rfl⟩
   refine⟨_,rfl,d,1,rfl,by decide,_,rfl,_,_,rfl,rfl,(by show(0:Int)<1+G % 8;omega),?_⟩
   rw[<-iT]
   have b2:0<=r2 % (1+G % 8)/\r2 % (1+G % 8)<1+G % 8:=⟨Int.emod_nonneg _ (by omega),Int.emod_lt_of_pos _ (by omega)⟩
   obtain⟨GD,TC⟩:∃z:Nat,r2 % (1+G % 8)=(z:Int):=⟨(r2 % (1+G % 8)).toNat,by omega⟩
   have zk:GD<J:=by omega
   obtain⟨r3,wI⟩:∃r,r=Jt d 2:=⟨_,rfl⟩
   refine⟨_,rfl,d,2,rfl,by decide,_,_,rfl,rfl,(by show(0:Int)<_;decide),?_⟩
   rw[<-wI]
   have b3:=HB r3
   obtain⟨x,kN⟩:∃z:Int,z=1+G % 8:=⟨_,rfl⟩
   obtain⟨a,kO⟩:∃z:Int,z=r2 % (1+G % 8):=⟨_,rfl⟩
   obtain⟨g,wJ⟩:∃z:Int,z=r3 % 26:=⟨_,rfl⟩
   obtain⟨r4,wK⟩:∃r,r=Jt d 3:=⟨_,rfl⟩
   obtain⟨B,Y⟩:∃B:Nat->Str->Prop,B=fun(j:Nat) (y:Str)=>if r4 % 3=0 then((sgn y).length:Int)=(j:Int)+1+g % 3 else(sgn y)[GD]?=W'[((g+5*(j:Int)) % 26).toNat]?:=⟨_,rfl⟩
   refine⟨Nat.zero_le _,fun p hp=>?_⟩
   have pf:H p=none:=s2.free hp
   refine⟨6,rfl,by decide,by decide,Dr (lo:=0) (n:=6) (fun i σ Z=>∃(u:List Str) (ok os:Option V),σ=[some (.int c),some (.int d),some (.str Oq),some (.str W),some (.int x),some (.int a),some (.int g),some (.ref p),ok,os]/\
    AG H Z/\Z p=some (.lst (u.map V.str))/\u.length=i/\(∀(j:Nat) y,u[j]?=some y->B j y)/\∀y∈u,BS y=true) ⟨[],none,none,by rw[kN,kO,wJ];rfl,s2.put pf,AE,rfl,fun j y N=>(by simp at N),fun y N=>nomatch N⟩ ?_ ?_⟩
   ·rintro i σ Z hi ⟨u,ok,os,rfl,s3,d3,O,pm,ny⟩
    have more:∀(y:Str) (oo kP:Option V),B i y/\BS y=true->∃(S:List Str) (ok os:Option V),[some (V.int c),some (V.int d),some (V.str Oq),some (V.str W),some (V.int x),some (V.int a),some (V.int g),some (V.ref p),oo,kP]=
      [some (V.int c),some (V.int d),some (V.str Oq),some (V.str W),some (V.int x),some (V.int a),some (V.int g),some (V.ref p),ok,os]/\
      AG H (upd Z p (.lst (u.map V.str++[.str y])))/\upd Z p (.lst (u.map V.str++[.str y])) p=some (.lst (S.map V.str))/\S.length=i+1/\(∀(j:Nat) y,S[j]?=some y->B j y)/\∀z∈S,BS z=true:=fun y oo kP N=>
     ⟨u++[y],oo,kP,rfl,s3.put pf,by rw[AE,List.map_append];rfl,by simp[O],fun j z U=>by
      by_cases kQ:j<u.length
      ·rw[List.getElem?_append_left kQ]at U
       exact pm j z U
      ·have hl:=(AAB U).1
       rw[List.length_append,List.length_singleton]at hl
       have e:j=i:=by omega
       subst e
       rw[List.getElem?_append_right (by omega),O,Nat.sub_self]at U
       have e:y=z:=by simpa using U
       rw[<-e]
       exact N.1,fun z hz=>(List.mem_append.mp hz).elim (ny z) fun hz=>by rw[List.mem_singleton.mp hz];exact N.2⟩
    have tM:(u.map V.str).length<sizeLine:=Ar (by rw[List.length_map];omega)
    refine⟨_,rfl,d,3,rfl,by decide,_,_,rfl,rfl,(by show(0:Int)<_;decide),rfl,_,rfl,?_⟩
    rw[<-wK]
    refine CG (fun h4=>?_) (fun h4=>?_)
    ·refine⟨_,rfl,.inl ⟨rfl,_,A_.of d3⟩,_,rfl,_,rfl,_,_,rfl,rfl,_,rfl,_,_,rfl,rfl,(by show(0:Int)<_;decide),_,_,rfl,rfl,_,rfl,W,rfl,by rw[wz];decide,p,_,_,rfl,rfl,d3,tM,more _ _ _ ⟨?_,?_⟩⟩
     ·have c4:r4 % 3=0:=V.int.inj (of_decide_eq_true h4)
      rw[Y]
      simp only[if_pos c4]
      obtain⟨n,hn⟩:∃n:Nat,0+(i:Int)+1+g % 3=(n:Int):=⟨(0+(i:Int)+1+g % 3).toNat,by omega⟩
      rw[hn,DJ,Jm,List.length_take,X]
      omega
     obtain⟨n,hn⟩:∃n:Nat,0+(i:Int)+1+g % 3=(n:Int):=⟨(0+(i:Int)+1+g % 3).toNat,by omega⟩
     show Nm (sgn (Txt.slice W none (some (0+(i:Int)+1+g % 3))))=true
     rw[hn,DJ,Jm]
     refine Nq ?_ ?_ (Gy wL n)
     ·rw[List.length_take,X];omega
     ·rw[List.length_take,X];omega
    ·obtain⟨L,I,hl⟩:=UC ((g+5*(0+(i:Int))) % 26) (HB _).1 (HB _).2
     refine⟨_,rfl,_,rfl,_,rfl,_,_,rfl,rfl,.inl ⟨by decide,by decide⟩,_,_,rfl,rfl,_,_,rfl,rfl,(by show(0:Int)<_;decide),Oq,_,L,rfl,rfl,by decide,I,?_⟩
     have l1:(Txt.slice W none (some a)).length<=8:=by rw[<-wz];exact Txt.slice_le W _ _
     have l2:(Txt.slice W (some (a+1)) (some x)).length<=8:=by rw[<-wz];exact Txt.slice_le W _ _
     have l3:(Txt.slice W none (some a)++(⟨#[L]⟩:Str)).length<=9:=by rw[Str.length_append];show _+1<=9;omega
     refine⟨_,rfl,.inl ⟨rfl,_,A_.of d3⟩,_,rfl,_,rfl,_,rfl,W,rfl,by rw[wz];decide,_,rfl,_,_,rfl,rfl,?_,_,rfl,_,rfl,_,_,rfl,rfl,_,rfl,_,rfl,_,rfl,W,rfl,by rw[wz];decide,_,_,rfl,rfl,?_,p,_,_,rfl,rfl,d3,tM,more _ _ _ ⟨?_,?_⟩⟩
     ·exact Nat.le_of_lt (Ar (by show(Txt.slice W none (some a)).length+1<=1000;omega))
     ·exact Nat.le_of_lt (Ar (by omega))
     ·have c4:¬r4 % 3=0:=fun z=>h4 (decide_eq_true (congrArg V.int z))
      rw[Y]
      simp only[if_neg c4]
      have e0:a=(GD:Int):=by omega
      rw[DH,DH,DJ,e0,Jm]
      have ec:sgn ⟨#[L]⟩=[L]:=rfl
      rw[ec]
      have lt:((sgn W).take GD).length=GD:=by rw[List.length_take,X];omega
      rw[List.getElem?_append_left (by rw[List.length_append,lt,List.length_singleton];omega),List.getElem?_append_right (by rw[lt];exact Nat.le_refl _),lt,Nat.sub_self]
      have hb:=HB (g+5*(0+(i:Int)))
      obtain⟨m,hm⟩:∃m:Nat,(g+5*(0+(i:Int))) % 26=(m:Int):=⟨((g+5*(0+(i:Int))) % 26).toNat,by omega⟩
      have hz:(g+5*(i:Int)) % 26=(m:Int):=by rw[<-hm,Int.zero_add]
      rw[hz,Int.toNat_natCast]
      rw[hm]at I
      obtain⟨j',g1,g2,g3,_⟩:=Gm I
      have:j'=m:=by
       have kR:m<(sgn Oq).length:=by show m<W'.length;rw[MR];omega
       have:=Cb (xs:=sgn Oq) (j:=m) (AAA kR)
       obtain⟨j2,k1,_⟩:=Gm this
       have q1:Oo (sgn Oq).length (m:Int)=some m:=by
        unfold Oo
        rw[if_pos (by omega),if_pos (by omega),Int.toNat_natCast]
       have:=(JE q1).1
       rw[this]at g1
       exact(AAC g1).symm
      rw[this]at g2
      exact g2.symm
     ·show Nm (sgn (Txt.slice W none (some a)++⟨#[L]⟩++Txt.slice W (some (a+1)) (some x)))=true
      have e0:a=(GD:Int):=by omega
      have e1:(GD:Int)+1=((GD+1:Nat):Int):=by omega
      have e2:x=(J:Int):=by omega
      rw[DH,DH,DJ,DJ,e0,e1,e2,Jm,XA _ _ _ (by omega) (by rw[X];omega)]
      have ec:sgn ⟨#[L]⟩=[L]:=rfl
      rw[ec]
      refine Nq ?_ ?_ ?_
      ·simp only[List.length_append,List.length_take,List.length_drop,X,List.length_singleton];omega
      ·simp only[List.length_append,List.length_take,List.length_drop,X,List.length_singleton];omega
      ·rw[List.all_append,List.all_append,Gy wL,Np (Gy wL J)]
       simp[hl]
   ·rintro σ Z ⟨u,ok,os,rfl,s3,d3,O,pm,ny⟩
    refine⟨_,rfl,q p u Z s3 pf d3 O (UI B pm fun i j y zl U p1 p2=>?_) ny⟩
    rw[Y]at p1 p2
    have hb:=(HB (g+5*(i:Int)))
    have zm:=(HB (g+5*(j:Int)))
    by_cases c4:r4 % 3=0
    ·simp only[if_pos c4]at p1 p2
     omega
    ·simp only[if_neg c4]at p1 p2
     rw[p1]at p2
     have nl:W'.Nodup:=by decide+kernel
     have h1:((g+5*(i:Int)) % 26).toNat<W'.length:=by rw[MR];omega
     have:=(List.getElem?_inj h1 nl).mp p2
     omega
end
end CJ
namespace CJ
open PySem L2
section
variable{P:Program} {w:World} {K:AAE} [BH K] {mg:Str->Option Value} {base:Heap}
theorem Vd:An ["_law_cell_here","_law_number"] ["_law_cell_here"] (AK Lm):=⟨rfl,rfl,rfl,by decide+kernel,rfl,by decide+kernel,by decide+kernel⟩
theorem X_ {f:Addr} {t:FuncData} (F:EH K "_law_leaf" "_law_leaf" Lm f t) (T:Txt mg) (m:Df P w K mg base "_law_mix" ["_law_cell_here","_law_k"] 1 HE):Bb P w K mg base Dk 2 f t ["_law_cell_here"] JO:=by
 obtain⟨u,v,b,d,g,k⟩:=m.ex
 refine F.ok Vd (fun z H Q E h=>?_) (fun B A outer s H z Q E y h=>?_)
 ·obtain⟨c,rfl,q⟩:=h
  rfl
 ·obtain⟨c,rfl,q⟩:=h
  have nd:=Vd.nd
  have M:=Be y
  have a:Am 1 _:=y.mono (by first|decide|omega)
  refine⟨_,(AD (AX (i:=1) nd rfl (Or.inl rfl) (AJ k a rfl g b d .nil AV (AA (pv 0) (AA AF AB))))
   (AD (Ag (AM Bj (Aa BU (AJ k a rfl g b d .nil AV (AA (pv 0) (AA AF AB))) AF) AF (AS _)) (AI (AO (Aa Ox (Aa BU (pv 1) AF) AF))) AQ)
   (AD (Ag (AM Bj (Aa BU (AJ k a rfl g b d .nil AV (AA (pv 0) (AA AF AB))) AF) AF (AS _)) (AI (AO (BN Jk (BN Jk Ab (Bd (Aa BU (pv 1) AF)) Bv) Bv (Bd (Aa BU (Aa Gf (pv 1) AF) AF))))) AQ)
   (AI (AO (Aa Bh AF (pv 1))))))),?_⟩
  have l:∀(i:Int) o,i.natAbs<2 ^ 400/\i<10 ^ 20->AG H o->Q (.int i) o:=fun i o p C=>q _ _ (.inl ⟨i,rfl,p.1⟩) (fun⟨j,e,r⟩=>by cases e;omega) C
  have small:∀x:Int,-(2 ^ 399)<x->x<2 ^ 399->x.natAbs<2 ^ 400:=fun x N O=>by omega
  refine⟨_,rfl,c,4,rfl,by decide,fun n R S=>?_⟩
  refine⟨_,rfl,c,3,rfl,by decide,fun U V X=>⟨_,_,rfl,rfl,(by show(0:Int)<_;decide),rfl,_,rfl,?_⟩⟩
  refine CG (fun _=>?_) (fun _=>?_)
  ·have Y:=G' n (n:=7) (by decide)
   exact⟨_,rfl,_,_,rfl,rfl,(by show(0:Int)<_;decide),_,_,rfl,rfl,l _ _ ⟨small _ (by omega) (by omega),by omega⟩ (AG.refl H)⟩
  refine⟨_,rfl,c,3,rfl,by decide,fun Z p4 q4=>⟨_,_,rfl,rfl,(by show(0:Int)<_;decide),rfl,_,rfl,?_⟩⟩
  refine CG (fun _=>?_) (fun _=>?_)
  ·have D:=HB n
   have G:=G' (n/26) (n:=4) (by decide)
   have l1:(Txt.slice Oq (some (n % 26)) none).length<=26:=by
    have:=Txt.slice_le Oq (some (n % 26)) none
    rw[QY]at this
    exact this
   refine⟨_,rfl,_,_,rfl,rfl,(by show(0:Int)<_;decide),_,rfl,Oq,rfl,by rw[QY];decide,_,rfl,_,_,rfl,rfl,⟨by decide,by decide⟩,_,_,rfl,rfl,(by show(0:Int)<_;decide),_,rfl,_,rfl,Nat.le_of_lt (Ar (Nat.le_trans l1 (by decide))),q _ _ (.inr ⟨_,rfl,?_⟩) (fun⟨j,e,r⟩=>nomatch e) (AG.refl H)⟩
   obtain⟨i,p⟩:∃i:Nat,n % 26=(i:Int):=⟨(n % 26).toNat,by omega⟩
   obtain⟨j,r⟩:∃j:Nat,n/26 % 4=(j:Int):=⟨(n/26 % 4).toNat,by omega⟩
   have I:sgn (Txt.slice (Txt.slice Oq (some (n % 26)) none) none (some (n/26 % 4)))=((sgn Oq).drop i).take j:=by
    rw[DJ,DJ,p,r,Tv,Jm]
   have J:(sgn Oq).all Sz=true:=by
    rw[List.all_eq_true]
    exact fun x L=>Jn L
   unfold XB
   rw[<-Jl,I,Bool.and_eq_true]
   refine⟨decide_eq_true ?_,Gy (Np J i) j⟩
   rw[List.length_take]
   omega
  exact⟨_,rfl,_,_,rfl,rfl,l _ _ ⟨small _ (by omega) (by omega),by omega⟩ (AG.refl H)⟩
end
end CJ
namespace CJ
open PySem L2
section
variable{P:Program} {w:World} {K:AAE} [BH K] {mg:Str->Option Value} {base:Heap}
theorem Ve:An ["_law_cell_here","_law_deep","_law_way"] ["_law_cell_here","_law_deep"] (AK Ln):=⟨rfl,rfl,rfl,by decide+kernel,rfl,by decide+kernel,by decide+kernel⟩
theorem X' {f:Addr} {O:FuncData} (F:EH K "_law_part" "_law_part" Ln f O) (T:Txt mg) (C:Df P w K mg base "_law_mix" ["_law_cell_here","_law_k"] 1 HE) (l:Df P w K mg base "_law_leaf" ["_law_cell_here"] 2 JO):Bb P w K mg base Dk 3 f O ["_law_cell_here","_law_deep"] Me:=by
 obtain⟨R,S,D,G,I,J⟩:=C.ex
 obtain⟨L,M,m,n,t,x⟩:=l.ex
 refine F.ok Ve (fun V H Q E h=>?_) (fun X A outer s H V Q E N h=>?_)
 ·obtain⟨c,d,rfl,q⟩:=h
  rfl
 ·obtain⟨c,d,rfl,q⟩:=h
  have nd:=Ve.nd
  have Z:=Be N
  have y:Am 1 _:=N.mono (by first|decide|omega)
  have k:Am 2 _:=N.mono (by first|decide|omega)
  refine⟨_,(AD (AX (i:=2) nd rfl (Or.inl rfl) (Aa BU (AJ J y rfl I D G .nil AV (AA (pv 0) (AA AF AB))) AF))
   (AD (Ag (PW.pt (pw_and (AM Gg (pv 2) AF (AS _)) (pw_and1 (AM Gg (pv 1) AF (AS _))))) (AI (AO (BW AB))) AQ)
   (AD (Ag (PW.pt (pw_and (AM Gg (pv 2) AF (AS _)) (pw_and1 (AM Gg (pv 1) AF (AS _))))) (AI (AO FU)) AQ)
   (AI (AO (AJ x k rfl t m n .nil AV (AA (pv 0) AB))))))),?_⟩
  have row:∀p,H p=none->Q (.ref p) (upd H p (.lst [])):=fun p j=>q (.row p []) _ (AG.new j) (by simp only[Dc.At,Dc.CY,List.map_nil,and_true];exact .inl AE) rfl (fun a b o u e=>by simp[Dc.addrs,Dc.AH]at b;rw[b,AE]at e;cases e) (fun a b=>by simp[Dc.addrs,Dc.AH]at b;rw[b];exact j)
  have tab:∀p,H p=none->Q (.ref p) (upd H p (.dK [])):=fun p j=>q (.tab p [] []) _ (AG.new j) (by simp only[Dc.At,Dc.CY,List.length_nil,List.nodup_nil,and_true,true_and];exact .inl AE) ⟨rfl,rfl⟩ (fun a b o u e=>by simp[Dc.addrs,Dc.AH]at b;rw[b,AE]at e;cases e) (fun a b=>by simp[Dc.addrs,Dc.AH]at b;rw[b];exact j)
  have leaf:∀v g,HA v->AG H g->Q v g:=fun v g U Y=>q (.leaf v) g Y U.lf U (fun a b=>by simp[Dc.addrs]at b) (fun a b=>by simp[Dc.addrs]at b)
  refine⟨_,rfl,c,0,rfl,by decide,fun r p1 p2=>⟨_,_,rfl,rfl,(by show(0:Int)<_;decide),?_⟩⟩
  refine⟨_,rfl,_,_,rfl,rfl,_,rfl,?_⟩
  refine CG (fun _=>⟨_,rfl,_,_,rfl,rfl,_,rfl,?_⟩) (fun _=>Au ?_)
  ·refine CG (fun _=>⟨Nat.zero_le _,fun p j=>row p j⟩) (fun _=>?_)
   refine⟨_,rfl,_,_,rfl,rfl,_,rfl,?_⟩
   refine CG (fun _=>⟨_,rfl,_,_,rfl,rfl,_,rfl,?_⟩) (fun _=>Au ⟨_,rfl,c,rfl,fun v g z _ B=>leaf v g z B⟩)
   refine CG (fun _=>fun p j=>tab p j) (fun _=>⟨_,rfl,c,rfl,fun v g z _ B=>leaf v g z B⟩)
  ·refine⟨_,rfl,_,_,rfl,rfl,_,rfl,?_⟩
   refine CG (fun _=>⟨_,rfl,_,_,rfl,rfl,_,rfl,?_⟩) (fun _=>Au ⟨_,rfl,c,rfl,fun v g z _ B=>leaf v g z B⟩)
   refine CG (fun _=>fun p j=>tab p j) (fun _=>⟨_,rfl,c,rfl,fun v g z _ B=>leaf v g z B⟩)
end
end CJ
namespace CJ
open PySem L2
section
variable{P:Program} {w:World} {K:AAE} [BH K] {mg:Str->Option Value} {base:Heap}
theorem ZO:An ["_law_script","_law_start","_law_many","_law_names_here","_law_doc_here","_law_holders","_law_k","_law_cell_here","_law_holder","_law_deep","_law_part_here","_law_left"] ["_law_script","_law_start","_law_many","_law_names_here"] (AK Sh):=⟨rfl,rfl,rfl,by decide+kernel,rfl,by decide+kernel,by decide+kernel⟩
theorem bH {f:Addr} {fd:FuncData} (F:EH K "_law_doc" "_law_doc" Sh f fd) (T:Txt mg) (Vf:Df P w K mg base "_law_cell" ["_law_script","_law_k"] 1 (MS K)) (bE:Df P w K mg base "_law_mix" ["_law_cell_here","_law_k"] 1 HE) (fP:Df P w K mg base "_law_part" ["_law_cell_here","_law_deep"] 3 Me):Bb P w K mg base Dk 4 f fd ["_law_script","_law_start","_law_many","_law_names_here"] (Pl K):=by
 obtain⟨fQ,fR,ZP,ZQ,ZR,ZS⟩:=Vf.ex
 obtain⟨bF,bG,YA,YB,YC,YD⟩:=bE.ex
 obtain⟨tN,tO,fS,fT,fU,fV⟩:=fP.ex
 refine F.ok ZO (fun vs H Q E h=>?_) (fun Jg A outer s H vs Q E hr h=>?_)
 ·obtain⟨a,n,ns,k,m,B,rfl,hS,hlen,hk,m1,m2,hn,ln,l0,ny,q⟩:=h
  rfl
 ·obtain⟨a,n,ns,k,m,B,rfl,hS,hlen,hk,m1,m2,hn,ln,l0,ny,q⟩:=h
  have nd:=ZO.nd
  have hu:=Be hr
  have Vg:Am 1 _:=hr.mono (by first|decide|omega)
  have Qs:Am 1 _:=hr.mono (by first|decide|omega)
  have bI:Am 3 _:=hr.mono (by first|decide|omega)
  refine⟨_,(AD (AX (i:=4) nd rfl (Or.inl rfl) (AY (r:=Hn K) Cc (BW (AA (BW AB) (AA FU AB))) (Aa BU (AJ YD Qs rfl YC YA YB .nil AV (AA (AJ ZS Vg rfl ZR ZP ZQ .nil AV (AA (pv 0) (AA (pv 1) AB))) (AA AF AB))) AF) (fun _ _=>rfl)))
   (AD (AX (i:=5) nd rfl (Or.inl rfl) (BW (AA (BI (AA (pv 4) (AA AF AB))) AB)))
   (AD (DD PassesOwn.never rfl (RH rfl T.range (AA AF (AA (pv 2) AB))) (Bm (i:=6) nd rfl (Or.inl rfl)) (AD (AX (i:=7) nd rfl (Or.inl rfl) (AJ ZS Vg rfl ZR ZP ZQ .nil AV (AA (pv 0) (AA (Aa Bh (pv 1) (pv 6)) AB))))
   (AD (Ou (AY (r:=Hn K) Cc (pv 5) (Aa BU (AJ YD Qs rfl YC YA YB .nil AV (AA (pv 7) (AA AF AB))) (AL AZ rfl T.len PySem.boot_len (AA (pv 5) AB))) (fun _ _=>rfl)) (Ot rfl (EV (Bm (i:=8) nd rfl (Or.inr rfl)) (EV (Bm (i:=9) nd rfl (Or.inl rfl)) MA))))
   (AD (AX (i:=10) nd rfl (Or.inl rfl) (AJ fV bI rfl fU fS fT .nil AV (AA (pv 7) (AA (pv 9) AB))))
   (AD (GJ (i:=11) (fv:=["_law_holder"]) (fs:=[8]) rfl (.of (by rfl)) nd rfl (Or.inl rfl) (DQ (pv 3)) (fun C s0 H0 fp=>JH (PW.pt (pw_or (Az (AL Ah rfl T.isinstance AR (AA (pv 1) (AA (Ao (v:=.ty "list") rfl T.list Ct rfl) AB)))) (pw_or1 (L_ (Fn hu (pv 0) (pv 1))))))) (fun C s0 H0 fp=>(pv 0)))
   (AD (Ag (Az (AL Ah rfl T.isinstance AR (AA (pv 8) (AA (Ao (v:=.ty "list") rfl T.list Ct rfl) AB)))) (AI (Cq (FD PySem.F.plainAttrs_list PySem.F.slot_list_insert PySem.F.type_list_insert LI (pv 8) (AA (Aa BU (AJ YD Qs rfl YC YA YB .nil AV (AA (pv 7) (AA AF AB))) (Aa Bh (AL AZ rfl T.len PySem.boot_len (AA (pv 8) AB)) AF)) (AA (pv 10) AB))))) (AI (Ag (AM (T_ (Am.Cg hr)) (pv 11) (BW AB) (AS _)) (AI (Fo hu (pv 8) (AY (r:=Hn K) Cc (pv 11) (Aa BU (AJ YD Qs rfl YC YA YB .nil AV (AA (pv 7) (AA AF AB))) (AL AZ rfl T.len PySem.boot_len (AA (pv 11) AB))) (fun _ _=>rfl)) (pv 10) rfl)) AQ)))
   (AI (Ag (PW.pt (pw_and (Az (AL GO rfl T.isinstance AR (AA (pv 10) (AA (BI (AA (Ao (v:=.ty "list") rfl T.list Ct rfl) (AA (Ao (v:=.ty "dict") rfl T.dict Cu rfl) AB))) AB)))) (pw_and1 (PW.pt (pw_or (Az (AL Ah rfl T.isinstance AR (AA (pv 8) (AA (Ao (v:=.ty "list") rfl T.list Ct rfl) AB)))) (pw_or1 (AM (T_ (Am.Cg hr)) (pv 11) (BW AB) (AS _)))))))) (AI (Cq (FD PySem.F.plainAttrs_list PySem.F.slot_list_append PySem.F.type_list_append Ds (pv 5) (AA (BI (AA (pv 10) (AA (Aa Bh (pv 9) AF) AB))) AB)))) AQ))))))))
   (AI (AO (pv 4)))))),?_⟩
  refine⟨Nat.zero_le _,fun a1 h1=>fun a2 h2=>⟨Aq,fun L0 h0=>?_⟩⟩
  have u1:=AG.new (o:=.lst []) h1
  have u2:=AG.new (o:=.dK []) h2
  have u3:=AG.new (o:=.lst [.ref a1,.ref a2]) h0
  refine⟨_,rfl,_,rfl,a,ns,k,rfl,(((u1.trans u2).trans u3)).seq hS,fun c0 zo=>⟨c0,0,rfl,by decide,fun r0 p0 q0=>⟨_,_,rfl,rfl,(by show(0:Int)<_;decide),?_⟩⟩⟩
  have tP:=G' r0 (n:=2) (by decide)
  obtain⟨v,hv,mv⟩:=Ee (xs:=[V.ref a1,V.ref a2]) tP.1 tP.2
  refine⟨L0,_,_,_,rfl,rfl,A_.of AE,hv,?_⟩
  obtain⟨H3,e3⟩:∃H3,H3=upd (upd (upd H a1 (.lst [])) a2 (.dK [])) L0 (.lst [.ref a1,.ref a2]):=⟨_,rfl⟩
  have s3:AG H H3:=by rw[e3];exact(u1.trans u2).trans u3
  have x1:H3 a1=some (.lst []):=by rw[e3];exact u3 _ _ (u2 _ _ AE)
  have x2:H3 a2=some (.dK []):=by rw[e3];exact u3 _ _ AE
  rw[<-e3]
  have pk:∃(p:Dc) (b:Addr),v=p.val/\p.val=.ref b/\b∈p.addrs/\p.At H3/\p.Iw/\(∀c∈p.addrs,∀o u,H3 c≠some (.CK o u))/\(∀c∈p.addrs,H c=none):=by
   simp only[List.mem_cons,List.not_mem_nil,or_false]at mv
   rcases mv with rfl|rfl
   ·exact⟨.row a1 [],a1,rfl,rfl,by simp[Dc.addrs],by simp only[Dc.At,Dc.CY,List.map_nil,and_true];exact .inl x1,rfl,(fun c hc o u e=>by simp[Dc.addrs,Dc.AH]at hc;rw[hc,x1]at e;cases e),fun c hc=>by simp[Dc.addrs,Dc.AH]at hc;rw[hc];exact h1⟩
   ·exact⟨.tab a2 [] [],a2,rfl,rfl,by simp[Dc.addrs],by simp only[Dc.At,Dc.CY,List.length_nil,List.nodup_nil,and_true,true_and];exact .inl x2,⟨rfl,rfl⟩,(fun c hc o u e=>by simp[Dc.addrs,Dc.AH]at hc;rw[hc,x2]at e;cases e),fun c hc=>by simp[Dc.addrs,Dc.AH]at hc;rw[hc];exact u1.free h2⟩
  obtain⟨p,b0,rfl,wM,wN,WO,bare,fX,kS⟩:=pk
  refine⟨_,rfl,Aq,fun t0 wO=>⟨CM,fun L hL=>?_⟩⟩
  have s4:=AG.new (o:=.tup [p.val,.int 1]) wO
  have s5:=AG.new (o:=.lst [.ref t0]) hL
  have tQ:Cj H (upd (upd H3 t0 (.tup [p.val,.int 1])) L (.lst [.ref t0])) p L [t0]:=by
   refine⟨⟨(s3.trans s4).trans s5,Dc.Ad (s4.trans s5) WO,bare.ok,bare.nodup,fun c hc=>Bs (Dc.there WO hc) (fX c hc) ((s4.trans s5) c),kS⟩,(s3.trans s4).free hL,AE,fun h=>?_,fun t ht=>?_⟩
   ·exact Dc.there (Dc.Ad s4 WO) h hL
   ·rw[List.mem_singleton.mp ht]
    exact⟨b0,1,by rw[s5 _ _ AE,wM],wN⟩
  generalize upd (upd H3 t0 (.tup [p.val,.int 1])) L (.lst [.ref t0])=H5 at tQ⊢
  refine⟨_,rfl,_,_,rfl,⟨by decide,by decide,by omega,by omega⟩,Dr (lo:=1) (fun i σ Hi=>∃(d:Dc) (M:List Addr) (o6 o7 o8 o9 o10 o11:Option V),σ=[some (.ref a),some (.int (k:Int)),some (.int (m:Int)),some (.ref n),some p.val,some (.ref L),o6,o7,o8,o9,o10,o11]/\d.val=p.val/\Cj H Hi d L M/\d.size<=i+1/\0<M.length/\M.length<=i+1/\d.named B)
   ⟨p,[t0],none,none,none,none,none,none,rfl,rfl,tQ,by rw[bare.size];omega,by simp,by simp,bare.named⟩ ?_ ?_⟩
  ·rintro i σ Hi X ⟨d,M,o6,o7,o8,o9,o10,o11,rfl,dv,DI,ds,lp,lt,bJ⟩
   have wQ:i<24:=by omega
   have ll:(M.map V.ref).length=M.length:=List.length_map ..
   refine⟨_,rfl,_,rfl,_,rfl,_,_,rfl,rfl,a,ns,k+(1+i),(by show[V.ref a,V.int ((k:Int)+(1+(i:Int)))]=_;simp),DI.made.same.seq hS,fun c pc=>?_⟩
   refine⟨_,rfl,_,rfl,c,1,rfl,by decide,fun r1 p1 q1=>⟨_,rfl,L,_,rfl,.inl (A_.of DI.eL),_,_,rfl,rfl,(by show(0:Int)<((M.map V.ref).length:Int);rw[ll];omega),?_⟩⟩
   have b1:=G' r1 (n:=((M.map V.ref).length:Int)) (by rw[ll];omega)
   obtain⟨v3,wR,wU⟩:=Ee (xs:=M.map V.ref) b1.1 b1.2
   obtain⟨t,ht,rfl⟩:=List.mem_map.mp wU
   obtain⟨b,kk,et,hb⟩:=DI.hold t ht
   refine⟨L,_,_,_,rfl,rfl,A_.of DI.eL,wR,t,_,rfl,Ap.of et,rfl,_,_,rfl,_,_,rfl,rfl,?_⟩
   refine⟨_,rfl,_,rfl,c,kk,rfl,fun O H4 s4 iU ZT fY fZ=>?_⟩
   have iV:=DI.up s4
   have bK:=iV.made.same _ _ hn
   have li:∀i,i<B.length->(B.map V.str)[i]?=some (.str (B.getD i "")):=fun i X=>by
    rw[List.getElem?_map,AAA X,List.getD_eq_getElem?_getD,AAA X]
    rfl
   have bL:(∃vs,H4 b=some (.lst vs)/\vs.length<=1000)∨∃kv,H4 b=some (.dK kv)/\kv.length<=1000:=by
    rcases Dc.Ht d iV.made.at_ hb with⟨vs,e,l⟩|⟨ks,kv,e,_,l⟩
    ·exact .inl ⟨vs,e.exact (iV.made.own b hb),by omega⟩
    ·exact .inr ⟨kv,e.exact (iV.made.own b hb),by omega⟩
   have lz:(M.map V.ref).length<sizeLine:=Ar (by rw[ll];omega)
   have y0:∃y∈B,BS y=true:=by
    obtain⟨y,r,e⟩:=List.exists_cons_of_length_pos l0
    exact⟨y,by rw[e];exact List.mem_cons_self,ny y (by rw[e];exact List.mem_cons_self)⟩
   have yl:∀{H':Hp} {D:Addr} {zs:List V} {i:Nat} {v:V},H4 D=none->i<B.length->(∀us,A_ K (upd H4 D (.lst zs)) n us->us[i]?=some v)->v=.str (B.getD i ""):=fun{H' D zs i v} hD X y=>by
    have:=y _ ((AG.new hD).seq (A_.of bK))
    rw[li i X]at this
    exact(AAC this).symm
   dsimp only[EU]
   rcases bL with⟨vs,tR,hz⟩|⟨kv,kT,hz⟩
   ·refine⟨_,rfl,n,rfl,⟨_,A_.of bK⟩,LH (n:=B.length) (fun i=>.str (B.getD i "")) (fun i=>.str (B.getD i "")) (fun _=>true) (Nat.le_of_lt (Ar (Nat.le_trans ln (by decide)))) (fun i D zs X hD=>⟨_,_,(AG.new hD).seq (A_.of bK),li i X⟩) (fun i D zs v H' X hD y=>⟨yl (H':=H') hD X y.2,y.1⟩) (fun D zs hD=>⟨_,(AG.new hD).seq (A_.of bK),by rw[List.length_map];exact Nat.le_refl _⟩) (fun i D zs R X hD r=>⟨_,rfl,_,"list","list",rfl,rfl,.lst (.inl (AG.new hD _ _ tR)),_,rfl,BO r⟩) (fun i D zs R X hD _ r=>⟨_,rfl,r⟩) fun Dl bM=>?_⟩
    have sD:=AG.new (o:=.lst (((List.range B.length).filter fun _=>true).map fun i=>V.str (B.getD i ""))) bM
    have Y:=sD _ _ tR
    refine⟨_,rfl,_,"list","list",rfl,rfl,.lst (.inl Y),_,rfl,BO ?_⟩
    refine⟨_,rfl,.inl ⟨rfl,_,A_.of Y⟩,_,rfl,c,2,rfl,by decide,fun r2 wV q2=>?_⟩
    have mm:=G' r2 (n:=(vs.length:Int)+1) (by omega)
    obtain⟨j,hj⟩:∃j:Nat,r2 % ((vs.length:Int)+1)=(j:Int):=⟨(r2 % ((vs.length:Int)+1)).toNat,by omega⟩
    refine⟨_,rfl,b,_,rfl,.inl (A_.of Y),_,_,rfl,rfl,_,_,rfl,rfl,(by show(0:Int)<(vs.length:Int)+1;omega),_,rfl,b,vs,j,O.val,rfl,?_,Y,by omega,Ar hz,?_⟩
    ·show[V.int (r2 % ((vs.length:Int)+1)),O.val]=_
     rw[hj]
    obtain⟨d',e1,e2,fb,kU,fc,kW⟩:=DI.laid (N:=B) (s4.trans sD) (Dc.Ad sD iU) ZT (fun a ha=>Bs (Dc.there iU ha) (fY a ha) (sD a)) fZ hb aM.upd (.inl ⟨vs,j,Y,AE⟩)
    have S:=kW y0 bJ
    have fg:=(AE:upd (upd H4 Dl (.lst (((List.range B.length).filter fun _=>true).map fun i=>V.str (B.getD i "")))) b (.lst (vs.take j++O.val::vs.drop j)) b=_)
    refine⟨_,rfl,by decide,fun t6 g=>⟨O.val,t6,O.Iy,rfl,AE,Dc.Dy (Dc.Ad (AG.new g) fc),_,rfl,?_⟩⟩
    have G:=fb.up (AG.new (o:=.tup [.ty "list",.ty "dict"]) g)
    have push:∀(Hz:Hp) (Z:Addr),Cj H Hz d' L M->O.val=.ref Z->Z∈O.addrs->∀U,Hz U=none->Cj H (upd (upd Hz U (.tup [O.val,.int (kk+1)])) L (.lst (M.map V.ref++[.ref U]))) d' L (M++[U]):=fun Hz Z D7 kX kY U I=>by
     have D8:=D7.up (AG.new (o:=.tup [O.val,.int (kk+1)]) I)
     exact D8.push (b:=Z) (k:=kk+1) (by rw[AE,kX]) (kU Z kY)
    cases O with
    |leaf v=>exact Af (by cases v<;>rfl) (Au ⟨d',M,_,_,_,_,_,_,rfl,by rw[e1,dv],G,by omega,lp,by omega,S⟩)
    |row Z fh=>
     refine Ay rfl ?_
     refine⟨_,rfl,_,"list","list",rfl,rfl,.lst (.inl (AG.new g _ _ fg)),_,rfl,BO (BO ?_)⟩
     exact⟨_,rfl,.inl ⟨rfl,_,A_.of G.eL⟩,_,rfl,_,rfl,_,_,rfl,rfl,Aq,fun U I=>⟨L,_,_,rfl,rfl,(G.up (AG.new I)).eL,lz,d',M++[U],_,_,_,_,_,_,rfl,by rw[e1,dv],push _ Z G rfl (by simp[Dc.addrs]) U I,by omega,by simp,by simp;omega,S⟩⟩
    |tab Z tS fh=>
     refine Ay rfl ?_
     refine⟨_,rfl,_,"list","list",rfl,rfl,.lst (.inl (AG.new g _ _ fg)),_,rfl,BO (BO ?_)⟩
     exact⟨_,rfl,.inl ⟨rfl,_,A_.of G.eL⟩,_,rfl,_,rfl,_,_,rfl,rfl,Aq,fun U I=>⟨L,_,_,rfl,rfl,(G.up (AG.new I)).eL,lz,d',M++[U],_,_,_,_,_,_,rfl,by rw[e1,dv],push _ Z G rfl (by simp[Dc.addrs]) U I,by omega,by simp,by simp;omega,S⟩⟩
   ·have nD:∀{D:Addr} {zs:List V},H4 D=none->upd H4 D (.lst zs) b=some (.dK kv):=fun h=>by rw[AN (Bq kT h)];exact kT
    refine⟨_,rfl,n,rfl,⟨_,A_.of bK⟩,LH (n:=B.length) (fun i=>.str (B.getD i "")) (fun i=>.str (B.getD i "")) (fun i=> !(BX kv (Sum.inr (B.getD i ""))).isSome) (Nat.le_of_lt (Ar (Nat.le_trans ln (by decide)))) (fun i D zs X hD=>⟨_,_,(AG.new hD).seq (A_.of bK),li i X⟩) (fun i D zs v H' X hD y=>⟨yl (H':=H') hD X y.2,y.1⟩) (fun D zs hD=>⟨_,(AG.new hD).seq (A_.of bK),by rw[List.length_map];exact Nat.le_refl _⟩) (fun i D zs R X hD r=>⟨_,rfl,_,"list","dict",rfl,rfl,.dK (.inl (nD hD)),_,rfl,Au ⟨_,rfl,_,rfl,b,_,rfl,Gr.k (k:=Sum.inr (B.getD i "")) (nD hD),_,rfl,r⟩⟩) (fun i D zs R X hD _ r=>⟨_,rfl,r⟩) fun Dl bM=>?_⟩
    obtain⟨lf,tT⟩:∃lf:List Str,lf=((List.range B.length).filter fun i=> !(BX kv (Sum.inr (B.getD i ""))).isSome).map fun i=>B.getD i "":=⟨_,rfl⟩
    have el:List.map (fun i=>V.str (B.getD i "")) (List.filter (fun i=> !(BX kv (Sum.inr (B.getD i ""))).isSome) (List.range B.length))=lf.map V.str:=by
     rw[tT,List.map_map]
     rfl
    have lm:∀x∈lf,(BS x=true/\x∈B)/\BX kv (Sum.inr x)=none:=fun x hx=>by
     rw[tT]at hx
     obtain⟨i,X,rfl⟩:=List.mem_map.mp hx
     have X:=List.mem_filter.mp X
     have h1:=List.mem_range.mp X.1
     have my:B.getD i ""∈B:=by
      rw[List.getD_eq_getElem?_getD,AAA h1]
      exact List.getElem_mem h1
     refine⟨⟨ny _ my,my⟩,?_⟩
     have:=X.2
     simp only[Bool.not_eq_true',Option.isSome_eq_false_iff,Option.isNone_iff_eq_none]at this
     exact this
    rw[el]
    have sD:=AG.new (o:=.lst (lf.map V.str)) bM
    have h1:upd H4 Dl (.lst (lf.map V.str)) Dl=some (.lst (lf.map V.str)):=AE
    have Y:=sD _ _ kT
    have YE:=Dc.Ad sD iU
    have ZU:∀a∈O.addrs,∀o u,upd H4 Dl (.lst (lf.map V.str)) a≠some (.CK o u):=fun a ha=>Bs (Dc.there iU ha) (fY a ha) (sD a)
    have kZ:=s4.trans sD
    generalize upd H4 Dl (.lst (lf.map V.str))=HD at sD h1 Y YE ZU kZ⊢
    refine⟨_,rfl,_,"list","dict",rfl,rfl,.dK (.inl Y),_,rfl,Au ?_⟩
    refine⟨_,rfl,Nat.zero_le _,fun z1 bN=>?_⟩
    have sz:=AG.new (o:=.lst []) bN
    refine⟨Dl,z1,_,rfl,rfl,A_.of (sz _ _ h1),A_.of AE,_,rfl,?_⟩
    cases lf with
    |nil=>
     refine Au ?_
     have fb:=(DI.up kZ).up sz
     have fc:=Dc.Ad sz YE
     have cq:=sz _ _ h1
     have tU:=sz _ _ Y
     refine⟨_,rfl,by decide,fun t6 g=>⟨O.val,t6,O.Iy,rfl,AE,Dc.Dy (Dc.Ad (AG.new g) fc),_,rfl,?_⟩⟩
     have G:=fb.up (AG.new (o:=.tup [.ty "list",.ty "dict"]) g)
     cases O with
     |leaf v=>exact Af (by cases v<;>rfl) (Au ⟨d,M,_,_,_,_,_,_,rfl,dv,G,by omega,lp,by omega,bJ⟩)
     |row Z fh=>exact Ay rfl ⟨_,rfl,_,"list","dict",rfl,rfl,.dK (.inl (AG.new g _ _ tU)),_,rfl,Au ⟨_,rfl,Nat.zero_le _,fun z2 J=>⟨Dl,z2,_,rfl,rfl,A_.of (AG.new J _ _ (AG.new g _ _ cq)),A_.of AE,_,rfl,Au ⟨d,M,_,_,_,_,_,_,rfl,dv,G.up (AG.new J),by omega,lp,by omega,bJ⟩⟩⟩⟩
     |tab Z tS fh=>exact Ay rfl ⟨_,rfl,_,"list","dict",rfl,rfl,.dK (.inl (AG.new g _ _ tU)),_,rfl,Au ⟨_,rfl,Nat.zero_le _,fun z2 J=>⟨Dl,z2,_,rfl,rfl,A_.of (AG.new J _ _ (AG.new g _ _ cq)),A_.of AE,_,rfl,Au ⟨d,M,_,_,_,_,_,_,rfl,dv,G.up (AG.new J),by omega,lp,by omega,bJ⟩⟩⟩⟩
    |cons x r=>
     refine BO ?_
     have h2:=sz _ _ h1
     refine⟨_,rfl,_,rfl,_,rfl,_,rfl,c,2,rfl,by decide,fun r2 wV q2=>?_⟩
     have mm:=G' r2 (n:=(((x::r).map V.str).length:Int)) (by simp)
     obtain⟨v,hv,mv⟩:=Ee mm.1 mm.2
     obtain⟨z,J,rfl⟩:=List.mem_map.mp mv
     obtain⟨nz,vz⟩:=lm z J
     have h3:=sz _ _ Y
     refine⟨_,rfl,Dl,_,rfl,.inl (A_.of h2),_,_,rfl,rfl,(by show(0:Int)<(((x::r).map V.str).length:Int);simp),Dl,_,_,_,rfl,rfl,A_.of h2,hv,b,_,rfl,Iu.k (k:=Sum.inr z) h3 (Ar hz),?_⟩
     obtain⟨d',e1,e2,fb,kU,fc,kW⟩:=DI.laid (N:=B) (kZ.trans sz) (Dc.Ad sz YE) ZT (fun a ha=>Bs (Dc.there YE ha) (ZU a ha) (sz a)) fZ hb (aM.upd (o:=.dK (putK kv (Sum.inr z) O.val))) (.inr ⟨kv,z,h3,Tn vz,nz,by rw[AE,Gp _ vz]⟩)
     have S:=kW y0 bJ
     have fg:=(AE:upd (upd HD z1 (.lst [])) b (.dK (putK kv (Sum.inr z) O.val)) b=_)
     have fj:upd (upd HD z1 (.lst [])) b (.dK (putK kv (Sum.inr z) O.val)) Dl=some (.lst ((x::r).map V.str)):=by
      rw[AN (Di h2 h3 (by intro z;cases z))];exact h2
     refine⟨_,rfl,by decide,fun t6 g=>⟨O.val,t6,O.Iy,rfl,AE,Dc.Dy (Dc.Ad (AG.new g) fc),_,rfl,?_⟩⟩
     have G:=fb.up (AG.new (o:=.tup [.ty "list",.ty "dict"]) g)
     have push:∀(Hz:Hp) (Z:Addr),Cj H Hz d' L M->O.val=.ref Z->Z∈O.addrs->∀U,Hz U=none->Cj H (upd (upd Hz U (.tup [O.val,.int (kk+1)])) L (.lst (M.map V.ref++[.ref U]))) d' L (M++[U]):=fun Hz Z D7 kX kY U I=>by
      have D8:=D7.up (AG.new (o:=.tup [O.val,.int (kk+1)]) I)
      exact D8.push (b:=Z) (k:=kk+1) (by rw[AE,kX]) (kU Z kY)
     cases O with
     |leaf v=>exact Af (by cases v<;>rfl) (Au ⟨d',M,_,_,_,_,_,_,rfl,by rw[e1,dv],G,by omega,lp,by omega,S⟩)
     |row Z fh=>
      refine Ay rfl ?_
      refine⟨_,rfl,_,"list","dict",rfl,rfl,.dK (.inl (AG.new g _ _ fg)),_,rfl,Au ⟨_,rfl,Nat.zero_le _,fun z2 J=>?_⟩⟩
      have bO:=G.up (AG.new (o:=.lst []) J)
      refine⟨Dl,z2,_,rfl,rfl,A_.of (AG.new J _ _ (AG.new g _ _ fj)),A_.of AE,_,rfl,BO ?_⟩
      exact⟨_,rfl,.inl ⟨rfl,_,A_.of bO.eL⟩,_,rfl,_,rfl,_,_,rfl,rfl,Aq,fun U I=>⟨L,_,_,rfl,rfl,(bO.up (AG.new I)).eL,lz,d',M++[U],_,_,_,_,_,_,rfl,by rw[e1,dv],push _ Z bO rfl (by simp[Dc.addrs]) U I,by omega,by simp,by simp;omega,S⟩⟩
     |tab Z tS fh=>
      refine Ay rfl ?_
      refine⟨_,rfl,_,"list","dict",rfl,rfl,.dK (.inl (AG.new g _ _ fg)),_,rfl,Au ⟨_,rfl,Nat.zero_le _,fun z2 J=>?_⟩⟩
      have bO:=G.up (AG.new (o:=.lst []) J)
      refine⟨Dl,z2,_,rfl,rfl,A_.of (AG.new J _ _ (AG.new g _ _ fj)),A_.of AE,_,rfl,BO ?_⟩
      exact⟨_,rfl,.inl ⟨rfl,_,A_.of bO.eL⟩,_,rfl,_,rfl,_,_,rfl,rfl,Aq,fun U I=>⟨L,_,_,rfl,rfl,(bO.up (AG.new I)).eL,lz,d',M++[U],_,_,_,_,_,_,rfl,by rw[e1,dv],push _ Z bO rfl (by simp[Dc.addrs]) U I,by omega,by simp,by simp;omega,S⟩⟩
  ·rintro σ Hi ⟨d,M,o6,o7,o8,o9,o10,o11,rfl,dv,DI,ds,lp,lt,bJ⟩
   refine⟨_,rfl,?_⟩
   rw[<-dv]
   exact q d Hi DI.made (by omega) bJ
end
end CJ
namespace CJ
open PySem L2
section
variable{P:Program} {w:World} {K:AAE} [BH K] {mg:Str->Option Value} {base:Heap}
theorem Vh:An ["_law_doc_here"] ["_law_doc_here"] (AK KY):=⟨rfl,rfl,rfl,by decide+kernel,rfl,by decide+kernel,by decide+kernel⟩
theorem YF {n:Nat} {f:Addr} {fd:FuncData} (F:EH K "_law_copy" "_law_copy" KY f fd) (T:Txt mg) (Vi:Df P w K mg base "_law_copy" ["_law_doc_here"] n (Jz n)):Bb P w K mg base Dk (n+1) f fd ["_law_doc_here"] (Jz (n+1)):=by
 obtain⟨fk,fm,G,I,J,L⟩:=Vi.ex
 refine F.ok Vh (fun vs H Q E h=>?_) (fun Jg A outer s H vs Q E hr h=>?_)
 ·obtain⟨d,rfl,c,bP,hsz,q⟩:=h
  rfl
 ·obtain⟨d,rfl,c,bP,hsz,q⟩:=h
  have nd:=Vh.nd
  have hu:=Be hr
  have B:Am n _:=hr.mono (by first|decide|omega)
  refine⟨_,(AD (Ag (Az (AL Ah rfl T.isinstance AR (AA (pv 0) (AA (Ao (v:=.ty "list") rfl T.list Ct rfl) AB)))) (AI (AO (Gw (fv:=[]) (fs:=[]) rfl (.of (by rfl)) (DQ (pv 0)) (fun _ _ _ _=>Gv) (fun C s0 H0 fp=>(AJ L B rfl J G I .nil AV (AA (pv 0) AB)))))) AQ)
   (AD (Ag (Az (AL Ah rfl T.isinstance AR (AA (pv 0) (AA (Ao (v:=.ty "dict") rfl T.dict Cu rfl) AB)))) (AI (AO (EZ (Iz rfl) rfl T.dict Cu (AA (XO (Gw (fv:=["_law_doc_here"]) (fs:=[0]) rfl (.of (by rfl)) (XH (pv 0)) (fun _ _ _ _=>Gv) (fun C s0 H0 fp=>(BI (AA (pv 0) (AA (AJ L B rfl J G I .nil AV (AA (JG hu (pv 1) (pv 0) (fun _ _=>rfl)) AB)) AB)))))) AB)))) AQ)
   (AI (AO (pv 0))))),?_⟩
  cases d with
  |leaf v=>
   refine⟨_,rfl,_,"list",Dc.Iy (.leaf v),rfl,rfl,Dc.Dy c,_,rfl,Af (by cases v<;>rfl) ?_⟩
   refine⟨_,rfl,_,"dict",Dc.Iy (.leaf v),rfl,rfl,Dc.Dy c,_,rfl,Af (by cases v<;>rfl) ?_⟩
   exact⟨_,rfl,q (.leaf v) H ⟨AG.refl H,c,.nil,fun a h=>(nomatch h),fun a h=>(nomatch h)⟩ (Dc.LQ _)⟩
  |row a M=>
   refine⟨_,rfl,_,"list",_,rfl,rfl,Dc.Dy c,_,rfl,Ay rfl ?_⟩
   simp only[Dc.At]at c
   simp only[Dc.size]at hsz
   simp only[Dc.deep]at bP
   have lx:=Dc.Es M
   refine⟨_,rfl,a,rfl,⟨_,.inl c.1⟩,?_⟩
   refine MW M.length (fun i=>(M.map Dc.val).getD i .BL) (fun D i l=>∃g,Av H l g/\D∉Dc.AH g/\l D=some (.lst (g.map Dc.val))/\g.length=i/\Dc.Ba (M.take i) g)
    (fun D N=>⟨[],.nil (AG.new N),(fun h=>nomatch h),AE,rfl,by simp[Dc.Ba]⟩) (fun D i l X ⟨g,F,_⟩=>⟨_,_,.inl (c.1.up (F.same _)),AAA (by rw[List.length_map];exact X)⟩)
    (fun D i l v H' X ⟨g,F,_⟩ y=>?_) (fun D l ⟨g,F,_⟩=>⟨_,.inl (c.1.up (F.same _)),by rw[List.length_map];exact Nat.le_refl _⟩) (fun D i l N X ⟨g,F,nD,Y,Z,lk⟩=>?_) (fun D l N ⟨g,F,nD,Y,Z,lk⟩=>?_)
   ·obtain⟨e,y⟩:=y
    refine⟨?_,e⟩
    have:=y _ (.inl (c.1.up (F.same _)))
    rw[List.getD_eq_getElem?_getD,this]
    rfl
   ·obtain⟨x,hx⟩:∃x,M[i]?=some x:=⟨_,AAA X⟩
    have hm:=AAD hx
    have dx:=Dc.Bf hm
    have sx:=Dc.Bn hm
    have ev:(M.map Dc.val).getD i .BL=x.val:=by rw[List.getD_eq_getElem?_getD,List.getElem?_map,hx];rfl
    rw[ev]
    refine⟨_,rfl,x,rfl,Dc.Ad F.same (Dc.CD c.2 x hm),by omega,by omega,fun O H3 f ka=>?_⟩
    have F3:=F.snoc f
    have wW:=f.same _ _ Y
    have R:D∉Dc.AH (g++[O]):=by
     rw[Dc.AU]
     simp only[Dc.AH,List.append_nil,List.mem_append,not_or]
     exact⟨nD,fun z=>by have:=f.new D z;rw[Y]at this;cases this⟩
    refine⟨_,wW,Ar (by rw[List.length_map];omega),g++[O],F3.frame (F3.same.put N) (fun b u o e=>?_),R,?_,by simp[Z],?_⟩
    ·rw[AN (fun z=>R (by rw[<-z];exact u))]
     exact e
    ·rw[AE,List.map_append];rfl
    ·rw[List.take_add_one,hx]
     exact Dc.HI lk (by simp[Dc.Ba,ka])
   ·rw[List.take_length]at lk
    exact q (.row D g) l (F.row N nD Y) (by simp only[Dc.CS];exact lk)
  |tab a S M=>
   refine⟨_,rfl,_,"list",_,rfl,rfl,Dc.Dy c,_,rfl,Af rfl ?_⟩
   refine⟨_,rfl,_,"dict",_,rfl,rfl,Dc.Dy c,_,rfl,Ay rfl ?_⟩
   simp only[Dc.At]at c
   simp only[Dc.size]at hsz
   simp only[Dc.deep]at bP
   have lx:=Dc.Es M
   have kl:=Dc.DR c.2.1
   refine⟨a,_,c.1,fun o Hf F=>⟨_,rfl,a,o,_,rfl,F.at_,?_⟩⟩
   refine MW M.length (fun i=>.str (S.getD i "")) (fun D i l=>∃(g:List Dc) (U:List Addr),Av Hf l g/\D∉Dc.AH g/\l D=some (.lst (U.map V.ref))/\U.length=i/\g.length=i/\Dc.Ba (M.take i) g/\
     ∀(j:Nat) e,g[j]?=some e->∃t,U[j]?=some t/\l t=some (.tup [.str (S.getD j ""),e.val])/\Hf t=none)
    (fun D N=>⟨[],[],.nil (AG.new N),(fun h=>nomatch h),AE,rfl,rfl,by simp[Dc.Ba],fun j e h=>by simp at h⟩) (fun D i l X ⟨g,U,m,_⟩=>⟨m.same _ _ F.at_,by rw[kl];exact X⟩)
    (fun D i l v H' X ⟨g,U,m,_⟩ y=>?_) (fun D l ⟨g,U,m,_⟩=>⟨m.same _ _ F.at_,kl.symm⟩) (fun D i l N X ⟨g,U,m,nD,Y,lt,Z,lk,tp⟩=>?_) (fun D l N ⟨g,U,m,nD,Y,lt,Z,lk,tp⟩=>?_)
   ·obtain⟨e,k,v',e1,e2⟩:=y
    obtain⟨nm,x,h1,h2,h3,h4,_⟩:=Dc.PV c.2.1 c.2.2.1 e1
    refine⟨?_,e⟩
    rw[e2,h3,List.getD_eq_getElem?_getD,h1]
    rfl
   ·obtain⟨kv,jr⟩:∃kv,(Dc.kvs S M)[i]?=some kv:=⟨_,AAA (by rw[kl];exact X)⟩
    obtain⟨nm,x,h1,h2,h3,h4,h5,h6⟩:=Dc.PV c.2.1 c.2.2.1 (k:=kv.1) (v:=kv.2) jr
    have hm:=AAD h2
    have dx:=Dc.Bf hm
    have sx:=Dc.Bn hm
    have en:S.getD i ""=nm:=by rw[List.getD_eq_getElem?_getD,h1];rfl
    rw[en]
    have tV:FH H l:=F.rd.trans m.same.r
    refine⟨_,rfl,_,rfl,_,rfl,a,x.val,rfl,(by rw[<-h6];exact .inl ⟨_,Sum.inr nm,tV a _ c.1,rfl,rfl⟩),x,rfl,Dc.UN tV (Dc.CD c.2.2.2 x hm),by omega,by omega,fun O H3 f ka=>⟨Aq,fun t ht=>?_⟩⟩
    have F3:=m.snoc f
    have F4:=F3.up (AG.new (o:=.tup [.str nm,O.val]) ht)
    have tW:=(AG.new (o:=.tup [.str nm,O.val]) ht) _ _ (f.same _ _ Y)
    have R:D∉Dc.AH (g++[O]):=by
     rw[Dc.AU]
     simp only[Dc.AH,List.append_nil,List.mem_append,not_or]
     exact⟨nD,fun z=>by have:=f.new D z;rw[Y]at this;cases this⟩
    have cV:∀{t':Addr} {ys:List V},upd H3 t (.tup [.str nm,O.val]) t'=some (.tup ys)->t'≠D:=fun h=>Di h tW (by intro z;cases z)
    refine⟨_,tW,Ar (by rw[List.length_map];omega),g++[O],U++[t],F4.frame (F4.same.put N) (fun b u o e=>?_),R,by rw[AE,List.map_append];rfl,by simp[lt],by simp[Z],?_,fun j e hj=>?_⟩
    ·rw[AN (fun z=>R (by rw[<-z];exact u))]
     exact e
    ·rw[List.take_add_one,h2]
     exact Dc.HI lk (by simp[Dc.Ba,ka])
    ·by_cases kQ:j<g.length
     ·rw[List.getElem?_append_left kQ]at hj
      obtain⟨t',g1,g2,g3⟩:=tp j e hj
      have tX:=(AG.new (o:=.tup [.str nm,O.val]) ht) _ _ (f.same _ _ g2)
      exact⟨t',by rw[List.getElem?_append_left (by omega)];exact g1,by rw[AN (cV tX)];exact tX,g3⟩
     ·have hl:=(AAB hj).1
      rw[List.length_append,List.length_singleton]at hl
      have ej:j=i:=by omega
      subst ej
      rw[List.getElem?_append_right (by omega),Z,Nat.sub_self]at hj
      have e1:O=e:=by simpa using hj
      subst e1
      refine⟨t,by rw[List.getElem?_append_right (by omega),lt,Nat.sub_self];rfl,?_,F3.same.free ht⟩
      rw[AN (cV (ys:=[.str nm,O.val]) AE),AE,en]
   ·refine⟨m.same _ _ F.at_,?_⟩
    rw[List.take_length]at lk
    have sb:=F.back m.same
    have ba:∀b,b≠a->back a H l b=l b:=fun b u=>Qd u
    have Da:D≠a:=(F.free N).2
    have el:S.length=g.length:=by rw[Z,c.2.1]
    refine⟨D,U,Dc.kvs S g,rfl,A_.of (by rw[ba D Da];exact Y),by rw[lt,Dc.DR el,Z],fun j k v e=>?_,by rw[Dc.DR el,Z];omega,fun p hp=>?_⟩
    ·obtain⟨nm,x,h1,h2,h3,h4,_⟩:=Dc.PV el c.2.2.1 e
     obtain⟨t,g1,g2,g3⟩:=tp j x h2
     refine⟨t,g1,?_⟩
     rw[ba t (F.free g3).2,g2,h3,h4,List.getD_eq_getElem?_getD,h1]
     rfl
    ·have nk:((Dc.kvs S g).map (·.1)).Nodup:=by
      rw[Dc.CZ el]
      exact List.Pairwise.map _ (fun a b h z=>h (Sum.inr.inj z)) c.2.2.1
     have mk:DF [] (Dc.kvs S g)=Dc.kvs S g:=HJ _ _ (by simpa using nk)
     rw[mk]
     have tY:H p=none:=sb.free hp
     have np:p∉Dc.AH g:=fun z=>by
      have h1:=Dc.FV m.at_ z
      have pa:p≠a:=(F.free (m.new p z)).2
      rw[ba p pa]at hp
      exact h1 hp
     have FL:Av H (upd (back a H l) p (.dK (Dc.kvs S g))) g:=by
      refine⟨sb.put tY,Dc.BJ g (fun b u o e=>?_) m.at_,m.nd,fun b u=>?_,fun b u=>(F.free (m.new b u)).1⟩
      ·rw[AN (fun z=>np (by rw[<-z];exact u)),ba b (F.free (m.new b u)).2]
       exact e
      ·refine Bs (Dc.FV m.at_ u) (m.own b u) (fun o e=>?_)
       rw[AN (fun z=>np (by rw[<-z];exact u)),ba b (F.free (m.new b u)).2]
       exact e
     exact q (.tab p S g) _ (FL.tab tY np el c.2.2.1 AE) (by simp only[Dc.CS];exact⟨trivial,lk⟩)
theorem Oh {f:Addr} {a:FuncData} (F:EH K "_law_copy" "_law_copy" KY f a) (T:Txt mg) (b:Binds K a ["_law_doc_here"] []) (m:mg "_law_copy"=some (.ref f)):∀n:Nat,Bb P w K mg base Dk n f a ["_law_doc_here"] (Jz n)
 |0=>UK (fun c H Q E h=>by obtain⟨d,_,_,e,_⟩:=h;have:=Dc.HG d;omega)
 |n+1=>YF F T (Df.mk' F b m (Oh F T b m n))
end
end CJ
namespace CJ
open PySem L2
section
variable{P:Program} {w:World} {K:AAE} [BH K] {mg:Str->Option Value} {base:Heap}
theorem Qt:An ["_law_doc_here","_law_path","_law_step"] ["_law_doc_here","_law_path"] (AK IJ):=⟨rfl,rfl,rfl,by decide+kernel,rfl,by decide+kernel,by decide+kernel⟩
theorem Vj {f:Addr} {I:FuncData} (F:EH K "_law_found" "_law_found" IJ f I) (T:Txt mg):Bb P w K mg base Dk 1 f I ["_law_doc_here","_law_path"] C_:=by
 refine F.ok Qt (fun M H Q E h=>?_) (fun N A outer s H M Q E O h=>?_)
 ·obtain⟨d,t,xs,rfl,n,C,J,q⟩:=h
  rfl
 ·obtain⟨d,t,xs,rfl,n,C,J,q⟩:=h
  have nd:=Qt.nd
  have L:=Be O
  refine⟨_,(AD (DD PassesOwn.never rfl (Zo (pv 1)) (Bm (i:=2) nd rfl (Or.inl rfl)) (AD (Ag (PW.pt (pw_and (Az (AL Ah rfl T.isinstance AR (AA (pv 2) (AA (Ao (v:=.ty "str") rfl T.str Nt rfl) AB)))) (pw_and1 (PW.pt (pw_or (De (Az (AL Ah rfl T.isinstance AR (AA (pv 0) (AA (Ao (v:=.ty "dict") rfl T.dict Cu rfl) AB))))) (pw_or1 (L_ (Fn L (pv 2) (pv 0))))))))) (AI (AO Bg)) AQ)
   (AD (Ag (PW.pt (pw_and (De (Az (AL Ah rfl T.isinstance AR (AA (pv 2) (AA (Ao (v:=.ty "str") rfl T.str Nt rfl) AB))))) (pw_and1 (PW.pt (pw_or (De (Az (AL Ah rfl T.isinstance AR (AA (pv 0) (AA (Ao (v:=.ty "list") rfl T.list Ct rfl) AB))))) (pw_or1 (AM Yi (pv 2) (AL AZ rfl T.len PySem.boot_len (AA (pv 0) AB)) (AS _)))))))) (AI (AO Bg)) AQ)
   (AI (AX (i:=0) nd rfl (Or.inl rfl) (UM (AY (r:=Hn K) Cc (pv 0) (pv 2) (fun _ _=>rfl)) (JG L (pv 0) (pv 2) (fun _ _=>rfl))))))))
   (AI (AO (pv 0)))),?_⟩
  refine⟨_,rfl,t,rfl,⟨_,Ap.of C⟩,WY (xs:=xs) (fun i u o=>∃(p:Dc) (D:Option V),u=[some p.val,some (.ref t),D]/\o=H/\p.At H/\d.sub xs=p.sub (xs.drop i)) ⟨d,none,rfl,rfl,n,rfl⟩ (fun i u o _ ⟨_,_,_,e,_⟩=>by rw[e];exact Ap.of C) ?_ ?_⟩
  ·rintro i z u o G ⟨p,D,rfl,rfl,c,m⟩
   have R:=(AAB G).1
   have S:xs.drop i=z::xs.drop (i+1):=by rw[List.drop_eq_getElem_cons R,(AAB G).2]
   rw[S]at m
   have no:p.sub [z]=none->Q .BL o:=fun h=>by
    rw[m,Dc.Ku h]at q
    exact q
   rcases J z (AAD G)with⟨j,rfl⟩|⟨k,rfl,_⟩
   ·refine⟨_,rfl,_,"str","int",rfl,rfl,.int _,_,rfl,Au (Au ?_)⟩
    refine⟨_,rfl,_,"str","int",rfl,rfl,.int _,_,rfl,BO ?_⟩
    cases p with
    |leaf v=>exact⟨_,rfl,_,"list",_,rfl,rfl,Dc.Dy c,_,rfl,Ay (by cases v<;>rfl) (BO (no rfl))⟩
    |tab a x g=>exact⟨_,rfl,_,"list",_,rfl,rfl,Dc.Dy c,_,rfl,BO (BO (no rfl))⟩
    |row a g=>
     have b:=c
     simp only[Dc.At]at b
     refine⟨_,rfl,_,"list",_,rfl,rfl,Dc.Dy c,_,rfl,Au ⟨_,rfl,_,rfl,a,_,rfl,.inl (.inl b.1),_,_,rfl,rfl,_,rfl,?_⟩⟩
     by_cases U:j<g.length
     ·have l:g[j]?=some g[j]:=AAA U
      refine Af (decide_eq_false (by rw[List.length_map];omega)) (.inl ⟨_,rfl,_,rfl,a,_,_,_,rfl,rfl,.inl b.1,Cb (by rw[List.getElem?_map,l];rfl),_,_,rfl,rfl,Dc.CD b.2 _ (AAD l),?_⟩)
      rw[m,Dc.Ew l]
     ·refine Ay (decide_eq_true (by rw[List.length_map];omega)) (no ?_)
      simp only[Dc.sub]
      rw[if_pos (by omega),Int.toNat_natCast,List.getElem?_eq_none_iff.mpr (by omega)]
      rfl
   ·refine⟨_,rfl,_,"str","str",rfl,rfl,.str _,_,rfl,BO ?_⟩
    cases p with
    |leaf v=>exact⟨_,rfl,_,"dict",_,rfl,rfl,Dc.Dy c,_,rfl,Ay (by cases v<;>rfl) (BO (no rfl))⟩
    |row a g=>exact⟨_,rfl,_,"dict",_,rfl,rfl,Dc.Dy c,_,rfl,BO (BO (no rfl))⟩
    |tab a x g=>
     have b:=c
     simp only[Dc.At]at b
     refine⟨_,rfl,_,"dict",_,rfl,rfl,Dc.Dy c,_,rfl,Au ⟨_,rfl,_,rfl,a,_,rfl,.inl ⟨_,Sum.inr k,b.1,rfl,rfl⟩,_,rfl,?_⟩⟩
     cases l:(x.zip g).lookup k with
     |none=>
      have B:BX (Dc.kvs x g) (Sum.inr k)=none:=by rw[Dc.Cv b.2.1,l];rfl
      refine Ay (by rw[B];rfl) (no ?_)
      simp only[Dc.sub,l]
      rfl
     |some y=>
      have B:BX (Dc.kvs x g) (Sum.inr k)=some y.val:=by rw[Dc.Cv b.2.1,l];rfl
      refine Af (by rw[B];rfl) ?_
      refine⟨_,rfl,_,"str","str",rfl,rfl,.str _,_,rfl,Au (Au ?_)⟩
      refine .inr ⟨_,rfl,_,rfl,a,y.val,rfl,(by rw[<-B];exact .inl ⟨_,Sum.inr k,b.1,rfl,rfl⟩),y,_,rfl,rfl,Dc.CD b.2.2.2 y (Dc.Aj l).2,?_⟩
      rw[m,Dc.Ex l]
  ·rintro u o ⟨p,D,rfl,rfl,c,m⟩
   rw[List.drop_length,Dc.As]at m
   rw[m]at q
   exact⟨_,rfl,q⟩
end
end CJ
namespace CJ
open PySem L2
section
variable{P:Program} {w:World} {K:AAE} [BH K] {mg:Str->Option Value} {base:Heap}
theorem ZV:An ["_law_doc_here","_law_path","_law_value_here","_law_holder","_law_step"] ["_law_doc_here","_law_path","_law_value_here"] (AK Si):=⟨rfl,rfl,rfl,by decide+kernel,rfl,by decide+kernel,by decide+kernel⟩
theorem bQ {f:Addr} {fd:FuncData} (F:EH K "_law_put" "_law_put" Si f fd) (T:Txt mg) (I:Df P w K mg base "_law_found" ["_law_doc_here","_law_path"] 1 C_):Bb P w K mg base Dk 2 f fd ["_law_doc_here","_law_path","_law_value_here"] Mr:=by
 obtain⟨Ka,Kb,J,L,M,N⟩:=I.ex
 refine F.ok ZV (fun vs H Q E h=>?_) (fun Jg A outer s H vs Q E hr h=>?_)
 ·obtain⟨G,d,v,t,xs,rfl,F,hsz,ht,hx,nx,q,qn⟩:=h
  rfl
 ·obtain⟨G,d,v,t,xs,rfl,F,hsz,ht,hx,nx,q,qn⟩:=h
  have nd:=ZV.nd
  have hu:=Be hr
  have p:Am 1 _:=hr.mono (by first|decide|omega)
  refine⟨_,(AD (AX (i:=3) nd rfl (Or.inl rfl) (AJ N p rfl M J L .nil AV (AA (pv 0) (AA (BN CP (pv 1) Bv (Bd (Cm CA AF))) AB))))
   (AD (AX (i:=4) nd rfl (Or.inl rfl) (AY (r:=Ax K) AW (pv 1) (Cm CA AF) (fun _ _=>rfl)))
   (AD (Ag (Az (AL Ah rfl T.isinstance AR (AA (pv 4) (AA (Ao (v:=.ty "str") rfl T.str Nt rfl) AB)))) (AD (Ag (PW.pt (pw_or (De (Az (AL Ah rfl T.isinstance AR (AA (pv 3) (AA (Ao (v:=.ty "dict") rfl T.dict Cu rfl) AB))))) (pw_or1 (L_ (aE hu (pv 4) (pv 3)))))) (AI (AO Bg)) AQ)
   (AD (Fo hu (pv 3) (pv 4) (pv 2) rfl)
   (AI (AO (pv 0))))) AQ)
   (AD (Ag (PW.pt (pw_or (De (Az (AL Ah rfl T.isinstance AR (AA (pv 3) (AA (Ao (v:=.ty "list") rfl T.list Ct rfl) AB))))) (pw_or1 (AM dZ (pv 4) (AL AZ rfl T.len PySem.boot_len (AA (pv 3) AB)) (AS _))))) (AI (AO Bg)) AQ)
   (AD (Cq (FD PySem.F.plainAttrs_list PySem.F.slot_list_insert PySem.F.type_list_insert LI (pv 3) (AA (pv 4) (AA (pv 2) AB))))
   (AI (AO (pv 0)))))))),?_⟩
  obtain⟨O,lv,rfl⟩:∃O lv,xs=O++[lv]:=⟨xs.dropLast,xs.getLast nx,(List.dropLast_concat_getLast nx).symm⟩
  have kb:steps O:=fun z hz=>hx z (List.mem_append_left _ hz)
  have F1:=F.one
  refine⟨_,rfl,_,rfl,_,rfl,_,rfl,t,_,rfl,ht,fun p1 Z s1 Sq=>?_⟩
  rw[CQ]at Sq
  have fN:=s1 _ _ ht
  have Y:=F.up s1
  have B:=Y.one
  refine⟨d,p1,O,rfl,B.at_,Sq,kb,?_⟩
  refine⟨_,rfl,_,rfl,t,_,_,_,rfl,rfl,Ap.of fN,Br O _,?_⟩
  have iW:=Y.two.at_
  have m:Q .BL Z:=qn _ s1
  rcases hx lv (by simp)with⟨i,rfl⟩|⟨k,rfl,nk⟩
  ·refine⟨_,rfl,_,"str","int",rfl,rfl,.int _,_,rfl,Au ?_⟩
   cases R:d.sub O with
   |none=>exact⟨_,rfl,_,"list","NoneType",rfl,rfl,.BL,_,rfl,BO (BO m)⟩
   |some e=>
   have P:=Dc.BD.sub R
   have g:=P.at_ B.at_
   cases e with
   |leaf w'=>exact⟨_,rfl,_,"list",Dc.Iy (.leaf w'),rfl,rfl,Dc.Dy g,_,rfl,Ay (by cases w'<;>rfl) (BO m)⟩
   |tab b S j=>exact⟨_,rfl,_,"list",_,rfl,rfl,Dc.Dy g,_,rfl,Ay rfl (BO m)⟩
   |row b j=>
    refine⟨_,rfl,_,"list",_,rfl,rfl,Dc.Dy g,_,rfl,Af rfl ?_⟩
    simp only[Dc.At]at g
    refine⟨_,rfl,_,rfl,b,_,rfl,.inl (.inl g.1),_,_,rfl,rfl,_,rfl,CG (fun h=>m) (fun h=>?_)⟩
    have hi:i<=j.length:=by
     refine Nat.le_of_not_lt fun z=>h (decide_eq_true ?_)
     rw[List.length_map]
     omega
    have C:(Dc.row b j).room (.int (i:Int))=true:=by
     simp only[Dc.room,Bool.and_eq_true,decide_eq_true_eq]
     omega
    have eb:=g.1.exact (B.own b (P.addrs b (by simp[Dc.addrs])))
    have lx:=Dc.Es j
    have U:=P.size
    simp only[Dc.size]at U
    refine⟨_,rfl,.inl ⟨rfl,_,A_.of eb⟩,_,rfl,_,rfl,b,_,i,_,rfl,rfl,eb,by rw[List.length_map];exact hi,Ar (by rw[List.length_map];omega),?_⟩
    refine⟨_,rfl,q O _ _ rfl R C _ (BQ.insert Y R C rfl (by simp[Dc.addrs]) ?_ (fun a o ha h=>by rw[AN ha];exact h) (fun o u z=>by rw[AE]at z;cases z))⟩
    simp only[Dc.CT,Int.toNat_natCast,Dc.At]
    have bt:=P.addrs b (by simp[Dc.addrs])
    have nb:b∉Dc.AH j:=by
     obtain⟨l,r,e1,_⟩:=Dc.CN (n:=Dc.row b j) (Dc.EI d B.at_) B.nd R
     have:=B.nd
     rw[e1]at this
     have:=(List.nodup_append.mp (List.nodup_append.mp this).1).2.1
     simp only[Dc.addrs]at this
     exact(List.nodup_cons.mp this).1
    have V:Dc.CY (upd Z b (.lst ((j.map Dc.val).take i++v.val::(j.map Dc.val).drop i))) j:=Dc.BJ j (fun c X o h=>by rw[AN (fun z=>nb (by rw[<-z];exact X))];exact h) g.2
    have D:v.At (upd Z b (.lst ((j.map Dc.val).take i++v.val::(j.map Dc.val).drop i))):=Dc.Bk v (fun c X o h=>by rw[AN (fun z=>Y.apart c X (by rw[z];exact bt))];exact h) iW
    refine⟨.inl ?_,(Dc.Bi _ _).mpr ?_⟩
    ·rw[AE,List.map_append,List.map_cons,List.map_take,List.map_drop]
    ·have h2:=(Dc.Bi (j.take i) (j.drop i)).mp (by rw[List.take_append_drop];exact V)
     refine⟨h2.1,?_⟩
     simp only[Dc.CY]
     exact⟨D,h2.2⟩
  ·refine⟨_,rfl,_,"str","str",rfl,rfl,.str _,_,rfl,BO ?_⟩
   cases R:d.sub O with
   |none=>exact⟨_,rfl,_,"dict","NoneType",rfl,rfl,.BL,_,rfl,BO (BO m)⟩
   |some e=>
   have P:=Dc.BD.sub R
   have g:=P.at_ B.at_
   cases e with
   |leaf w'=>exact⟨_,rfl,_,"dict",Dc.Iy (.leaf w'),rfl,rfl,Dc.Dy g,_,rfl,Ay (by cases w'<;>rfl) (BO m)⟩
   |row b j=>exact⟨_,rfl,_,"dict",_,rfl,rfl,Dc.Dy g,_,rfl,Ay rfl (BO m)⟩
   |tab b S j=>
    refine⟨_,rfl,_,"dict",_,rfl,rfl,Dc.Dy g,_,rfl,Af rfl ?_⟩
    simp only[Dc.At]at g
    refine⟨_,rfl,_,rfl,b,_,rfl,.inl ⟨_,Sum.inr k,g.1,rfl,rfl⟩,_,rfl,?_⟩
    rw[Dc.Cv g.2.1]
    by_cases hk:k∈S
    ·obtain⟨y,hy,_⟩:=Dc.ER g.2.1 hk
     rw[hy]
     exact BO m
    ·have hy:(S.zip j).lookup k=none:=by
      cases q2:(S.zip j).lookup k with
      |none=>rfl
      |some x=>exact absurd (Dc.Aj q2).1 hk
     have nv:BX (Dc.kvs S j) (Sum.inr k)=none:=by rw[Dc.Cv g.2.1,hy];rfl
     rw[hy]
     refine Au ?_
     have C:(Dc.tab b S j).room (.str k)=true:=by simp[Dc.room,hk]
     have eb:=g.1.exact (B.own b (P.addrs b (by simp[Dc.addrs])))
     have lx:=Dc.Es j
     have U:=P.size
     simp only[Dc.size]at U
     refine⟨_,rfl,_,rfl,_,rfl,b,_,rfl,Iu.k (k:=Sum.inr k) eb (Ar (by rw[Dc.DR g.2.1];omega)),?_⟩
     rw[Gp _ nv]
     refine⟨_,rfl,q O _ _ rfl R C _ (BQ.insert Y R C rfl (by simp[Dc.addrs]) ?_ (fun a o ha h=>by rw[AN ha];exact h) (fun o u z=>by rw[AE]at z;cases z))⟩
     simp only[Dc.CT,Dc.At]
     have bt:=P.addrs b (by simp[Dc.addrs])
     have nb:b∉Dc.AH j:=by
      obtain⟨l,r,e1,_⟩:=Dc.CN (n:=Dc.tab b S j) (Dc.EI d B.at_) B.nd R
      have:=B.nd
      rw[e1]at this
      have:=(List.nodup_append.mp (List.nodup_append.mp this).1).2.1
      simp only[Dc.addrs]at this
      exact(List.nodup_cons.mp this).1
     have V:Dc.CY (upd Z b (.dK (Dc.kvs S j++[(Sum.inr k,v.val)]))) j:=Dc.BJ j (fun c X o h=>by rw[AN (fun z=>nb (by rw[<-z];exact X))];exact h) g.2.2.2
     have D:v.At (upd Z b (.dK (Dc.kvs S j++[(Sum.inr k,v.val)]))):=Dc.Bk v (fun c X o h=>by rw[AN (fun z=>Y.apart c X (by rw[z];exact bt))];exact h) iW
     refine⟨.inl ?_,by simp[g.2.1],MK g.2.2.1 hk,(Dc.Bi _ _).mpr ⟨V,by simp only[Dc.CY];exact⟨D,trivial⟩⟩⟩
     rw[AE,Dc.Jq k v g.2.1]
end
end CJ
namespace CJ
open PySem L2
section
variable{P:Program} {w:World} {K:AAE} [BH K] {mg:Str->Option Value} {base:Heap}
theorem Qu:An ["_law_doc_here","_law_row_here","_law_holder","_law_part_here"] ["_law_doc_here","_law_row_here"] (AK IK):=⟨rfl,rfl,rfl,by decide+kernel,rfl,by decide+kernel,by decide+kernel⟩
theorem Vk {f:Addr} {fd:FuncData} (F:EH K "_law_asked" "_law_asked" IK f fd) (T:Txt mg) (t:Df P w K mg base "_law_found" ["_law_doc_here","_law_path"] 1 C_):Bb P w K mg base Dk 6 f fd ["_law_doc_here","_law_row_here"] KS:=by
 obtain⟨S,U,g,j,l,m⟩:=t.ex
 refine F.ok Qu (fun vs H Q E h=>?_) (fun Jg A outer s H vs Q E Y h=>?_)
 ·obtain⟨d,r,D,u,zs,p,rfl,n,L,Z,R,q⟩:=h
  rfl
 ·obtain⟨d,r,D,u,zs,p,rfl,n,L,Z,R,q⟩:=h
  have nd:=Qu.nd
  have hu:=Be Y
  have c:Am 1 _:=Y.mono (by first|decide|omega)
  refine⟨_,(AD (Ag (AM Bj (AY (r:=Ax K) AW (pv 1) AF (fun _ _=>rfl)) Ab (AS _)) (AD (AX (i:=2) nd rfl (Or.inl rfl) (AJ m c rfl l g j .nil AV (AA (pv 0) (AA (BN CP (AY (r:=Ax K) AW (pv 1) AF (fun _ _=>rfl)) Bv (Bd (Cm CA AF))) AB))))
   (AI (AO (Hb (AL Ah rfl T.isinstance AR (AA (pv 2) (AA (Ao (v:=.ty "dict") rfl T.dict Cu rfl) AB))) (GI (Zi (Fn hu (AY (r:=Ax K) AW (AY (r:=Ax K) AW (pv 1) AF (fun _ _=>rfl)) (Cm CA AF) (fun _ _=>rfl)) (pv 2)))))))) AQ)
   (AD (AX (i:=3) nd rfl (Or.inl rfl) (AJ m c rfl l g j .nil AV (AA (pv 0) (AA (AY (r:=Ax K) AW (pv 1) AF (fun _ _=>rfl)) AB))))
   (AD (Ag (AM Bj (AY (r:=Ax K) AW (pv 1) AF (fun _ _=>rfl)) Ab (AS _)) (AI (AO (Hb (Cr EG (pv 3) Bg (AS _)) (GI (Cr (ar (Am.units Y):Ep _ _ Xl) (pv 3) (AY (r:=Ax K) AW (pv 1) AF (fun _ _=>rfl)) (AS _)))))) AQ)
   (AD (Ag (AM Bj (AY (r:=Ax K) AW (pv 1) AF (fun _ _=>rfl)) Ab (AS _)) (AI (AO (dI (Hb (AL Ah rfl T.isinstance AR (AA (pv 3) (AA (Ao (v:=.ty "list") rfl T.list Ct rfl) AB))) (GI (Cr Bj (AY (r:=Ax K) AW (pv 1) AF (fun _ _=>rfl)) Ab (AS _)))) (GI (Hb (AL Ah rfl T.isinstance AR (AA (pv 3) (AA (Ao (v:=.ty "dict") rfl T.dict Cu rfl) AB))) (GI (Cr Bj (AY (r:=Ax K) AW (pv 1) AF (fun _ _=>rfl)) Ab (AS _)))))))) AQ)
   (AI (AO (Cr EG (pv 3) Bg (AS _)))))))),?_⟩
  obtain⟨a,rest,rfl,y,T3⟩:=R.th
  have G:=R.rw
  refine⟨_,rfl,a,_,0,.str D,rfl,rfl,Ap.of y,HY,rfl,_,rfl,?_⟩
  refine CG (fun h=>?_) (fun h=>?_)
  ·have hw:D="lacks":=V.str.inj (of_decide_eq_true h)
   have nx:=G.nx (.inr (.inl hw))
   obtain⟨I,X,e⟩:∃I X,u=I++[X]:=⟨u.dropLast,u.getLast nx,(List.dropLast_concat_getLast nx).symm⟩
   have hp:=G.hp
   rw[e]at hp
   have su:steps I:=fun z hz=>G.sx z (by rw[e];exact List.mem_append_left _ hz)
   have sl:Dc.BB X:=G.sx X (by rw[e];simp)
   refine⟨_,rfl,_,rfl,a,_,1,_,rfl,rfl,Ap.of y,GD,_,rfl,_,rfl,p,_,rfl,hp,fun p1 H1 B M=>?_⟩
   rw[CQ]at M
   have TC:=B _ _ y
   have C:=Dc.Ad B n
   refine⟨d,p1,I,rfl,C,M,su,?_⟩
   cases N:d.sub I with
   |none=>exact⟨_,rfl,_,"dict","NoneType",rfl,rfl,.BL,_,rfl,Au (q _ _ B)⟩
   |some e=>
   have o:=(Dc.BD.sub N).at_ C
   cases e with
   |leaf w'=>exact⟨_,rfl,_,"dict",Dc.Iy (.leaf w'),rfl,rfl,Dc.Dy o,_,rfl,Af (by cases w'<;>rfl) (q _ _ B)⟩
   |row b ys=>exact⟨_,rfl,_,"dict",_,rfl,rfl,Dc.Dy o,_,rfl,Au (q _ _ B)⟩
   |tab b ks ys=>
    refine⟨_,rfl,_,"dict",_,rfl,rfl,Dc.Dy o,_,rfl,BO ?_⟩
    simp only[Dc.At]at o
    refine⟨_,rfl,a,_,1,_,rfl,rfl,Ap.of TC,GD,_,rfl,p,_,_,_,rfl,rfl,Ap.of (B _ _ hp),Br I _,_,rfl,?_⟩
    rcases sl with⟨i,rfl⟩|⟨k,rfl,_⟩
    ·exact⟨b,_,rfl,.inl ⟨_,Sum.inl i,o.1,rfl,rfl⟩,q _ _ B⟩
    ·exact⟨b,_,rfl,.inl ⟨_,Sum.inr k,o.1,rfl,rfl⟩,q _ _ B⟩
  have J:=AG.refl H
  refine⟨_,rfl,_,rfl,a,_,1,_,rfl,rfl,Ap.of y,GD,d,p,u,rfl,n,G.hp,G.sx,?_⟩
  refine⟨_,rfl,a,_,0,.str D,rfl,rfl,Ap.of y,HY,rfl,_,rfl,?_⟩
  refine CG (fun h=>?_) (fun h=>?_)
  ·have hw:D="ask":=V.str.inj (of_decide_eq_true h)
   obtain⟨v,rfl,iW,bR,kc⟩:=T3.ak hw
   cases N:d.sub u with
   |none=>exact⟨_,rfl,rfl,_,rfl,Au (q _ _ J)⟩
   |some e=>
    have P:=Dc.BD.sub N
    refine⟨_,rfl,rfl,_,rfl,Ay (by rw[show decide ((KR (some e))=V.BL)=false from Dc.JK (P.at_ n)];rfl) ?_⟩
    exact⟨_,rfl,_,rfl,a,_,2,_,rfl,rfl,Ap.of y,at2,VO (P.at_ n) iW (P.ok L) bR (by have:=P.size;omega) (by omega) fun b=>q b _ J⟩
  refine⟨_,rfl,a,_,0,.str D,rfl,rfl,Ap.of y,HY,rfl,_,rfl,?_⟩
  refine CG (fun h=>?_) (fun h=>?_)
  ·have hw:D="is":=V.str.inj (of_decide_eq_true h)
   obtain⟨x,rfl⟩:=T3.is hw
   obtain⟨ty,O⟩:∃ty,NG H (KR (d.sub u)) ty:=by
    cases N:d.sub u with
    |none=>exact⟨_,.BL⟩
    |some e=>exact⟨_,Dc.Dy ((Dc.BD.sub N).at_ n)⟩
   have two:(Yg (jU eG (Jb (JW 3) (Jb (tC (V.ty "dict")) Wc))) (WJ jN (WJ (Ax K) (JW 1) (tC (V.int 2))) (tC (V.str "table")))) [some d.val,some (.ref a),none,some (KR (d.sub u))] H Q:=by
    refine⟨_,rfl,_,"dict",ty,rfl,rfl,O,_,rfl,CG (fun b=>?_) (fun b=>q _ _ J)⟩
    exact⟨_,rfl,a,_,2,_,rfl,rfl,Ap.of y,at2,rfl,q _ _ J⟩
   refine⟨_,rfl,_,"list",ty,rfl,rfl,O,_,rfl,CG (fun b=>?_) (fun b=>⟨_,rfl,Au two⟩)⟩
   exact⟨_,rfl,a,_,2,_,rfl,rfl,Ap.of y,at2,rfl,_,rfl,CG (fun _=>q _ _ J) (fun _=>two)⟩
  exact⟨_,rfl,rfl,q _ _ J⟩
end
end CJ
namespace CJ
open PySem L2
section
variable{P:Program} {w:World} {K:AAE} [BH K] {mg:Str->Option Value} {base:Heap}
theorem Vl:An ["_law_doc_here","_law_row_here","_law_became","_law_part_here","_law_holder"] ["_law_doc_here","_law_row_here"] (AK Lo):=⟨rfl,rfl,rfl,by decide+kernel,rfl,by decide+kernel,by decide+kernel⟩
theorem YG {f:Addr} {fd:FuncData} (F:EH K "_law_done" "_law_done" Lo f fd) (T:Txt mg) (Vi:Df P w K mg base "_law_copy" ["_law_doc_here"] 61 (Jz 61)) (QK:Df P w K mg base "_law_found" ["_law_doc_here","_law_path"] 1 C_) (Iu:Df P w K mg base "_law_put" ["_law_doc_here","_law_path","_law_value_here"] 2 Mr) (bS:Df P w K mg base "_law_asked" ["_law_doc_here","_law_row_here"] 6 KS):Bb P w K mg base Dk 62 f fd ["_law_doc_here","_law_row_here"] JP:=by
 obtain⟨fk,fm,I,J,L,M⟩:=Vi.ex
 obtain⟨Ka,Kb,M_,M',IS,IT⟩:=QK.ex
 obtain⟨wX,wY,bT,bU,bV,bW⟩:=Iu.ex
 obtain⟨kd,ke,bX,bY,bZ,bb⟩:=bS.ex
 refine F.ok Vl (fun vs H Q E h=>?_) (fun Jg A outer s H vs Q E hr h=>?_)
 ·obtain⟨d,r,w0,xs,zs,p,rfl,Oi,BV,hsz,R,q,qn⟩:=h
  rfl
 ·obtain⟨d,r,w0,xs,zs,p,rfl,Oi,BV,hsz,R,q,qn⟩:=h
  have nd:=Vl.nd
  have hu:=Be hr
  have C:Am 61 _:=hr.mono (by first|decide|omega)
  have JS:Am 1 _:=hr.mono (by first|decide|omega)
  have Vm:Am 2 _:=hr.mono (by first|decide|omega)
  have YH:Am 6 _:=hr.mono (by first|decide|omega)
  refine⟨_,(AD (AX (i:=2) nd rfl (Or.inl rfl) (AJ M C rfl L I J .nil AV (AA (pv 0) AB)))
   (AD (Ag (AM Bj (AY (r:=Ax K) AW (pv 1) AF (fun _ _=>rfl)) Ab (AS _)) (AI (AO (AJ bW Vm rfl bV bT bU .nil AV (AA (pv 2) (AA (AY (r:=Ax K) AW (pv 1) AF (fun _ _=>rfl)) (AA (AJ M C rfl L I J .nil AV (AA (AY (r:=Ax K) AW (pv 1) AF (fun _ _=>rfl)) AB)) AB)))))) AQ)
   (AD (Ag (AM (DE:Ep _ _ (WK K false)) (AY (r:=Ax K) AW (pv 1) AF (fun _ _=>rfl)) (BW (AA Ab (AA Ab (AA Ab (AA Ab AB))))) rfl) (AI (AO (NL (Az (AJ bb YH rfl bZ bX bY .nil AV (AA (pv 2) (AA (pv 1) AB)))) (pv 2) Bg))) AQ)
   (AD (AX (i:=3) nd rfl (Or.inl rfl) (AJ IT JS rfl IS M_ M' .nil AV (AA (pv 2) (AA (AY (r:=Ax K) AW (pv 1) AF (fun _ _=>rfl)) AB))))
   (AD (Ag (AM JX (pv 3) Bg (AS _)) (AI (AO Bg)) AQ)
   (AD (Ag (AM Bj (AY (r:=Ax K) AW (pv 1) AF (fun _ _=>rfl)) Ab (AS _)) (AI (AO (AJ bW Vm rfl bV bT bU .nil AV (AA (pv 2) (AA (AY (r:=Ax K) AW (pv 1) AF (fun _ _=>rfl)) (AA (AJ M C rfl L I J .nil AV (AA (pv 3) AB)) AB)))))) AQ)
   (AD (Ag (PW.pt (pw_and (AM Bj (AY (r:=Ax K) AW (pv 1) AF (fun _ _=>rfl)) Ab (AS _)) (pw_and1 (AM (Hu (Am.Cg hr)) (AY (r:=Ax K) AW (pv 1) AF (fun _ _=>rfl)) (BI AB) (AS _))))) (AI (AO (AJ M C rfl L I J .nil AV (AA (AY (r:=Ax K) AW (pv 1) AF (fun _ _=>rfl)) AB)))) AQ)
   (AD (AX (i:=4) nd rfl (Or.inl rfl) (AJ IT JS rfl IS M_ M' .nil AV (AA (pv 2) (AA (BN CP (AY (r:=Ax K) AW (pv 1) AF (fun _ _=>rfl)) Bv (Bd (Cm CA AF))) AB))))
   (AD (Ag (AM Bj (AY (r:=Ax K) AW (pv 1) AF (fun _ _=>rfl)) Ab (AS _)) (AD (aQ (Ou (AJ M C rfl L I J .nil AV (AA (AY (r:=Ax K) AW (pv 1) AF (fun _ _=>rfl)) AB)) (TL (pv 4) (AY (r:=Ax K) AW (AY (r:=Ax K) AW (pv 1) AF (fun _ _=>rfl)) (Cm CA AF) (fun _ _=>rfl)) set_list)) (Fo hu (pv 4) (AY (r:=Ax K) AW (AY (r:=Ax K) AW (pv 1) AF (fun _ _=>rfl)) (Cm CA AF) (fun _ _=>rfl)) (AJ M C rfl L I J .nil AV (AA (AY (r:=Ax K) AW (pv 1) AF (fun _ _=>rfl)) AB)) rfl))
   (AI (AO (pv 2)))) AQ)
   (AD (Cq (UM (FD PySem.F.plainAttrs_list PySem.F.slot_list_pop PySem.F.type_list_pop Tb (pv 4) (AA (AY (r:=Ax K) AW (AY (r:=Ax K) AW (pv 1) AF (fun _ _=>rfl)) (Cm CA AF) (fun _ _=>rfl)) AB)) (Ti (pv 4) (AY (r:=Ax K) AW (AY (r:=Ax K) AW (pv 1) AF (fun _ _=>rfl)) (Cm CA AF) (fun _ _=>rfl)) ⟨rfl,rfl,rfl,rfl⟩)))
   (AD (Ag (AM Bj (AY (r:=Ax K) AW (pv 1) AF (fun _ _=>rfl)) Ab (AS _)) (AI (AO (pv 2))) AQ)
   (AI (AO (AJ bW Vm rfl bV bT bU .nil AV (AA (pv 2) (AA (AY (r:=Ax K) AW (pv 1) AF (fun _ _=>rfl)) (AA (pv 3) AB))))))))))))))))),?_⟩
  obtain⟨a,rest,rfl,ha,T3⟩:=R.th
  have Rr:=R.rw
  refine⟨_,rfl,d,rfl,Oi,Nat.le_trans (Dc.Bo d) (by omega),by omega,fun D H1 F0 lk=>?_⟩
  have lf:=JQ Oi F0.at_ lk
  have wt:=Dc.EI D F0.at_
  have O:=Dc.Fq d D lk BV
  have zq:=Dc.Du d D lk
  have fin:∀(d':Dc) (H':Hp),BQ H H' d'->d'.ok->d'.size<=60->(w0="take"->d'.size<=d.size)->(Uq D->Fh D w0 xs zs d')->Q d'.val H':=fun d' H' F o z1 z2 sp=>q d' H' F.same F.at_ o z1 z2 fun u=>(sp (u.of lf)).of lf (fun _ _=>Iff.rfl)
  have TC:=F0.same _ _ ha
  have R1:=R.up F0.same
  have wZ:=R1.rw
  have T1:=T3.up F0.same
  have wa:∀ys:List V,ys≠[]->∃X lv,ys=X++[lv]:=fun ys h=>⟨ys.dropLast,ys.getLast h,(List.dropLast_concat_getLast h).symm⟩
  by_cases bc:w0="put"
  ·subst bc
   obtain⟨v,rfl,Y,bR,kc,fo⟩:=T1.pc (.inl rfl)
   refine⟨_,rfl,a,_,0,_,rfl,rfl,Ap.of TC,HY,rfl,_,rfl,Ay (by decide) ?_⟩
   refine⟨_,rfl,_,rfl,a,_,1,_,rfl,rfl,Ap.of TC,GD,_,rfl,a,_,2,_,rfl,rfl,Ap.of TC,at2,v,rfl,Y,Nat.le_trans (Dc.Bo v) (by omega),by omega,fun B H2 G m=>?_⟩
   have FL:Av H H2 [D,B]:=F0.fF.snoc G
   refine⟨H,D,B,p,xs,rfl,FL,by omega,G.same _ _ wZ.hp,Rr.sx,Rr.nx (.inl rfl),fun X lv e ex N bD H3 F3=>?_,fun H3 s3=>qn (fun z=>absurd z.1 (by decide)) _ (FL.same.trans s3)⟩
   have vv:(D.Aw X (e.CT lv B)).val=D.val:=Dc.D_ N (Dc.HK ..)
   have ft:=Dc.Fq v B m bR
   have kf:=Dc.Du v B m
   rw[<-vv]
   have z1:=Dc.Ei (n:=e.CT lv B) wt N
   have z2:=Dc.H_ (v:=B) bD
   refine fin _ _ F3 (Dc.HN wt N O (Dc.Ms ((Dc.BD.sub N).ok O) ft (Rr.sx lv (by rw[ex];simp)))) (by omega) (fun z=>absurd z (by decide)) fun u=>?_
   rw[ex]
   exact VN wt u (fo.of (JQ Y G.at_ m)) N bD
  refine⟨_,rfl,a,_,0,_,rfl,rfl,Ap.of TC,HY,rfl,_,rfl,Af (decide_eq_false fun z=>bc (V.str.inj z)) ?_⟩
  refine⟨_,rfl,a,_,0,_,rfl,rfl,Ap.of TC,HY,BA (show 4<=1000 by decide),fun g hg=>⟨g,_,rfl,.inl (A_.of AE),rfl,rfl,_,rfl,?_⟩⟩
  have F1:=F0.up (AG.new (o:=.lst [.str "ask",.str "has",.str "lacks",.str "is"]) hg)
  generalize upd H1 g (.lst [.str "ask",.str "has",.str "lacks",.str "is"])=H2 at F1⊢
  have Z:=F1.same _ _ ha
  have R2:=R.up F1.same
  have kg:=R2.rw
  have T2:=T3.up F1.same
  refine Ia (fun b=>?_) (fun b=>?_)
  ·have hw:w0∈(["ask","has","lacks","is"]:List Str):=by
    rw[show FA (.str w0) [.str "ask",.str "has",.str "lacks",.str "is"]=decide (w0∈(["ask","has","lacks","is"]:List Str))from FZ w0 ["ask","has","lacks","is"]]at b
    exact of_decide_eq_true b
   refine⟨_,rfl,_,rfl,D,_,w0,xs,zs,p,rfl,F1.at_,O,by omega,R2,fun b' H3 s3=>⟨_,rfl,?_⟩⟩
   refine Ul (fun _=>⟨_,rfl,?_⟩) (fun _=>?_)
   ·exact fin D H3 (F1.up s3) O (by omega) (fun _=>by omega) fun u=>SY u hw
   ·exact qn (fun z=>by rw[z.1]at hw;exact absurd hw (by decide)) _ (F1.same.trans s3)
  have tZ:w0="take"∨w0="move"∨w0="copy"∨w0="change":=by
   have fu:=Rr.wd
   simp only[FY,List.mem_cons,List.not_mem_nil,or_false]at fu
   rcases fu with rfl|h|h|h|h|rfl|rfl|rfl|rfl
   ·exact absurd rfl bc
   ·exact .inl h
   ·exact .inr (.inl h)
   ·exact .inr (.inr (.inl h))
   ·exact .inr (.inr (.inr h))
   all_goals exact absurd b (by decide)
  refine⟨_,rfl,_,rfl,a,_,1,_,rfl,rfl,Ap.of Z,GD,D,p,xs,rfl,F1.at_,kg.hp,Rr.sx,?_⟩
  cases bf:D.sub xs with
  |none=>
   refine⟨_,rfl,rfl,_,rfl,BO (qn (fun z=>?_) _ F1.same)⟩
   obtain⟨e,he⟩:=Option.isSome_iff_exists.mp z.2
   obtain⟨e',h1,_⟩:=Dc.Eqv.sub (Dc.EI d Oi) wt (Dc.KA d D lk) he
   rw[bf]at h1
   cases h1
  |some x=>
  have Px:=Dc.BD.sub bf
  have tj:=Px.size
  refine⟨_,rfl,rfl,_,rfl,Af (Dc.JK (Px.at_ F1.at_)) ?_⟩
  by_cases iX:w0="copy"
  ·subst iX
   obtain⟨p2,rfl,Ls⟩:=T2.cm (.inl rfl)
   refine⟨_,rfl,a,_,0,_,rfl,rfl,Ap.of Z,HY,rfl,_,rfl,Ay (by decide) ?_⟩
   refine⟨_,rfl,_,rfl,a,_,2,_,rfl,rfl,Ap.of Z,at2,_,rfl,x,rfl,Px.at_ F1.at_,Nat.le_trans (Dc.Bo x) (by omega),by omega,fun x' H3 G m=>?_⟩
   have FL:Av H H3 [D,x']:=F1.fF.snoc G
   refine⟨H,D,x',p2,zs,rfl,FL,by omega,G.same _ _ Ls,Rr.sz,Rr.nz (.inl rfl),fun X lv e ex N bD H4 F4=>?_,fun H4 s4=>qn (fun z=>absurd z.1 (by decide)) _ (FL.same.trans s4)⟩
   have vv:(D.Aw X (e.CT lv x')).val=D.val:=Dc.D_ N (Dc.HK ..)
   have ft:=Dc.Fq x x' m (Px.ok O)
   have kf:=Dc.Du x x' m
   rw[<-vv]
   have z1:=Dc.Ei (n:=e.CT lv x') wt N
   have z2:=Dc.H_ (v:=x') bD
   refine fin _ _ F4 (Dc.HN wt N O (Dc.Ms ((Dc.BD.sub N).ok O) ft (Rr.sz lv (by rw[ex];simp)))) (by omega) (fun z=>absurd z (by decide)) fun u=>?_
   rw[ex]
   exact Sd wt u N bD
  refine⟨_,rfl,a,_,0,_,rfl,rfl,Ap.of Z,HY,rfl,_,rfl,Af (decide_eq_false fun z=>iX (V.str.inj z)) ?_⟩
  have fx:∀z∈xs,BR z=true:=fun z hz=>(Rr.sx z hz).flat
  dsimp only[TH]
  refine D' (t:=L' _ _ _) (fun σ H'=>σ=[some d.val,some (.ref a),some D.val,some x.val,none]/\AG H2 H'/\xs≠[]) (fun σ' H3 z=>?_) (fun k=>?_)
  rotate_left
  ·by_cases bh:w0="change"
   ·subst bh
    refine⟨_,rfl,a,_,0,_,rfl,rfl,Ap.of Z,HY,rfl,_,rfl,Ay (by decide) ?_⟩
    refine⟨_,rfl,a,_,1,_,rfl,rfl,Ap.of Z,GD,Nat.zero_le _,fun e0 he=>?_⟩
    have se:=AG.new (o:=.tup []) he
    have fe:upd H2 e0 (.tup []) e0=some (.tup []):=AE
    generalize upd H2 e0 (.tup [])=H3 at se fe⊢
    refine⟨p,e0,xs,[],rfl,rfl,Ap.of (se _ _ kg.hp),Ap.of fe,fx,fun z hz=>(nomatch hz),_,rfl,?_⟩
    by_cases fw:xs=[]
    ·obtain⟨v,rfl,Y,bR,kc,fo⟩:=(T2.up se).pc (.inr rfl)
     refine Ay (by rw[OF];simp[fw]) ⟨_,rfl,a,_,2,_,rfl,rfl,Ap.of (se _ _ Z),at2,v,rfl,Y,Nat.le_trans (Dc.Bo v) (by omega),by omega,fun B H4 G m=>?_⟩
     have kf:=Dc.Du v B m
     refine fin B H4 (G.down (F1.same.trans se)) (Dc.Fq v B m bR) (by omega) (fun z=>absurd z (by decide)) fun u=>?_
     have:=Ie (zs:=zs) (v:=B) wt u (fo.of (JQ Y G.at_ m)) bf
     rw[fw,Dc.HL]at this
     rw[fw]
     exact this
    ·exact Af (by rw[OF];simp[fw]) (k _ _ ⟨rfl,se,fw⟩)
   ·refine⟨_,rfl,a,_,0,_,rfl,rfl,Ap.of Z,HY,rfl,_,rfl,Af (decide_eq_false fun z=>bh (V.str.inj z)) (Au (k _ _ ⟨rfl,AG.refl _,Rr.nx ?_⟩))⟩
    rcases tZ with h|h|h|h
    ·exact .inr (.inr (.inl h))
    ·exact .inr (.inr (.inr h))
    ·exact absurd h iX
    ·exact absurd h bh
  obtain⟨rfl,s3,nx⟩:=z
  obtain⟨X,lv,rfl⟩:=wa xs nx
  have F3:=F1.up s3
  have tm:=s3 _ _ Z
  have wb:=T2.up s3
  have Sr:=s3 _ _ kg.hp
  have kb:steps X:=fun z hz=>Rr.sx z (List.mem_append_left _ hz)
  obtain⟨e,N,S⟩:=Dc.KC bf
  have P:=Dc.BD.sub N
  have we:=Dc.EI e (P.at_ F0.at_)
  have ZW:e.addrs.Nodup:=by
   obtain⟨l,r,e1,_⟩:=Dc.CN (n:=e) wt F0.nd N
   have:=F0.nd
   rw[e1]at this
   exact(List.nodup_append.mp (List.nodup_append.mp this).1).2.1
  refine⟨_,rfl,_,rfl,a,_,1,_,rfl,rfl,Ap.of tm,GD,_,rfl,_,rfl,p,_,rfl,Sr,fun p2 H4 s4 Ls=>?_⟩
  rw[CQ]at Ls
  have F4:=F3.up s4
  have ZX:=s4 _ _ tm
  have T4:=wb.up s4
  have WN:=s4 _ _ Sr
  refine⟨D,p2,X,rfl,F4.at_,Ls,kb,?_⟩
  rw[N]
  dsimp only[EU,KR]
  have j:=P.at_ F4.at_
  by_cases bh:w0="change"
  ·subst bh
   obtain⟨v,rfl,Y,bR,kc,fo⟩:=T4.pc (.inr rfl)
   refine⟨_,rfl,a,_,0,_,rfl,rfl,Ap.of ZX,HY,rfl,_,rfl,Ay (by decide) ?_⟩
   have done:∀(B:Dc) (H5 H6:Hp),BQ H4 H5 B->Dc.CS v B->BQ H H6 (D.Aw X (e.Aw [lv] B))->Q D.val H6:=fun B H5 H6 G m F6=>by
    have ee:=Dc.SA (lv:=lv) (n:=B) wt N
    have vv:(D.Aw X (e.Aw [lv] B)).val=D.val:=Dc.D_ N (Dc.Mu S)
    have ft:=Dc.Fq v B m bR
    have kf:=Dc.Du v B m
    have z1:=Dc.Ei (n:=B) wt bf
    rw[ee]at z1
    rw[<-vv]
    refine fin _ _ F6 (by rw[<-ee];exact Dc.HN wt bf O ft) (by omega) (fun z=>absurd z (by decide)) fun u=>?_
    rw[<-ee]
    exact Ie wt u (fo.of (JQ Y G.at_ m)) bf
   rcases Dc.sub_one S with⟨b,U,i,rfl,rfl,Vn⟩|⟨b,ks,U,k,rfl,rfl,YI⟩
   ·refine .inl ⟨_,rfl,a,_,2,_,rfl,rfl,Ap.of ZX,at2,v,rfl,Y,Nat.le_trans (Dc.Bo v) (by omega),by omega,fun B H5 G m=>?_⟩
    simp only[Dc.At]at j
    have eb:=j.1.exact (F4.own b (P.addrs b (by simp[Dc.addrs])))
    have nb:b∉Dc.AH U:=by
     simp only[Dc.addrs]at ZW
     exact(List.nodup_cons.mp ZW).1
    have hi:=(AAB Vn).1
    have en:(Dc.row b U).Aw [.int (i:Int)] B=.row b (U.set i B):=by rw[Dc.Ca Vn,Dc.HL]
    have kh:Oo (U.map Dc.val).length (i:Int)=some i:=by unfold Oo;rw[if_pos (by omega),if_pos (by rw[List.length_map];omega),Int.toNat_natCast]
    have FF:=F4.change (H4:=upd H5 b (.lst ((U.map Dc.val).set i B.val))) N S G rfl (by simp[Dc.addrs]) (by rw[en];rfl) (by
     rw[en]
     simp only[Dc.At]
     refine⟨.inl (by rw[AE,List.map_set]),Dc.Ma (Dc.Bk B (fun c hc o h=>by rw[AN (fun z=>Dc.there F4.at_ (P.addrs b (by simp[Dc.addrs])) (by rw[<-z];exact G.new c hc))];exact h) G.at_) (Dc.BJ U (fun c hc o h=>by rw[AN (fun z=>nb (by rw[<-z];exact hc))];exact G.same _ _ h) j.2)⟩) (fun a o ha h=>by rw[AN ha];exact h) (fun o u z=>by rw[AE]at z;cases z)
    exact⟨_,rfl,_,rfl,a,_,1,_,rfl,rfl,Ap.of (G.same _ _ ZX),GD,_,rfl,p,_,_,_,rfl,rfl,Ap.of (G.same _ _ WN),Br X _,b,_,_,i,rfl,rfl,G.same _ _ eb,kh,_,rfl,done B H5 _ G m FF⟩
   ·refine .inr ⟨_,rfl,a,_,2,_,rfl,rfl,Ap.of ZX,at2,v,rfl,Y,Nat.le_trans (Dc.Bo v) (by omega),by omega,fun B H5 G m=>?_⟩
    simp only[Dc.At]at j
    have eb:=j.1.exact (F4.own b (P.addrs b (by simp[Dc.addrs])))
    have nb:b∉Dc.AH U:=by
     simp only[Dc.addrs]at ZW
     exact(List.nodup_cons.mp ZW).1
    have hi:=Dc.CB j.2.1 j.2.2.1 YI
    have hk:=(Dc.Aj YI).1
    have en:(Dc.tab b ks U).Aw [.str k] B=.tab b ks (U.set (Dc.ix ks k) B):=by rw[Dc.Cw hi,Dc.HL]
    have lx:=Dc.Es U
    have ki:=P.size
    simp only[Dc.size]at ki
    have ep:putK (Dc.kvs ks U) (Sum.inr k) B.val=Dc.kvs ks (U.set (Dc.ix ks k) B):=by
     rw[Dz,Dz,J' (by rw[List.length_map];exact j.2.1) j.2.2.1 (Dc.Dg hk),List.map_set]
    have FF:=F4.change (H4:=upd H5 b (.dK (Dc.kvs ks (U.set (Dc.ix ks k) B)))) N S G rfl (by simp[Dc.addrs]) (by rw[en];rfl) (by
     rw[en]
     simp only[Dc.At]
     refine⟨.inl AE,by rw[List.length_set];exact j.2.1,j.2.2.1,Dc.Ma (Dc.Bk B (fun c hc o h=>by rw[AN (fun z=>Dc.there F4.at_ (P.addrs b (by simp[Dc.addrs])) (by rw[<-z];exact G.new c hc))];exact h) G.at_) (Dc.BJ U (fun c hc o h=>by rw[AN (fun z=>nb (by rw[<-z];exact hc))];exact G.same _ _ h) j.2.2.2)⟩) (fun a o ha h=>by rw[AN ha];exact h) (fun o u z=>by rw[AE]at z;cases z)
    refine⟨_,rfl,_,rfl,a,_,1,_,rfl,rfl,Ap.of (G.same _ _ ZX),GD,_,rfl,p,_,_,_,rfl,rfl,Ap.of (G.same _ _ WN),Br X _,b,_,rfl,L2.Iu.k (k:=Sum.inr k) (G.same _ _ eb) (Ar (by rw[Dc.DR j.2.1];omega)),?_⟩
    rw[ep]
    exact⟨_,rfl,done B H5 _ G m FF⟩
  refine⟨_,rfl,a,_,0,_,rfl,rfl,Ap.of ZX,HY,rfl,_,rfl,Af (decide_eq_false fun z=>bh (V.str.inj z)) ?_⟩
  have vv:(D.Aw X (e.B_ lv)).val=D.val:=Dc.D_ N (Dc.OB ..)
  have w1:(D.Aw X (e.B_ lv)).Wf:=Dc.XR wt N (Dc.Qf we S)
  have f_:(D.Aw X (e.B_ lv)).ok:=Dc.HN wt N O (Dc.Xe (P.ok O))
  have z1:=Dc.Ei (n:=e.B_ lv) wt N
  have z2:=Dc.Rh we S
  have tail:∀H5,Av H H5 [D.Aw X (e.B_ lv),x]->WV (L' (Yj (WJ jN (WJ (Ax K) (JW 1) (tC (V.int 0))) (tC (V.str "take")))) (Zk (JW 2)) TH) (Zk (Yk Mr [] E0 (Jb (JW 2) (Jb (WJ (Ax K) (JW 1) (tC (V.int 2))) (Jb (JW 3) Wc))))) {nx:=fun x H'=>Q V.BL H',rt:=Q} [some d.val,some (.ref a),some D.val,some x.val,some e.val] H5:=fun H5 FL=>by
   have km:=FL.same _ _ ha
   have T5:=T3.up FL.same
   rcases tZ with rfl|rfl|h|h
   ·refine⟨_,rfl,a,_,0,_,rfl,rfl,Ap.of km,HY,rfl,_,rfl,Ay (by decide) ⟨_,rfl,?_⟩⟩
    rw[<-vv]
    exact fin _ _ FL.one f_ (by omega) (fun _=>by omega) fun u=>Sa wt u N S
   ·obtain⟨pz,rfl,kn⟩:=T5.cm (.inr rfl)
    refine⟨_,rfl,a,_,0,_,rfl,rfl,Ap.of km,HY,rfl,_,rfl,Af (by decide) ?_⟩
    refine⟨_,rfl,_,rfl,a,_,2,_,rfl,rfl,Ap.of km,at2,_,rfl,H,D.Aw X (e.B_ lv),x,pz,zs,by rw[vv];rfl,FL,by omega,kn,Rr.sz,Rr.nz (.inr rfl),fun f' ko e2 ex S' iT H6 F6=>?_,fun H6 s6=>qn (fun z=>absurd z.1 (by decide)) _ (FL.same.trans s6)⟩
    have wc:((D.Aw X (e.B_ lv)).Aw f' (e2.CT ko x)).val=(D.Aw X (e.B_ lv)).val:=Dc.D_ S' (Dc.HK ..)
    rw[<-wc]
    have y1:=Dc.Ei (n:=e2.CT ko x) w1 S'
    have y2:=Dc.H_ (v:=x) iT
    refine fin _ _ F6 (Dc.HN w1 S' f_ (Dc.Ms ((Dc.BD.sub S').ok f_) (Px.ok O) (Rr.sz ko (by rw[ex];simp)))) (by omega) (fun z=>absurd z (by decide)) fun u=>?_
    have tq:=Rr.sz
    rw[ex]at tq⊢
    exact Se wt u N S S' iT w1 Rr.sx tq fun q y h=>IE O h
   ·exact absurd h iX
   ·exact absurd h bh
  rcases Dc.sub_one S with⟨b,U,i,rfl,rfl,Vn⟩|⟨b,ks,U,k,rfl,rfl,YI⟩
  ·simp only[Dc.At]at j
   have eb:=j.1.exact (F4.own b (P.addrs b (by simp[Dc.addrs])))
   have hi:=(AAB Vn).1
   have lx:=Dc.Es U
   have ki:=P.size
   simp only[Dc.size]at ki
   have sq:PySem.seqIndex? (i:Int) (U.map Dc.val).length=some i:=(JE (by unfold Oo;rw[if_pos (by omega),if_pos (by rw[List.length_map];omega),Int.toNat_natCast])).1
   have nb:b∉Dc.AH U:=by
    simp only[Dc.addrs]at ZW
    exact(List.nodup_cons.mp ZW).1
   refine .inl ⟨_,rfl,.inl ⟨rfl,_,A_.of eb⟩,_,rfl,a,_,1,_,rfl,rfl,Ap.of ZX,GD,_,rfl,p,_,_,_,rfl,rfl,Ap.of WN,Br X _,b,_,_,i,_,rfl,rfl,eb,by omega,by omega,sq,by rw[List.getElem?_map,Vn];rfl,?_⟩
   refine tail _ (Av.taken F4 N S rfl (by simp[Dc.addrs]) (by simp[Dc.B_,Dc.addrs]) ?_ (fun c o hc h=>by rw[AN hc];exact h) (fun o u z=>by rw[AE]at z;cases z))
   simp only[Dc.B_,Dc.At,Int.toNat_natCast]
   refine⟨.inl (AE.trans ?_),Dc.LR (Dc.BJ U (fun c hc o h=>by rw[AN (fun z=>nb (by rw[<-z];exact hc))];exact h) j.2)⟩
   rw[List.eraseIdx_eq_take_drop_succ,List.eraseIdx_eq_take_drop_succ,List.map_append,List.map_take,List.map_drop]
  ·simp only[Dc.At]at j
   have eb:=j.1.exact (F4.own b (P.addrs b (by simp[Dc.addrs])))
   have hk:=(Dc.Aj YI).1
   have hv:BX (Dc.kvs ks U) (Sum.inr k)=some x.val:=by rw[Dc.Cv j.2.1,YI];rfl
   have nb:b∉Dc.AH U:=by
    simp only[Dc.addrs]at ZW
    exact(List.nodup_cons.mp ZW).1
   have tw:=Dc.Qf we S
   refine .inr ⟨_,rfl,b,rfl,.inl ⟨_,.inl eb⟩,_,rfl,a,_,1,_,rfl,rfl,Ap.of ZX,GD,_,rfl,p,_,_,_,rfl,rfl,Ap.of WN,Br X _,_,Sum.inr k,_,eb,rfl,hv,?_⟩
   refine tail _ (Av.taken F4 N S rfl (by simp[Dc.addrs]) (by simp[Dc.B_,Dc.addrs]) ?_ (fun c o hc h=>by rw[AN hc];exact h) (fun o u z=>by rw[AE]at z;cases z))
   simp only[Dc.B_,Dc.At]at tw⊢
   cases tw with
   |tab wl wn wx=>exact⟨.inl (AE.trans (by rw[Dc.Ri j.2.1 j.2.2.1 hk])),wl,wn,Dc.LR (Dc.BJ U (fun c hc o h=>by rw[AN (fun z=>nb (by rw[<-z];exact hc))];exact h) j.2.2.2)⟩
end
end CJ
namespace CJ
open PySem L2
section
variable{P:Program} {w:World} {K:AAE} [BH K] {mg:Str->Option Value} {base:Heap}
theorem Qv:An ["_law_doc_here","_law_ahead","_law_found_here","_law_k","_law_name"] ["_law_doc_here","_law_ahead"] (AK Gb):=⟨rfl,rfl,rfl,by decide+kernel,rfl,by decide+kernel,by decide+kernel⟩
theorem Vo {n:Nat} {f:Addr} {fd:FuncData} (F:EH K "_law_paths" "_law_paths" Gb f fd) (T:Txt mg) (Kc:Df P w K mg base "_law_paths" ["_law_doc_here","_law_ahead"] n (DZ n)):Bb P w K mg base Dk (n+1) f fd ["_law_doc_here","_law_ahead"] (DZ (n+1)):=by
 obtain⟨NA,NB,L,M,N,O⟩:=Kc.ex
 refine F.ok Qv (fun vs H Q E h=>?_) (fun Jg A outer s H vs Q E hr h=>?_)
 ·obtain⟨d,t,xs,rfl,c,U,X,hsz,ht,hx,q⟩:=h
  rfl
 ·obtain⟨d,t,xs,rfl,c,U,X,hsz,ht,hx,q⟩:=h
  have nd:=Qv.nd
  have hu:=Be hr
  have B:Am n _:=hr.mono (by first|decide|omega)
  refine⟨_,(AD (AX (i:=2) nd rfl (Or.inl rfl) (BW (AA (pv 1) AB)))
   (AD (Ag (Az (AL Ah rfl T.isinstance AR (AA (pv 0) (AA (Ao (v:=.ty "list") rfl T.list Ct rfl) AB)))) (AI (DD PassesOwn.never rfl (DB rfl T.range (AA (AL AZ rfl T.len PySem.boot_len (AA (pv 0) AB)) AB)) (Bm (i:=3) nd rfl (Or.inl rfl)) (AI (Cq (FD PySem.F.plainAttrs_list PySem.F.slot_list_extend PySem.F.type_list_extend Fm (pv 2) (AA (AJ O B rfl N L M .nil AV (AA (AY (r:=Hn K) Cc (pv 0) (pv 3) (fun _ _=>rfl)) (AA (Aa Dn (pv 1) (BI (AA (pv 3) AB))) AB))) AB)))))) AQ)
   (AD (Ag (Az (AL Ah rfl T.isinstance AR (AA (pv 0) (AA (Ao (v:=.ty "dict") rfl T.dict Cu rfl) AB)))) (AI (DD PassesOwn.never rfl (DQ (AL (Et rfl) rfl T.sorted Js (AA (pv 0) AB))) (Bm (i:=4) nd rfl (Or.inl rfl)) (AI (Cq (FD PySem.F.plainAttrs_list PySem.F.slot_list_extend PySem.F.type_list_extend Fm (pv 2) (AA (AJ O B rfl N L M .nil AV (AA (JG hu (pv 0) (pv 4) (fun _ _=>rfl)) (AA (Aa Dn (pv 1) (BI (AA (pv 4) AB))) AB))) AB)))))) AQ)
   (AI (AO (pv 2)))))),?_⟩
  refine⟨_,rfl,CM,fun p hp=>?_⟩
  have Y:AG H (upd H p (.lst [.ref t])):=AG.new hp
  have Sq:upd H p (.lst [.ref t]) p=some (.lst ([t].map V.ref)):=AE
  have g:=Dc.Ad Y c
  have fN:=Y _ _ ht
  have t_:∀{Hx:Hp} {S zs:List V} {z:Addr},Hx p=some (.lst S)->Hx z=some (.tup zs)->z≠p:=fun h1 h2=>Di h2 h1 (by intro z;cases z)
  have v0:∀z:Addr,z=t->BY (upd H p (.lst [.ref t])) [z] (([[]]:List (List V)).map (xs++·)):=fun z hz=>by rw[hz];exact .cons (show _=some (HO.tup (xs++[]))by rw[List.append_nil];exact fN) .nil
  cases d with
  |leaf v=>
   refine⟨_,rfl,_,"list",Dc.Iy (.leaf v),rfl,rfl,Dc.Dy g,_,rfl,Af (by cases v<;>rfl) ?_⟩
   refine⟨_,rfl,_,"dict",Dc.Iy (.leaf v),rfl,rfl,Dc.Dy g,_,rfl,Af (by cases v<;>rfl) ?_⟩
   exact⟨_,rfl,q p [t] [[]] _ Y hp Sq rfl (v0 t rfl) (TB.one.all fun z x h=>absurd rfl (Dc.Ej h))⟩
  |row a l=>
   refine⟨_,rfl,_,"list",Dc.Iy (.row a l),rfl,rfl,Dc.Dy g,_,rfl,Ay rfl ?_⟩
   have c:=c
   simp only[Dc.At]at c g
   simp only[Dc.ok]at U
   simp only[Dc.slim]at X
   simp only[Dc.deep]at hsz
   simp only[Dc.size]at hx
   have wg:=Dc.Es l
   have ll:(l.map Dc.val).length=l.length:=List.length_map ..
   refine⟨_,rfl,a,_,rfl,.inl (.inl g.1),_,rfl,by omega,by omega,Dr (lo:=0) (fun i σ D=>∃(y:List Addr) (o3 o4:Option V),σ=[some (.ref a),some (.ref t),some (.ref p),o3,o4]/\AG H D/\D p=some (.lst (y.map V.ref))/\y.length=1+Dc.Ae (l.take i)/\∃R:List (List V),BY D y (R.map (xs++·))/\TB ((List.range i).map fun(j:Nat)=>V.int (j:Int)) (fun z=>(Dc.row a l).sub [z]) R)
    ⟨[t],none,none,rfl,Y,Sq,rfl,[[]],v0 t rfl,TB.one⟩ ?_ ?_⟩
   ·rintro i σ D hi ⟨y,o3,o4,rfl,Z,u,G,R,I,pq⟩
    have kq:i<l.length:=by rw[<-ll];omega
    obtain⟨x,Vn⟩:∃x,l[i]?=some x:=⟨_,AAA kq⟩
    have hm:=AAD Vn
    have tj:=Dc.Bn hm
    have e0:(0:Int)+(i:Int)=(i:Int):=Int.zero_add _
    have hv:NX (l.map Dc.val) (0+(i:Int))=some x.val:=by
     rw[e0]
     exact Cb (by rw[List.getElem?_map,Vn];rfl)
    have lz:y.length+x.size<=1000:=by
     have:=Dc.FG Vn
     have:=Dc.Dw l (i+1)
     omega
    refine⟨_,rfl,.inl ⟨rfl,_,A_.of u⟩,_,rfl,_,rfl,a,_,_,_,rfl,rfl,(.inl (c.1.up (Z _))),hv,_,rfl,_,rfl,CM,fun t1 C=>?_⟩
    have s1:=Z.trans (AG.new (o:=.tup [.int (0+(i:Int))]) C)
    refine⟨t,t1,xs,[.int (0+(i:Int))],rfl,rfl,s1 _ _ ht,AE,BA (by simp;omega),fun t2 H3 s3 cj=>?_⟩
    have J:=s1.trans s3
    refine⟨x,t2,_,rfl,Dc.Ad J (Dc.CD c.2 x hm),Dc.BC.mp U x hm,Dc.Eg X x hm,(by have:=Dc.Bf hm;omega),cj,by simp;omega,fun p2 Vp gA H4 s4 wh Ls l2 v2 kr=>?_⟩
    have ku:=J.trans s4
    have s5:=((AG.new (o:=.tup [.int (0+(i:Int))]) C).trans s3).trans s4
    refine⟨p,p2,_,_,rfl,rfl,s5 _ _ u,Ls,BA (by simp;omega),y++Vp,_,_,rfl,ku.put hp,by rw[AE,List.map_append],?_,R++gA.map (.int (i:Int)::·),?_,?_⟩
    ·rw[List.length_append,G,l2,Dc.FG Vn]
     omega
    ·have up:∀b S,H4 b=some (.tup S)->upd H4 p (.lst (y.map V.ref++Vp.map V.ref)) b=some (.tup S):=fun b S h=>by rw[AN (t_ (s5 _ _ u) h)];exact h
     rw[List.map_append]
     refine((I.up fun b S h=>s5 _ _ h).append ?_).up up
     rw[List.map_map]
     have e:((xs++·)∘(V.int (i:Int)::·))=((xs++[.int (0+(i:Int))])++·):=by funext r;simp
     rw[e]
     exact v2
    ·rw[List.range_succ,List.map_append]
     refine pq.push (fun h=>?_) (by rw[Dc.Ew Vn,Dc.As]) kr
     obtain⟨j,hj,e⟩:=List.mem_map.mp h
     have:=List.mem_range.mp hj
     cases e
     omega
   ·rintro σ D ⟨y,o3,o4,rfl,Z,u,G,R,I,pq⟩
    refine⟨_,rfl,_,"dict",Dc.Iy (.row a l),rfl,rfl,Dc.Dy (H:=D) (d:=.row a l) (Dc.Ad Z (by simp only[Dc.At];exact c)),_,rfl,Af rfl ?_⟩
    refine⟨_,rfl,q p y R D Z hp u ?_ I (pq.all fun z x h=>?_)⟩
    ·rw[G,List.take_of_length_le (by rw[<-ll];omega)]
     simp only[Dc.size]
    ·obtain⟨j,rfl,hj⟩:=Dc.Cf.mp h
     have lj:=(AAB hj).1
     exact List.mem_map.mpr ⟨j,List.mem_range.mpr (by omega),rfl⟩
  |tab a ks l=>
   refine⟨_,rfl,_,"list",Dc.Iy (.tab a ks l),rfl,rfl,Dc.Dy g,_,rfl,Af rfl ?_⟩
   refine⟨_,rfl,_,"dict",Dc.Iy (.tab a ks l),rfl,rfl,Dc.Dy g,_,rfl,Ay rfl ?_⟩
   have c:=c
   simp only[Dc.At]at c g
   simp only[Dc.ok]at U
   simp only[Dc.slim]at X
   simp only[Dc.deep]at hsz
   simp only[Dc.size]at hx
   have wg:=Dc.Es l
   have kk:=Dc.CZ (ks:=ks) (xs:=l) c.2.1
   have kl:(Dc.kvs ks l).length=ks.length:=by
    have:=congrArg List.length kk
    simpa using this
   refine⟨_,rfl,a,_,ks,rfl,g.1,kk,by rw[kl];omega,fun p3 m H3 gB s3 Sr perm uA=>?_⟩
   have J:=Y.trans s3
   have wj:p≠p3:=Bq Sq gB
   refine⟨p3,rfl,⟨_,A_.of Sr⟩,EW (xs:=m.map V.str) (fun i σ D=>∃(y:List Addr) (o3 o4:Option V),σ=[some (.ref a),some (.ref t),some (.ref p),o3,o4]/\AG H D/\D p3=some (.lst (m.map V.str))/\D p=some (.lst (y.map V.ref))/\y.length=1+((m.take i).map (Dc.GQ ks l)).sum/\∃R:List (List V),BY D y (R.map (xs++·))/\TB ((m.take i).map V.str) (fun z=>(Dc.tab a ks l).sub [z]) R)
    ⟨[t],none,none,rfl,J,Sr,s3 _ _ Sq,rfl,[[]],(v0 t rfl).up fun b S h=>s3 _ _ h,TB.one⟩ (fun i σ D hi ⟨y,o3,o4,e,Z,h3,r⟩=>A_.of h3) ?_ ?_⟩
   ·rintro i nm σ D Pq ⟨y,o3,o4,rfl,Z,h3,u,G,R,I,pq⟩
    obtain⟨k,hk,rfl⟩:∃k,m[i]?=some k/\V.str k=nm:=by
     rw[List.getElem?_map]at Pq
     cases e:m[i]? with
     |none=>rw[e]at Pq;cases Pq
     |some k=>rw[e]at Pq;exact⟨k,rfl,AAC Pq⟩
    have mk:k∈ks:=perm.mem_iff.mp (AAD hk)
    obtain⟨x,YI,hm⟩:=Dc.ER c.2.1 mk
    have tj:=Dc.Bn hm
    have wk:Dc.GQ ks l k=x.size:=by simp[Dc.GQ,YI]
    have tk:((m.take (i+1)).map (Dc.GQ ks l)).sum=((m.take i).map (Dc.GQ ks l)).sum+x.size:=by
     rw[List.take_add_one,hk,List.map_append,List.sum_append]
     simp[wk]
    have zr:=Dc.LP c.2.1 c.2.2.1 perm
    have lz:y.length+x.size<=1000:=by
     have:((m.take (i+1)).map (Dc.GQ ks l)).sum+((m.drop (i+1)).map (Dc.GQ ks l)).sum=(m.map (Dc.GQ ks l)).sum:=by
      rw[<-List.sum_append,<-List.map_append,List.take_append_drop]
     omega
    have hv:BX (Dc.kvs ks l) (Sum.inr k)=some x.val:=by rw[Dc.Cv c.2.1,YI];rfl
    refine⟨_,rfl,.inl ⟨rfl,_,A_.of u⟩,_,rfl,_,rfl,a,x.val,rfl,(by rw[<-hv];exact .inl ⟨_,Sum.inr k,c.1.up (Z _),rfl,rfl⟩),_,rfl,_,rfl,CM,fun t1 C=>?_⟩
    have s1:=Z.trans (AG.new (o:=.tup [.str k]) C)
    refine⟨t,t1,xs,[.str k],rfl,rfl,s1 _ _ ht,AE,BA (by simp;omega),fun t2 H3 s3 cj=>?_⟩
    have J:=s1.trans s3
    refine⟨x,t2,_,rfl,Dc.Ad J (Dc.CD c.2.2.2 x hm),Dc.BC.mp U.2 x hm,Dc.Eg X.2 x hm,(by have:=Dc.Bf hm;omega),cj,by simp;omega,fun p2 Vp gA H4 s4 wh Ls l2 v2 kr=>?_⟩
    have ku:=J.trans s4
    have s5:=((AG.new (o:=.tup [.str k]) C).trans s3).trans s4
    refine⟨p,p2,_,_,rfl,rfl,s5 _ _ u,Ls,BA (by simp;omega),y++Vp,_,_,rfl,ku.put hp,by rw[AN (Ne.symm wj)];exact s5 _ _ h3,by rw[AE,List.map_append],?_,R++gA.map (.str k::·),?_,?_⟩
    ·rw[List.length_append,G,l2,tk]
     omega
    ·have up:∀b S,H4 b=some (.tup S)->upd H4 p (.lst (y.map V.ref++Vp.map V.ref)) b=some (.tup S):=fun b S h=>by rw[AN (t_ (s5 _ _ u) h)];exact h
     rw[List.map_append]
     refine((I.up fun b S h=>s5 _ _ h).append ?_).up up
     rw[List.map_map]
     have e:((xs++·)∘(V.str k::·))=((xs++[.str k])++·):=by funext r;simp
     rw[e]
     exact v2
    ·have et:m.take (i+1)=m.take i++[k]:=by rw[List.take_add_one,hk];rfl
     rw[et,List.map_append]
     refine pq.push (fun h=>?_) (by rw[Dc.Ex YI,Dc.As]) kr
     obtain⟨k',wm,e⟩:=List.mem_map.mp h
     cases e
     have nd:=perm.nodup_iff.mpr c.2.2.1
     obtain⟨l1,l2⟩:=AAB hk
     obtain⟨j,hj⟩:=List.getElem?_of_mem wm
     have wo:=(AAB hj).1
     rw[List.length_take]at wo
     rw[List.getElem?_take_of_lt (by omega)]at hj
     have:=Dc.DT nd hj hk
     omega
   ·rintro σ D ⟨y,o3,o4,rfl,Z,h3,u,G,R,I,pq⟩
    refine⟨_,rfl,q p y R D Z hp u ?_ I (pq.all fun z x h=>?_)⟩
    ·rw[G,List.length_map,List.take_length,Dc.LP c.2.1 c.2.2.1 perm]
     simp only[Dc.size]
    ·obtain⟨j,k,rfl,hj,_⟩:=(Dc.B' c.2.1 c.2.2.1).mp h
     rw[List.length_map,List.take_length]
     exact List.mem_map.mpr ⟨k,perm.mem_iff.mpr (AAD hj),rfl⟩
theorem Lu {f:Addr} {a:FuncData} (F:EH K "_law_paths" "_law_paths" Gb f a) (T:Txt mg) (b:Binds K a ["_law_doc_here","_law_ahead"] []) (m:mg "_law_paths"=some (.ref f)):∀n:Nat,Bb P w K mg base Dk n f a ["_law_doc_here","_law_ahead"] (DZ n)
 |0=>UK (fun c H Q E h=>by obtain⟨d,_,_,_,_,_,_,e,_⟩:=h;have:=Dc.HG d;omega)
 |n+1=>Vo F T (Df.mk' F b m (Lu F T b m n))
end
end CJ
namespace CJ
open PySem L2
section
variable{P:Program} {w:World} {K:AAE} [BH K] {mg:Str->Option Value} {base:Heap}
theorem Qw:An ["_law_doc_here","_law_names_here","_law_found_here","_law_path","_law_holder"] ["_law_doc_here","_law_names_here"] (AK IL):=⟨rfl,rfl,rfl,by decide+kernel,rfl,by decide+kernel,by decide+kernel⟩
theorem Vq {f:Addr} {fd:FuncData} (F:EH K "_law_slots" "_law_slots" IL f fd) (T:Txt mg) (U:Df P w K mg base "_law_found" ["_law_doc_here","_law_path"] 1 C_) (X:Df P w K mg base "_law_paths" ["_law_doc_here","_law_ahead"] 61 (DZ 61)):Bb P w K mg base Dk 64 f fd ["_law_doc_here","_law_names_here"] KU:=by
 obtain⟨Ka,Kb,Y,Z,IS,IT⟩:=U.ex
 obtain⟨NA,NB,Ke,Kf,Kg,Kh⟩:=X.ex
 refine F.ok Qw (fun vs H Q E h=>?_) (fun Jg A outer s H vs Q E hr h=>?_)
 ·obtain⟨d,n,ys,rfl,Oi,BV,hsz,hn,ln,ny,q⟩:=h
  rfl
 ·obtain⟨d,n,ys,rfl,Oi,BV,hsz,hn,ln,ny,q⟩:=h
  have nd:=Qw.nd
  have hu:=Be hr
  have L:Am 1 _:=hr.mono (by first|decide|omega)
  have M:Am 61 _:=hr.mono (by first|decide|omega)
  refine⟨_,(AD (AX (i:=2) nd rfl (Or.inl rfl) (BW AB))
   (AD (DD PassesOwn.never rfl (DQ (AJ Kh M rfl Kg Ke Kf .nil AV (AA (pv 0) (AA (BI AB) AB)))) (Bm (i:=3) nd rfl (Or.inr rfl)) (AD (AX (i:=4) nd rfl (Or.inr rfl) (AJ IT L rfl IS Y Z .nil AV (AA (pv 0) (AA (pv 3) AB))))
   (AD (Ag (Az (AL Ah rfl T.isinstance AR (AA (pv 4) (AA (Ao (v:=.ty "list") rfl T.list Ct rfl) AB)))) (AI (Cq (FD PySem.F.plainAttrs_list PySem.F.slot_list_extend PySem.F.type_list_extend Fm (pv 2) (AA (Gw (fv:=["_law_path"]) (fs:=[3]) rfl (.of (by rfl)) (DB rfl T.range (AA (Aa Bh (AL AZ rfl T.len PySem.boot_len (AA (pv 4) AB)) AF) AB)) (fun _ _ _ _=>Gv) (fun C s0 H0 fp=>(Aa Dn (pv 1) (BI (AA (pv 0) AB))))) AB)))) AQ)
   (AI (Ag (Az (AL Ah rfl T.isinstance AR (AA (pv 4) (AA (Ao (v:=.ty "dict") rfl T.dict Cu rfl) AB)))) (AI (Cq (FD PySem.F.plainAttrs_list PySem.F.slot_list_extend PySem.F.type_list_extend Fm (pv 2) (AA (Gw (fv:=["_law_path","_law_holder"]) (fs:=[3,4]) rfl (.of (by rfl)) (DQ (pv 1)) (fun C s0 H0 fp=>JH (L_ (Fn hu (pv 0) (pv 2)))) (fun C s0 H0 fp=>(Aa Dn (pv 1) (BI (AA (pv 0) AB))))) AB)))) AQ)))))
   (AI (AO (pv 2))))),?_⟩
  refine⟨Nat.zero_le _,fun l hl=>?_⟩
  have t1:=AG.new (o:=.lst []) hl
  have fl:upd H l (.lst []) l=some (.lst []):=AE
  generalize upd H l (.lst [])=H1 at t1 fl⊢
  refine⟨_,rfl,Nat.zero_le _,fun e0 YJ=>?_⟩
  have t2:=AG.new (o:=.tup []) YJ
  refine⟨d,e0,[],rfl,Dc.Ad (t1.trans t2) Oi,BV,Dc.Fp d (by omega),Nat.le_trans (Dc.Bo d) (by omega),AE,by simp;omega,fun p ps qs H2 s2 np hp lp tu PQ=>?_⟩
  have vp:=Fv tu PQ
  have S2:AG H H2:=(t1.trans t2).trans s2
  have cu:H2 l=some (.lst []):=s2 _ _ (t2 _ _ fl)
  have pl:p≠l:=fun z=>by
   have:=t2 _ _ fl
   rw[<-z,np]at this
   cases this
  have nl:∀{x:Addr} {o:HO},H x=some o->x≠l:=fun h=>Bq h hl
  have YK:d.At H2:=Dc.Ad S2 Oi
  have dl:∀a∈d.addrs,a≠l:=fun a ha z=>Dc.there Oi ha (by rw[z];exact hl)
  refine⟨p,rfl,⟨_,A_.of hp⟩,EW (xs:=ps.map V.ref) (fun i σ G=>∃(o3 o4:Option V) (B:List V),σ=[some d.val,some (.ref n),some (.ref l),o3,o4]/\(∀x o,x≠l->H2 x=some o->G x=some o)/\G l=some (.lst B)/\B.length<=32*i/\EA G B)
   ⟨none,none,[],rfl,fun _ _ _ h=>h,cu,by simp,fun v hv=>nomatch hv⟩ (fun i σ G _ ⟨_,_,_,_,k,_⟩=>A_.of (k _ _ pl hp)) ?_ ?_⟩
  ·rintro i x σ G hx ⟨o3,o4,B,rfl,k,t,lu,S⟩
   have li:=(AAB hx).1
   rw[List.length_map]at li
   obtain⟨q0,gC,rfl⟩:=List.mem_map.mp (AAD hx)
   obtain⟨j0,bj⟩:=List.getElem?_of_mem gC
   obtain⟨O,bo,sm,_⟩:=vp j0 q0 bj
   rw[List.nil_append]at bo
   obtain⟨e,hs⟩:=Option.isSome_iff_exists.mp sm
   obtain⟨st,lz,ok⟩:=Dc.Ef BV hs
   have cv:G q0=some (.tup O):=k _ _ (Di bo cu (by intro z;cases z)) bo
   have gD:d.At G:=Dc.Bk d (fun a ha o h=>k a o (dl a ha) h) YK
   have iY:G n=some (.lst (ys.map V.str)):=k _ _ (nl hn) (S2 _ _ hn)
   have P:=Dc.BD.sub hs
   have m:=P.at_ gD
   refine⟨_,rfl,_,rfl,d,q0,O,rfl,gD,cv,st,?_⟩
   rw[hs]
   dsimp only[KR]
   have lw:=Dc.Xf hs (by omega)
   have nx:∀(z:V),Dc.BB z/\(∀i:Int,z=.int i->i.natAbs<1000)->steps (O++[z])/\O++[z]≠[]/\(O++[z]).length<=40:=fun z u=>⟨fun y hy=>by
    rcases List.mem_append.mp hy with hy|hy
    ·exact st y hy
    ·rw[List.mem_singleton.mp hy];exact u.1,by simp,by simp;omega⟩
   have ext:∀(Hc:Hp) (D:Addr) (b:List Addr),AG G Hc->Hc D=some (.lst (b.map V.ref))->b.length<=32->(∀q∈b,∃z,Hc q=some (.tup (O++[z]))/\Dc.BB z/\∀i:Int,z=.int i->i.natAbs<1000)->(∀x o,x≠l->H2 x=some o->upd Hc l (.lst (B++b.map V.ref)) x=some o)/\upd Hc l (.lst (B++b.map V.ref)) l=some (.lst (B++b.map V.ref))/\(B++b.map V.ref).length<=32*(i+1)/\EA (upd Hc l (.lst (B++b.map V.ref))) (B++b.map V.ref):=fun Hc D b s R cw g=>by
    refine⟨fun x o hx h=>by rw[AN hx];exact s _ _ (k x o hx h),AE,by rw[List.length_append,List.length_map];omega,OY s t S fun q hq=>?_⟩
    obtain⟨z,h1,h2⟩:=g q hq
    exact⟨_,h1,nx z h2⟩
   cases e with
   |leaf v=>
    refine⟨_,rfl,_,"list",Dc.Iy (.leaf v),rfl,rfl,Dc.Dy m,_,rfl,Af (by cases v<;>rfl) ?_⟩
    refine⟨_,rfl,_,"dict",Dc.Iy (.leaf v),rfl,rfl,Dc.Dy m,_,rfl,Af (by cases v<;>rfl) ?_⟩
    exact⟨_,_,B,rfl,k,t,by omega,S⟩
   |row a xs=>
    refine⟨_,rfl,_,"list",_,rfl,rfl,Dc.Dy m,_,rfl,Ay rfl ?_⟩
    have sz:=P.size
    have lx:=Dc.Es xs
    simp only[Dc.size]at sz
    simp only[Dc.At]at m
    refine⟨_,rfl,.inl ⟨rfl,_,A_.of t⟩,_,rfl,a,_,rfl,.inl (.inl m.1),_,_,rfl,rfl,_,rfl,by rw[List.length_map];omega,by rw[List.length_map];omega,?_⟩
    have en:(((xs.map Dc.val).length:Int)+1).toNat=xs.length+1:=by rw[List.length_map];omega
    rw[en]
    refine MW (xs.length+1) (fun i=>.int (0+(i:Int))) (fun D i Hj=>AG G Hj/\∃ps:List Addr,Hj D=some (.lst (ps.map V.ref))/\ps.length<=i/\∀q∈ps,∃z,Hj q=some (.tup (O++[z]))/\Dc.BB z/\∀i:Int,z=.int i->i.natAbs<1000)
     (fun D R=>⟨AG.new R,[],AE,Nat.le_refl _,fun z u=>nomatch u⟩) (fun D i I hi _=>hi) (fun D i I v H' hi _ y=>⟨y.2,y.1⟩) (fun D I _=>Nat.le_refl _) (fun D i I R hi ⟨r,b,J,cw,g⟩=>?_) (fun D I R ⟨r,b,J,cw,g⟩=>?_)
    ·refine⟨_,rfl,_,rfl,CM,fun g1 gE=>?_⟩
     have s4:=AG.new (o:=.tup [.int (0+(i:Int))]) gE
     refine⟨q0,g1,O,_,rfl,rfl,(r.trans s4) _ _ cv,AE,BA (by simp;omega),fun g2 H5 s5 N=>?_⟩
     have c:=s4.trans s5
     have nD:∀{z:Addr} {ky:List V},H5 z=some (.tup ky)->z≠D:=fun h=>Di h (c _ _ J) (by intro z;cases z)
     refine⟨_,c _ _ J,Ar (by simp;omega),(r.trans c).put R,b++[g2],by rw[AE,List.map_append];rfl,by simp;omega,fun z u=>?_⟩
     rcases List.mem_append.mp u with u|u
     ·obtain⟨w,f1,f2⟩:=g z u
      exact⟨w,by rw[AN (nD (c _ _ f1))];exact c _ _ f1,f2⟩
     ·rw[List.mem_singleton.mp u]
      exact⟨_,by rw[AN (nD N)];exact N,.inl ⟨i,by simp⟩,fun j e=>by cases e;omega⟩
    ·obtain⟨x1,x2,x3,x4⟩:=ext I D b r J (by omega) g
     have k_:Dc.At (upd I l (.lst (B++b.map V.ref))) (.row a xs):=P.at_ (Dc.Bk d (fun a ha o h=>x1 a o (dl a ha) h) YK)
     refine⟨l,D,_,_,rfl,rfl,r _ _ t,J,BA (by rw[List.length_map];omega),?_⟩
     exact⟨_,rfl,_,"dict",_,rfl,rfl,Dc.Dy k_,_,rfl,Af rfl ⟨_,_,_,rfl,x1,x2,x3,x4⟩⟩
   |tab a ks xs=>
    refine⟨_,rfl,_,"list",_,rfl,rfl,Dc.Dy m,_,rfl,Af rfl ?_⟩
    refine⟨_,rfl,_,"dict",_,rfl,rfl,Dc.Dy m,_,rfl,Ay rfl ?_⟩
    simp only[Dc.At]at m
    refine⟨_,rfl,.inl ⟨rfl,_,A_.of t⟩,_,rfl,n,rfl,⟨_,A_.of iY⟩,?_⟩
    refine MX ys.length (fun i=>(ys.map V.str).getD i .BL) (fun D i Hj=>AG G Hj/\∃ps:List Addr,Hj D=some (.lst (ps.map V.ref))/\ps.length<=i/\∀q∈ps,∃z,Hj q=some (.tup (O++[z]))/\Dc.BB z/\∀i:Int,z=.int i->i.natAbs<1000)
     (fun D R=>⟨AG.new R,[],AE,Nat.le_refl _,fun z u=>nomatch u⟩) (fun D i I hi ⟨r,_⟩=>⟨_,_,A_.of (r _ _ iY),AAA (by simp;omega)⟩) (fun D i I v H' hi ⟨r,_⟩ y=>?_) (fun D I ⟨r,_⟩=>⟨_,A_.of (r _ _ iY),by simp⟩) (fun D i I R hi ⟨r,b,J,cw,g⟩=>?_) (fun D I R ⟨r,b,J,cw,g⟩=>?_)
    ·obtain⟨e,y⟩:=y
     refine⟨?_,e⟩
     rw[List.getD_eq_getElem?_getD,y _ (A_.of (r _ _ iY))]
     rfl
    ·obtain⟨kk,uB⟩:∃kk,ys[i]?=some kk:=⟨_,AAA (by omega)⟩
     have ek:(ys.map V.str).getD i .BL=.str kk:=by rw[List.getD_eq_getElem?_getD,List.getElem?_map,uB];rfl
     rw[ek]
     refine⟨_,rfl,_,rfl,a,_,rfl,.inl ⟨_,Sum.inr kk,m.1.up (r _),rfl,rfl⟩,_,rfl,?_⟩
     refine Ul (fun er=>?_) (fun er=>⟨r,b,J,by omega,g⟩)
     refine⟨_,rfl,_,rfl,CM,fun g1 gE=>?_⟩
     have s4:=AG.new (o:=.tup [.str kk]) gE
     refine⟨q0,g1,O,_,rfl,rfl,(r.trans s4) _ _ cv,AE,BA (by simp;omega),fun g2 H5 s5 N=>?_⟩
     have c:=s4.trans s5
     have nD:∀{z:Addr} {ky:List V},H5 z=some (.tup ky)->z≠D:=fun h=>Di h (c _ _ J) (by intro z;cases z)
     refine⟨_,c _ _ J,Ar (by simp;omega),(r.trans c).put R,b++[g2],by rw[AE,List.map_append];rfl,by simp;omega,fun z u=>?_⟩
     rcases List.mem_append.mp u with u|u
     ·obtain⟨w,f1,f2⟩:=g z u
      exact⟨w,by rw[AN (nD (c _ _ f1))];exact c _ _ f1,f2⟩
     ·rw[List.mem_singleton.mp u]
      exact⟨_,by rw[AN (nD N)];exact N,.inr ⟨kk,rfl,ny kk (AAD uB)⟩,fun j e=>nomatch e⟩
    ·obtain⟨x1,x2,x3,x4⟩:=ext I D b r J (by omega) g
     refine⟨l,D,_,_,rfl,rfl,r _ _ t,J,BA (by rw[List.length_map];omega),?_⟩
     exact⟨_,_,_,rfl,x1,x2,x3,x4⟩
  ·rintro σ G ⟨o3,o4,B,rfl,k,t,lu,S⟩
   refine⟨_,rfl,q l B G (fun x o h=>k x o (nl h) (S2 _ _ h)) t ?_ S⟩
   rw[List.length_map,lp]at lu
   omega
end
end CJ
namespace CJ
open PySem L2
section
variable{P:Program} {w:World} {K:AAE} [BH K] {mg:Str->Option Value} {base:Heap}
theorem Qy:An ["_law_cell_here","_law_names_here","_law_leaf_here"] ["_law_cell_here","_law_names_here"] (AK IM):=⟨rfl,rfl,rfl,by decide+kernel,rfl,by decide+kernel,by decide+kernel⟩
theorem Vr {f:Addr} {fd:FuncData} (F:EH K "_law_value" "_law_value" IM f fd) (T:Txt mg) (J:Df P w K mg base "_law_mix" ["_law_cell_here","_law_k"] 1 HE) (x:Df P w K mg base "_law_leaf" ["_law_cell_here"] 2 JO):Bb P w K mg base Dk 3 f fd ["_law_cell_here","_law_names_here"] HU:=by
 obtain⟨bF,bG,m,p,t,u⟩:=J.ex
 obtain⟨X,Y,y,B,C,D⟩:=x.ex
 refine F.ok Qy (fun vs H Q E h=>?_) (fun Jg A outer s H vs Q E Z h=>?_)
 ·obtain⟨c,n,U,rfl,hn,ln,l0,ny,q⟩:=h
  rfl
 ·obtain⟨c,n,U,rfl,hn,ln,l0,ny,q⟩:=h
  have nd:=Qy.nd
  have hu:=Be Z
  have b:Am 1 _:=Z.mono (by first|decide|omega)
  have d:Am 2 _:=Z.mono (by first|decide|omega)
  refine⟨_,(AD (AX (i:=2) nd rfl (Or.inl rfl) (AJ D d rfl C y B .nil AV (AA (pv 0) AB)))
   (AI (AO (AY (r:=Hn K) Cc (BW (AA (pv 2) (AA (BW AB) (AA FU (AA (BW (AA (pv 2) AB)) (AA (Ws (Tg (AY (r:=Hn K) Cc (pv 1) (Aa BU (AJ u b rfl t m p .nil AV (AA (pv 0) (AA AF AB))) (AL AZ rfl T.len PySem.boot_len (AA (pv 1) AB))) (fun _ _=>rfl)) (pv 2) Wr) rfl rfl (by simp) (by simp)) AB)))))) (Aa BU (AJ u b rfl t m p .nil AV (AA (pv 0) (AA AF AB))) AF) (fun _ _=>rfl))))),?_⟩
  refine⟨_,rfl,c,rfl,fun o H1 lo G s1=>?_⟩
  have lf:Dc.Lf o:=lo.lf
  refine⟨_,rfl,Nat.zero_le _,fun e Sq=>?_⟩
  have t1:=AG.new (o:=.lst []) Sq
  have f1:upd H1 e (.lst []) e=some (.lst []):=AE
  generalize upd H1 e (.lst [])=H2 at t1 f1⊢
  refine fun g Ls=>?_
  have t2:=AG.new (o:=.dK []) Ls
  have f2:upd H2 g (.dK []) g=some (.dK []):=AE
  generalize upd H2 g (.dK [])=H3 at t2 f2⊢
  refine⟨_,rfl,CM,fun j Sr=>?_⟩
  have t3:=AG.new (o:=.lst [o]) Sr
  have f3:upd H3 j (.lst [o]) j=some (.lst [o]):=AE
  generalize upd H3 j (.lst [o])=M at t3 f3⊢
  refine fun a N=>?_
  have t4:=AG.new (o:=.dK []) N
  have s4:AG H M:=((s1.trans t1).trans t2).trans t3
  have O:=(s4.trans t4) _ _ hn
  refine⟨_,rfl,_,rfl,c,8,rfl,by decide,fun r8 _ _=>⟨_,rfl,n,_,rfl,.inl (A_.of O),_,_,rfl,rfl,(by show(0:Int)<((U.map V.str).length:Int);rw[List.length_map];omega),?_⟩⟩
  have m8:=G' r8 (n:=((U.map V.str).length:Int)) (by rw[List.length_map];omega)
  obtain⟨v8,wq,wu⟩:=Ee (xs:=U.map V.str) m8.1 m8.2
  obtain⟨l,wy,rfl⟩:=List.mem_map.mp wu
  refine⟨n,_,_,_,rfl,rfl,A_.of O,wq,_,rfl,AE,[(Sum.inr l,o)],rfl,by simp,?_⟩
  have m5:DF [] [((Sum.inr l:Key),o)]=[(Sum.inr l,o)]:=rfl
  rw[m5]
  have R:AG M (upd (upd M a (.dK [])) a (.dK [(Sum.inr l,o)])):=t4.put N
  have f4:upd (upd M a (.dK [])) a (.dK [(Sum.inr l,o)]) a=some (.dK [(Sum.inr l,o)]):=AE
  generalize upd (upd M a (.dK [])) a (.dK [(Sum.inr l,o)])=H5 at R f4⊢
  refine⟨BA (show 5<=1000 by decide),fun L hL=>?_⟩
  have tL:=AG.new (o:=.lst [o,.ref e,.ref g,.ref j,.ref a]) hL
  have fL:upd H5 L (.lst [o,.ref e,.ref g,.ref j,.ref a]) L=some (.lst [o,.ref e,.ref g,.ref j,.ref a]):=AE
  generalize upd H5 L (.lst [o,.ref e,.ref g,.ref j,.ref a])=HC at tL fL⊢
  refine⟨_,rfl,c,7,rfl,by decide,fun r _ _=>⟨_,_,rfl,rfl,(by show(0:Int)<_;decide),?_⟩⟩
  have mb:=G' r (n:=5) (by decide)
  obtain⟨v,hv,mv⟩:=Ee (xs:=[o,V.ref e,.ref g,.ref j,.ref a]) mb.1 mb.2
  refine⟨L,_,_,_,rfl,rfl,A_.of fL,hv,?_⟩
  have I:=R.trans tL
  have S:=t3.trans I
  have w_:=t2.trans S
  have xA:=s4.trans I
  simp only[List.mem_cons,List.not_mem_nil,or_false]at mv
  have k:∀(v:Dc),v.At HC->v.ok->v.size<=2->Cz v->Q v.val HC:=fun v h1 h2 h3 h4=>q v HC xA h1 h2 h3 h4
  rcases mv with rfl|rfl|rfl|rfl|rfl
  ·exact k (.leaf v) lf lo (by simp[Dc.size]) (GZ G)
  ·exact k (.row e []) (by simp only[Dc.At,Dc.CY];exact⟨.inl (w_ _ _ f1),trivial⟩) (by simp[Dc.ok,Dc.Gd]) (by simp[Dc.size,Dc.Ae]) Py
  ·exact k (.tab g [] []) (by simp only[Dc.At,Dc.CY];exact⟨.inl (S _ _ f2),rfl,.nil,trivial⟩) (by simp[Dc.ok,Dc.Gd]) (by simp[Dc.size,Dc.Ae]) Pz
  ·exact k (.row j [.leaf o]) (by simp only[Dc.At,Dc.CY];exact⟨.inl (I _ _ f3),lf,trivial⟩) (by simp only[Dc.ok,Dc.Gd];exact⟨lo,trivial⟩) (by simp[Dc.size,Dc.Ae]) (P_ G)
  ·exact k (.tab a [l] [.leaf o]) (by simp only[Dc.At,Dc.CY];exact⟨.inl (tL _ _ f4),rfl,by simp,lf,trivial⟩) (by simp only[Dc.ok,Dc.Gd];exact⟨fun z hz=>by rw[List.mem_singleton.mp hz];exact ny l wy,lo,trivial⟩) (by simp[Dc.size,Dc.Ae]) (P' G)
end
end CJ
namespace CJ
open PySem L2
section
variable{P:Program} {w:World} {K:AAE} [BH K] {mg:Str->Option Value} {base:Heap}
theorem Oj:An ["_law_some","_law_cell_here","_law_k"] ["_law_some","_law_cell_here","_law_k"] (AK Fz):=⟨rfl,rfl,rfl,by decide+kernel,rfl,by decide+kernel,by decide+kernel⟩
theorem Ss {f:Addr} {p:FuncData} (F:EH K "_law_picked" "_law_picked" Fz f p) (T:Txt mg) (d:Df P w K mg base "_law_mix" ["_law_cell_here","_law_k"] 1 HE):Bb P w K mg base Dk 2 f p ["_law_some","_law_cell_here","_law_k"] (KI K):=by
 obtain⟨t,u,e,g,i,k⟩:=d.ex
 refine F.ok Oj (fun z H Q E h=>?_) (fun B A outer s H z Q E x h=>?_)
 ·obtain⟨l,a,c,j,rfl,o,C,y,q⟩:=h
  rfl
 ·obtain⟨l,a,c,j,rfl,o,C,y,q⟩:=h
  have nd:=Oj.nd
  have I:=Be x
  have b:Am 1 _:=x.mono (by first|decide|omega)
  refine⟨_,(AI (AO (AY (r:=Hn K) Cc (pv 0) (Aa BU (AJ k b rfl i e g .nil AV (AA (pv 1) (AA (pv 2) AB))) (AL AZ rfl T.len PySem.boot_len (AA (pv 0) AB))) (fun _ _=>rfl)))),?_⟩
  refine⟨_,rfl,_,rfl,_,rfl,c,j,rfl,y,fun r J L=>⟨_,rfl,l,_,rfl,.inl o,_,_,rfl,rfl,(by show(0:Int)<(a.length:Int);omega),?_⟩⟩
  have m:=G' r (n:=(a.length:Int)) (by omega)
  obtain⟨v,D,G⟩:=Ee (xs:=a) m.1 m.2
  exact⟨l,_,_,_,rfl,rfl,o,D,q v G⟩
end
end CJ
namespace CJ
open PySem L2
section
variable{P:Program} {w:World} {K:AAE} [BH K] {mg:Str->Option Value} {base:Heap}
theorem Ol:An ["_law_word","_law_path","_law_cell_here","_law_doc_here","_law_names_here"] ["_law_word","_law_path","_law_cell_here","_law_doc_here","_law_names_here"] (AK F_):=⟨rfl,rfl,rfl,by decide+kernel,rfl,by decide+kernel,by decide+kernel⟩
theorem Su {f:Addr} {fd:FuncData} (F:EH K "_law_asking" "_law_asking" F_ f fd) (T:Txt mg) (R:Df P w K mg base "_law_mix" ["_law_cell_here","_law_k"] 1 HE) (B:Df P w K mg base "_law_found" ["_law_doc_here","_law_path"] 1 C_) (C:Df P w K mg base "_law_value" ["_law_cell_here","_law_names_here"] 3 HU):Bb P w K mg base Dk 4 f fd ["_law_word","_law_path","_law_cell_here","_law_doc_here","_law_names_here"] IF:=by
 obtain⟨bF,bG,S,U,X,Y⟩:=R.ex
 obtain⟨Ka,Kb,g,i,j,l⟩:=B.ex
 obtain⟨bp,bq,D,G,I,J⟩:=C.ex
 refine F.ok Ol (fun vs H Q E h=>?_) (fun Jg A outer s H vs Q E hr h=>?_)
 ·obtain⟨w0,t,c,d,n,xs,e,ys,rfl,hw,ht,hx,m,Z,hsz,hs,hn,ln,l0,ny,q⟩:=h
  rfl
 ·obtain⟨w0,t,c,d,n,xs,e,ys,rfl,hw,ht,hx,m,Z,hsz,hs,hn,ln,l0,ny,q⟩:=h
  have nd:=Ol.nd
  have hu:=Be hr
  have M:Am 1 _:=hr.mono (by first|decide|omega)
  have b:Am 1 _:=hr.mono (by first|decide|omega)
  have p:Am 3 _:=hr.mono (by first|decide|omega)
  refine⟨_,(AD (Ag (AM Bj (pv 0) Ab (AS _)) (AI (AO (BI (AA (pv 0) (AA (pv 1) (AA (AY (r:=Hn K) Cc (BW (AA (AJ l b rfl j g i .nil AV (AA (pv 3) (AA (pv 1) AB))) (AA (AJ J p rfl I D G .nil AV (AA (pv 2) (AA (pv 4) AB))) AB))) (EZ Ky rfl T.int Yy (AA (Cr Bj (Aa BU (AJ Y M rfl X S U .nil AV (AA (pv 2) (AA AF AB))) AF) AF (AS _)) AB)) (fun _ _=>rfl)) AB)))))) AQ)
   (AD (Ag (AM Bj (pv 0) Ab (AS _)) (AI (AO (BI (AA (pv 0) (AA (pv 1) (AA (AY (r:=Hn K) Cc (BW (AA Ab (AA Ab AB))) (EZ Ky rfl T.int Yy (AA (AL Ah rfl T.isinstance AR (AA (AJ l b rfl j g i .nil AV (AA (pv 3) (AA (pv 1) AB))) (AA (Ao (v:=.ty "dict") rfl T.dict Cu rfl) AB))) AB)) (fun _ _=>rfl)) AB)))))) AQ)
   (AI (AO (BI (AA (pv 0) (AA (pv 1) AB))))))),?_⟩
  have uC:∀z∈xs,Dc.BB z:=hx
  have pk:∀(u v:V) (k:Bool),∃x,NX [u,v] (if k=true then 1 else 0)=some x/\(x=u∨x=v):=fun u v k=>by
   cases k with
   |true=>exact⟨v,rfl,.inr rfl⟩
   |false=>exact⟨u,rfl,.inl rfl⟩
  have P:=Dc.BD.sub hs
  refine⟨_,rfl,rfl,_,rfl,?_⟩
  refine CG (fun h=>?_) (fun h=>?_)
  ·refine⟨_,rfl,_,rfl,_,rfl,_,rfl,d,t,xs,rfl,m,ht,uC,?_⟩
   rw[hs]
   dsimp only[KR]
   refine⟨_,rfl,_,rfl,c,n,ys,rfl,hn,by omega,l0,ny,fun d2 H1 s1 xB xC zt _=>⟨Aq,fun L hL=>?_⟩⟩
   have y:=AG.new (o:=.lst [e.val,d2.val]) hL
   have f1:upd H1 L (.lst [e.val,d2.val]) L=some (.lst [e.val,d2.val]):=AE
   generalize upd H1 L (.lst [e.val,d2.val])=H2 at y f1⊢
   refine⟨_,rfl,c,9,rfl,by decide,fun r _ _=>⟨_,_,rfl,rfl,(by show(0:Int)<_;decide),rfl,.inr ⟨_,rfl,?_⟩⟩⟩
   obtain⟨x,N,ex⟩:=pk e.val d2.val (decide (V.int (r % 6)=V.int 0))
   refine⟨L,_,_,_,rfl,rfl,A_.of f1,N,BA (show 3<=1000 by decide),fun a O=>q a [x] _ ((s1.trans y).trans (AG.new O)) AE ?_⟩
   have s2:=AG.new (o:=.tup [.str w0,.ref t,x]) O
   have hw:w0="ask":=V.str.inj (of_decide_eq_true h)
   subst hw
   rcases ex with rfl|rfl
   ·exact HZ.ask (Dc.Ad ((s1.trans y).trans s2) (P.at_ m)) (P.ok Z) (by have:=P.size;omega)
   ·exact HZ.ask (Dc.Ad (y.trans s2) xB) xC (by omega)
  refine⟨_,rfl,rfl,_,rfl,?_⟩
  refine CG (fun h2=>?_) (fun h2=>?_)
  ·refine⟨_,rfl,_,rfl,Aq,fun L hL=>?_⟩
   have y:=AG.new (o:=.lst [.str "row",.str "table"]) hL
   have f1:upd H L (.lst [.str "row",.str "table"]) L=some (.lst [.str "row",.str "table"]):=AE
   generalize upd H L (.lst [.str "row",.str "table"])=H2 at y f1⊢
   refine⟨_,rfl,_,rfl,d,t,xs,rfl,Dc.Ad y m,y _ _ ht,uC,?_⟩
   rw[hs]
   dsimp only[KR]
   refine⟨_,"dict",_,rfl,rfl,Dc.Dy (Dc.Ad y (P.at_ m)),.inr ⟨_,rfl,?_⟩⟩
   obtain⟨x,N,ex⟩:=pk (.str "row") (.str "table") (Wy e.Iy "dict")
   refine⟨L,_,_,_,rfl,rfl,A_.of f1,N,BA (show 3<=1000 by decide),fun a O=>q a [x] _ (y.trans (AG.new O)) AE ?_⟩
   have hw:w0="is":=V.str.inj (of_decide_eq_true h2)
   subst hw
   rcases ex with rfl|rfl<;>exact HZ.wB
  ·refine⟨_,rfl,_,rfl,Aq,fun a O=>q a [] _ (AG.new O) AE (HZ.no ?_)⟩
   rcases hw with rfl|rfl|rfl
   ·exact absurd rfl h
   ·exact absurd rfl h2
   ·decide
end
end CJ
namespace CJ
open PySem L2
section
variable{P:Program} {w:World} {K:AAE} [BH K] {mg:Str->Option Value} {base:Heap}
theorem ZY:An ["_law_cell_here","_law_doc_here","_law_names_here","_law_words","_law_word","_law_paths_here","_law_slots_here","_law_path"] ["_law_cell_here","_law_doc_here","_law_names_here"] (AK Sk):=⟨rfl,rfl,rfl,by decide+kernel,rfl,by decide+kernel,by decide+kernel⟩
theorem br {f:Addr} {fd:FuncData} (F:EH K "_law_row" "_law_row" Sk f fd) (T:Txt mg) (Vs:Df P w K mg base "_law_done" ["_law_doc_here","_law_row_here"] 62 JP) (Kc:Df P w K mg base "_law_paths" ["_law_doc_here","_law_ahead"] 61 (DZ 61)) (bu:Df P w K mg base "_law_slots" ["_law_doc_here","_law_names_here"] 64 KU) (bw:Df P w K mg base "_law_value" ["_law_cell_here","_law_names_here"] 3 HU) (YL:Df P w K mg base "_law_picked" ["_law_some","_law_cell_here","_law_k"] 2 (KI K)) (YM:Df P w K mg base "_law_asking" ["_law_word","_law_path","_law_cell_here","_law_doc_here","_law_names_here"] 4 IF):Bb P w K mg base Dk 65 f fd ["_law_cell_here","_law_doc_here","_law_names_here"] QB:=by
 obtain⟨gF,gG,Vt,Vu,Vv,Vw⟩:=Vs.ex
 obtain⟨NA,NB,Ke,Kf,Kg,Kh⟩:=Kc.ex
 obtain⟨lA,lB,Vx,Vy,Vz,V_⟩:=bu.ex
 obtain⟨bp,bq,V',WA,WB,WC⟩:=bw.ex
 obtain⟨iZ,ia,t,u,x,B⟩:=YL.ex
 obtain⟨ib,ie,YN,YO,YQ,YR⟩:=YM.ex
 refine F.ok ZY (fun vs H Q E h=>?_) (fun Jg A outer s H vs Q E hr h=>?_)
 ·obtain⟨c,d,n,ys,rfl,Oi,BV,hsz,hn,ln,l0,ny,q⟩:=h
  rfl
 ·obtain⟨c,d,n,ys,rfl,Oi,BV,hsz,hn,ln,l0,ny,q⟩:=h
  have nd:=ZY.nd
  have hu:=Be hr
  have QL:Am 62 _:=hr.mono (by first|decide|omega)
  have NC:Am 61 _:=hr.mono (by first|decide|omega)
  have Qz:Am 64 _:=hr.mono (by first|decide|omega)
  have Q_:Am 3 _:=hr.mono (by first|decide|omega)
  have m:Am 2 _:=hr.mono (by first|decide|omega)
  have WD:Am 4 _:=hr.mono (by first|decide|omega)
  refine⟨_,(@SE _ _ _ _ _ _ rfl (@AX _ _ 3 _ _ _ _ nd rfl (Or.inl rfl) (@BW _ _ _ _ (@AA _ _ _ _ _ (@Ab _ _ _ _) (@AA _ _ _ _ _ (@Ab _ _ _ _) (@AA _ _ _ _ _ (@Ab _ _ _ _) (@AA _ _ _ _ _ (@Ab _ _ _ _) (@AA _ _ _ _ _ (@Ab _ _ _ _) (@AA _ _ _ _ _ (@Ab _ _ _ _) (@AA _ _ _ _ _ (@Ab _ _ _ _) (@AA _ _ _ _ _ (@Ab _ _ _ _) (@AA _ _ _ _ _ (@Ab _ _ _ _) (@AA _ _ _ _ _ (@Ab _ _ _ _) (@AA _ _ _ _ _ (@Ab _ _ _ _) (@AA _ _ _ _ _ (@Ab _ _ _ _) AB rfl) rfl) rfl) rfl) rfl) rfl) rfl) rfl) rfl) rfl) rfl) rfl)) rfl (Or.inr rfl))
   (AD (AX (i:=4) nd rfl (Or.inl rfl) (AJ B m rfl x t u .nil AV (AA (pv 3) (AA (pv 0) (AA AF AB)))))
   (AD (AX (i:=5) nd rfl (Or.inl rfl) (AJ Kh NC rfl Kg Ke Kf .nil AV (AA (pv 1) (AA (BI AB) AB))))
   (AD (AX (i:=6) nd rfl (Or.inl rfl) (AJ V_ Qz rfl Vz Vx Vy .nil AV (AA (pv 1) (AA (pv 2) AB))))
   (AD (AX (i:=7) nd rfl (Or.inl rfl) (AJ B m rfl x t u .nil AV (AA (pv 5) (AA (pv 0) (AA AF AB)))))
   (AD (Ag (AM Bj (pv 4) Ab (AS _)) (AI (GJ (i:=6) (fv:=[]) (fs:=[]) rfl (.of (by rfl)) nd rfl (Or.inl rfl) (DQ (pv 6)) (fun C s0 H0 fp=>JH (Az (AL Ah rfl T.isinstance AR (AA (AY (r:=Ax K) AW (pv 0) (Cm CA AF) (fun _ _=>rfl)) (AA (Ao (v:=.ty "str") rfl T.str Nt rfl) AB))))) (fun C s0 H0 fp=>(pv 0)))) AQ)
   (AD (Ag (PW.pt (pw_or (PW.pt (pw_and (AM (PL (Am.Cg hr)) (pv 6) (BW AB) (AS _)) (pw_and1 (AM (DE:Ep _ _ (WK K false)) (pv 4) (BW (AA Ab (AA Ab (AA Ab AB)))) rfl)))) (pw_or1 (PW.pt (pw_and (AM Bj (AL AZ rfl T.len PySem.boot_len (AA (pv 5) AB)) AF (AS _)) (pw_and1 (AM (DE:Ep _ _ (WK K false)) (pv 4) (BW (AA Ab (AA Ab AB))) rfl))))))) (AI (AX (i:=4) nd rfl (Or.inl rfl) Ab)) AQ)
   (AD (Ag (AM (DE:Ep _ _ (WK K false)) (pv 4) (BW (AA Ab (AA Ab AB))) rfl) (AI (AX (i:=7) nd rfl (Or.inl rfl) (AJ B m rfl x t u .nil AV (AA (BN (r:=du K) Wi (pv 5) (Bd AF) Bv) (AA (pv 0) (AA AF AB)))))) AQ)
   (AD (Ag (AM Bj (pv 4) Ab (AS _)) (AI (AO (BI (AA (pv 4) (AA (AJ B m rfl x t u .nil AV (AA (pv 6) (AA (pv 0) (AA AF AB)))) (AA (AJ WC Q_ rfl WB V' WA .nil AV (AA (pv 0) (AA (pv 2) AB))) AB)))))) AQ)
   (AD (Ag (AM Bj (pv 4) Ab (AS _)) (AI (AO (BI (AA (pv 4) (AA (AJ B m rfl x t u .nil AV (AA (pv 6) (AA (pv 0) (AA AF AB)))) AB))))) AQ)
   (AD (Ag (AM Bj (pv 4) Ab (AS _)) (AI (AO (BI (AA (pv 4) (AA (pv 7) (AA (AJ B m rfl x t u .nil AV (AA (pv 6) (AA (pv 0) (AA AF AB)))) AB)))))) AQ)
   (AD (Ag (AM Bj (pv 4) Ab (AS _)) (AD (AX (i:=6) nd rfl (Or.inl rfl) (AJ V_ Qz rfl Vz Vx Vy .nil AV (AA (AJ Vw QL rfl Vv Vt Vu .nil AV (AA (pv 1) (AA (BI (AA Ab (AA (pv 7) AB))) AB))) (AA (pv 2) AB))))
   (AD (Ag (AM (PL (Am.Cg hr)) (pv 6) (BW AB) (AS _)) (AI (AO (BI (AA Ab (AA (pv 7) AB))))) AQ)
   (AI (AO (BI (AA (pv 4) (AA (pv 7) (AA (AJ B m rfl x t u .nil AV (AA (pv 6) (AA (pv 0) (AA AF AB)))) AB)))))))) AQ)
   (AD (Ag (AM Bj (pv 4) Ab (AS _)) (AI (AO (BI (AA (pv 4) (AA (pv 7) (AA (AJ WC Q_ rfl WB V' WA .nil AV (AA (pv 0) (AA (pv 2) AB))) AB)))))) AQ)
   (AD (Ag (AM Bj (pv 4) Ab (AS _)) (AI (AO (BI (AA (pv 4) (AA (pv 7) AB))))) AQ)
   (AI (AO (AJ YR WD rfl YQ YN YO .nil AV (AA (pv 4) (AA (pv 7) (AA (pv 0) (AA (pv 1) (AA (pv 2) AB)))))))))))))))))))))),?_⟩
  refine⟨BA (show 12<=1000 by decide),fun W hW=>?_⟩
  have t1:=AG.new (o:=.lst ((["put","take","move","copy","change","ask","has","lacks","is","move","put","take"]:List Str).map V.str)) hW
  have fW:upd H W (.lst ((["put","take","move","copy","change","ask","has","lacks","is","move","put","take"]:List Str).map V.str)) W=_:=AE
  refine⟨_,rfl,_,rfl,W,_,c,0,rfl,A_.of fW,by decide,by decide,fun v N=>?_⟩
  obtain⟨w0,hw,rfl⟩:=List.mem_map.mp N
  have wd:w0∈FY:=by
   have all:∀w∈(["put","take","move","copy","change","ask","has","lacks","is","move","put","take"]:List Str),w∈FY:=by decide+kernel
   exact all w0 hw
  refine⟨_,rfl,Nat.zero_le _,fun e0 YJ=>?_⟩
  have t2:=AG.new (o:=.tup []) YJ
  refine⟨d,e0,[],rfl,Dc.Ad (t1.trans t2) Oi,BV,Dc.Fp d (by omega),Nat.le_trans (Dc.Bo d) (by omega),AE,by simp;omega,fun p ps qs H2 s2 np hp lp tu PQ=>?_⟩
  have vp:=Fv tu PQ
  have S2:AG H H2:=(t1.trans t2).trans s2
  refine⟨_,rfl,_,rfl,d,n,ys,rfl,Dc.Ad S2 Oi,BV,hsz,S2 _ _ hn,ln,ny,fun l U H3 s3 hl lu S=>?_⟩
  have S3:=S2.trans s3
  have dp:=Dc.size_pos d
  have uD:∀(j:Nat) q,ps[j]?=some q->∃zs,H3 q=some (.tup zs)/\(∃e,d.sub zs=some e)/\(0<j->zs≠[])/\steps zs/\zs.length<=40:=fun j q hq=>by
   obtain⟨zs,h1,h2,h3⟩:=vp j q hq
   obtain⟨e,he⟩:=Option.isSome_iff_exists.mp h2
   obtain⟨st,lz,_⟩:=Dc.Ef BV he
   exact⟨zs,s3 _ _ (by rw[h1,List.nil_append]),⟨e,he⟩,h3,st,by omega⟩
  refine⟨_,rfl,_,rfl,p,_,c,1,rfl,A_.of (s3 _ _ hp),by rw[List.length_map];omega,by decide,fun v N=>?_⟩
  obtain⟨q0,gC,rfl⟩:=List.mem_map.mp N
  obtain⟨j0,bj⟩:=List.getElem?_of_mem gC
  obtain⟨z0,bo,⟨x0,xD⟩,_,xE,xF⟩:=uD j0 q0 bj
  dsimp only[EU]
  refine D' (fun σ' H'=>∃(l:Addr) (U:List V),σ'=[some (.int c),some d.val,some (.ref n),some (.ref W),some (.str w0),some (.ref p),some (.ref l),some (.ref q0)]/\AG H3 H'/\H' l=some (.lst U)/\U.length<=970/\EA H' U) ?_ ?_
  rotate_left
  ·intro M
   refine⟨_,rfl,rfl,_,rfl,?_⟩
   refine CG (fun h=>?_) (fun h=>M _ _ ⟨l,U,rfl,AG.refl _,hl,lu,S⟩)
   refine⟨_,rfl,l,rfl,⟨_,A_.of hl⟩,MX U.length (fun i=>U.getD i .BL) (fun D i Hj=>AG H3 Hj/\∃G:List V,Hj D=some (.lst G)/\G.length<=i/\∀v∈G,v∈U)
    (fun D hD=>⟨AG.new hD,[],AE,Nat.le_refl _,fun z hz=>nomatch hz⟩) (fun D i Hj hi ⟨s,_⟩=>⟨_,_,A_.of (s _ _ hl),AAA hi⟩) (fun D i Hj v H' hi ⟨s,_⟩ y=>?_) (fun D Hj ⟨s,_⟩=>⟨_,A_.of (s _ _ hl),Nat.le_refl _⟩) (fun D i Hj hD hi ⟨s,G,fD,xG,m'⟩=>?_) (fun D Hj hD ⟨s,G,fD,xG,m'⟩=>?_)⟩
   ·obtain⟨e,y⟩:=y
    refine⟨?_,e⟩
    rw[List.getD_eq_getElem?_getD,y _ (A_.of (s _ _ hl))]
    rfl
   ·have gi:U[i]?=some (U.getD i .BL):=by rw[List.getD_eq_getElem?_getD,AAA hi];rfl
    have mi:=AAD gi
    obtain⟨sp,xs,ex,X,R,nx,_⟩:=S _ mi
    rw[ex]at mi⊢
    obtain⟨vs,lv,rfl⟩:∃vs lv,xs=vs++[lv]:=⟨xs.dropLast,xs.getLast nx,(List.dropLast_concat_getLast nx).symm⟩
    have add:∃ys,Hj D=some (.lst ys)/\ys.length<sizeLine/\(AG H3 (upd Hj D (.lst (ys++[.ref sp])))/\∃G:List V,upd Hj D (.lst (ys++[.ref sp])) D=some (.lst G)/\G.length<=i+1/\∀v∈G,v∈U):=⟨G,fD,Ar (by omega),s.put hD,G++[.ref sp],AE,by simp;omega,fun v N=>by
     rcases List.mem_append.mp N with N|N
     ·exact m' v N
     ·rw[List.mem_singleton.mp N];exact mi⟩
    refine⟨_,rfl,_,rfl,sp,_,_,_,rfl,rfl,Ap.of (s _ _ X),Br vs lv,?_⟩
    rcases R lv (by simp)with⟨k,rfl⟩|⟨k,rfl,_⟩
    ·exact⟨_,"str","int",rfl,rfl,.int _,_,rfl,Au ⟨s,G,fD,by omega,m'⟩⟩
    ·exact⟨_,"str","str",rfl,rfl,.str _,_,rfl,BO ⟨_,rfl,add⟩⟩
   ·exact M _ _ ⟨D,G,rfl,s,fD,by omega,fun v N=>(S.up fun q xs h=>s _ _ h) v (m' v N)⟩
  clear hl lu S
  rintro σ' H4 ⟨l,U,rfl,s4,hl,lu,S⟩
  refine D' (fun σ' H'=>∃w2,σ'=[some (.int c),some d.val,some (.ref n),some (.ref W),some (.str w2),some (.ref p),some (.ref l),some (.ref q0)]/\AG H4 H'/\w2∈FY/\(w2="put"∨w2="copy"∨w2="lacks"->U≠[])/\(w2="take"∨w2="move"->ps.length≠1)) ?_ ?_
  rotate_left
  ·intro M
   have h9:("has":Str)∈FY:=by decide
   have has:∀H',AG H4 H'->_:=fun H' s=>M [some (.int c),some d.val,some (.ref n),some (.ref W),some (.str "has"),some (.ref p),some (.ref l),some (.ref q0)] H' ⟨"has",rfl,s,h9,fun h=>absurd h (by decide),fun h=>absurd h (by decide)⟩
   have WN:=s4 _ _ (s3 _ _ hp)
   refine⟨_,rfl,Nat.zero_le _,fun z hz=>⟨l,z,U,rfl,rfl,A_.of (AG.new hz _ _ hl),A_.of AE,_,rfl,?_⟩⟩
   have sz:=AG.new (o:=.lst []) hz
   generalize upd H4 z (.lst [])=H5 at sz⊢
   cases U with
   |cons v r=>
    refine Au (Au ?_)
    have R:=sz
    have c2:(w0="put"∨w0="copy"∨w0="lacks")->v::r≠[]:=fun _=>by simp
    have lC:=R _ _ WN
    refine⟨_,rfl,p,_,rfl,.inl (A_.of lC),rfl,_,rfl,?_⟩
    refine CG (fun c1=>?_) (fun c1=>Au (M _ _ ⟨w0,rfl,R,wd,c2,fun _ z=>c1 (by rw[List.length_map,z];rfl)⟩))
    refine⟨_,rfl,Aq,fun g2 YS=>⟨g2,_,rfl,.inl (A_.of AE),rfl,rfl,_,rfl,?_⟩⟩
    refine Ia (fun b=>has _ (R.trans (AG.new YS))) (fun b=>M _ _ ⟨w0,rfl,R.trans (AG.new YS),wd,c2,fun h=>?_⟩)
    exact absurd (show FA (.str w0) [.str "take",.str "move"]=true by rcases h with rfl|rfl<;>decide) (by rw[b];exact Bool.false_ne_true)
   |nil=>
    refine BO ⟨_,rfl,BA (show 3<=1000 by decide),fun g hg=>⟨g,_,rfl,.inl (A_.of AE),rfl,rfl,_,rfl,?_⟩⟩
    have R:=sz.trans (AG.new (o:=.lst [.str "put",.str "copy",.str "lacks"]) hg)
    refine Ia (fun b=>BO (has _ R)) (fun b=>?_)
    have c2:(w0="put"∨w0="copy"∨w0="lacks")->([]:List V)≠[]:=fun h=>absurd (show FA (.str w0) [.str "put",.str "copy",.str "lacks"]=true by rcases h with rfl|rfl|rfl<;>decide) (by rw[b];exact Bool.false_ne_true)
    have lC:=R _ _ WN
    refine⟨_,rfl,p,_,rfl,.inl (A_.of lC),rfl,_,rfl,?_⟩
    refine CG (fun c1=>?_) (fun c1=>Au (M _ _ ⟨w0,rfl,R,wd,c2,fun _ z=>c1 (by rw[List.length_map,z];rfl)⟩))
    refine⟨_,rfl,Aq,fun g2 YS=>⟨g2,_,rfl,.inl (A_.of AE),rfl,rfl,_,rfl,?_⟩⟩
    refine Ia (fun b=>has _ (R.trans (AG.new YS))) (fun b=>M _ _ ⟨w0,rfl,R.trans (AG.new YS),wd,c2,fun h=>?_⟩)
    exact absurd (show FA (.str w0) [.str "take",.str "move"]=true by rcases h with rfl|rfl<;>decide) (by rw[b];exact Bool.false_ne_true)
  rintro σ' H5 ⟨w2,rfl,s5,xH,cs,ct⟩
  have cn:=s5 _ _ (s4 _ _ (s3 _ _ hp))
  refine D' (fun σ' H'=>∃(q1:Addr) (zs:List V) (e:Dc),σ'=[some (.int c),some d.val,some (.ref n),some (.ref W),some (.str w2),some (.ref p),some (.ref l),some (.ref q1)]/\AG H5 H'/\H' q1=some (.tup zs)/\d.sub zs=some e/\(w2="take"∨w2="move"->zs≠[])/\steps zs/\zs.length<=40) ?_ ?_
  rotate_left
  ·intro M
   refine⟨_,rfl,Aq,fun g2 YS=>⟨g2,_,rfl,.inl (A_.of AE),rfl,rfl,_,rfl,?_⟩⟩
   have sg:=AG.new (o:=.lst [.str "take",.str "move"]) YS
   generalize upd H5 g2 (.lst [.str "take",.str "move"])=H6 at sg⊢
   refine Ia (fun b=>?_) (fun b=>M _ _ ⟨q0,z0,x0,rfl,sg,sg _ _ (s5 _ _ (s4 _ _ bo)),xD,fun h=>absurd (show FA (.str w2) [.str "take",.str "move"]=true by rcases h with rfl|rfl<;>decide) (by rw[b];exact Bool.false_ne_true),xE,xF⟩)
   have zu:=ct (by
    rw[show FA (.str w2) [.str "take",.str "move"]=decide (w2∈(["take","move"]:List Str))from FZ w2 ["take","move"]]at b
    have:=of_decide_eq_true b
    simpa using this)
   have cut:GA (ps.map V.ref) (some ((1:Nat):Int)) none=(ps.drop 1).map V.ref:=by rw[Hr,List.map_drop]
   refine⟨_,rfl,_,rfl,p,_,rfl,A_.of (sg _ _ cn),fun D hD=>?_⟩
   have sD:=AG.new (o:=.lst ((ps.drop 1).map V.ref)) hD
   refine⟨_,rfl,D,(ps.drop 1).map V.ref,c,1,rfl,A_.of (by rw[<-cut];exact AE),by rw[List.length_map,List.length_drop];omega,by decide,fun v N=>?_⟩
   obtain⟨q1,gH,rfl⟩:=List.mem_map.mp N
   obtain⟨j,hj⟩:=List.getElem?_of_mem gH
   rw[List.getElem?_drop]at hj
   obtain⟨zs,hz,⟨e,he⟩,ne,st,ll⟩:=uD _ q1 hj
   exact M _ _ ⟨q1,zs,e,rfl,sg.trans (AG.new hD),(sg.trans (AG.new hD)) _ _ (s5 _ _ (s4 _ _ hz)),he,fun _=>ne (by omega),st,ll⟩
  rintro σ' H6 ⟨q1,z1,e1,rfl,s6,I,cx,uE,J,O⟩
  have S6:AG H H6:=((S3.trans s4).trans s5).trans s6
  have lE:=s6 _ _ (s5 _ _ hl)
  have lF:EA H6 U:=S.up fun q xs h=>s6 _ _ (s5 _ _ h)
  have cy:=S6 _ _ hn
  have ig:=Dc.Ad S6 Oi
  have fu:=xH
  simp only[FY,List.mem_cons,List.not_mem_nil,or_false]at fu
  have n0:steps ([]:List V):=fun z hz=>nomatch hz
  rcases fu with rfl|rfl|rfl|rfl|rfl|rfl|rfl|rfl|rfl
  ·refine⟨_,rfl,rfl,_,rfl,Ay (by decide) ⟨_,rfl,_,rfl,_,rfl,l,U,c,2,rfl,A_.of lE,List.length_pos_iff.mpr (cs (.inl rfl)),by decide,fun v N=>?_⟩⟩
   obtain⟨sp,xs,rfl,X,R,nx,lx⟩:=lF v N
   refine⟨_,rfl,_,rfl,c,n,ys,rfl,cy,by omega,l0,ny,fun d2 H7 s7 cz lG lH lI=>⟨BA (show 3<=1000 by decide),fun a Y=>?_⟩⟩
   have L:=AG.new (o:=.tup [.str "put",.ref sp,d2.val]) Y
   have Z:=Fi (zs:=[]) (w:="put") AE (L _ _ (s7 _ _ X)) R lx (by decide) (fun _=>nx) (HZ.val (by decide) (Dc.Ad L cz) lG lH lI) n0 (by decide) (fun h=>absurd h (by decide))
   exact q _ _ _ _ _ _ ((S6.trans s7).trans L) Z
  ·refine⟨_,rfl,rfl,_,rfl,Af (by decide) ⟨_,rfl,rfl,_,rfl,Af (by decide) ⟨_,rfl,rfl,_,rfl,Af (by decide) ⟨_,rfl,rfl,_,rfl,Af (by decide) ⟨_,rfl,rfl,_,rfl,Af (by decide) ⟨_,rfl,rfl,_,rfl,Ay (by decide) ⟨_,rfl,_,rfl,Aq,fun a Y=>?_⟩⟩⟩⟩⟩⟩⟩
   have L:=AG.new (o:=.tup [.str "take",.ref q1]) Y
   have Z:=Fi (zs:=[]) (w:="take") AE (L _ _ I) J O (by decide) (fun _=>uE (.inl rfl)) (HZ.no (by decide)) n0 (by decide) (fun h=>absurd h (by decide))
   exact q _ _ _ _ _ _ (S6.trans L) Z
  ·obtain⟨G,lv,ez⟩:∃G lv,z1=G++[lv]:=⟨z1.dropLast,z1.getLast (uE (.inr rfl)),(List.dropLast_concat_getLast _).symm⟩
   rw[ez]at cx I J O
   obtain⟨eh,fB,S'⟩:=Dc.KC cx
   refine⟨_,rfl,rfl,_,rfl,Af (by decide) ⟨_,rfl,rfl,_,rfl,Af (by decide) ⟨_,rfl,rfl,_,rfl,Af (by decide) ⟨_,rfl,rfl,_,rfl,Ay (by decide) ⟨_,rfl,_,rfl,Aq,fun a0 xI=>?_⟩⟩⟩⟩⟩
   have s7:=AG.new (o:=.tup [.str "take",.ref q1]) xI
   have rt:=Fi (zs:=[]) (w:="take") (AE (H:=H6) (a:=a0) (o:=.tup [.str "take",.ref q1])) (s7 _ _ I) J O (by decide) (fun _=>by simp) (HZ.no (by decide)) n0 (by decide) (fun h=>absurd h (by decide))
   refine⟨d,_,"take",_,_,q1,rfl,Dc.Ad s7 ig,BV,hsz,rt,fun d' H8 s8 xJ xK _ uF _=>?_,fun z=>absurd ⟨rfl,by rw[cx];rfl⟩ z⟩
   have uF:=uF rfl
   have s78:=s7.trans s8
   refine⟨_,rfl,d',n,ys,rfl,xJ,xK,by omega,s78 _ _ cy,ln,ny,fun l2 f' H9 s9 uG zv S9=>?_⟩
   have s79:=s78.trans s9
   refine⟨_,rfl,Nat.zero_le _,fun z hz=>⟨l2,z,f',rfl,rfl,A_.of (AG.new hz _ _ uG),A_.of AE,_,rfl,?_⟩⟩
   have tz:=AG.new (o:=.lst []) hz
   have gI:=s79.trans tz
   have gJ:=tz _ _ uG
   have uH:EA _ f':=S9.up fun q xs h=>tz _ _ h
   generalize upd H9 z (.lst [])=lJ at tz gI gJ uH⊢
   cases f' with
   |nil=>
    refine BO ⟨_,rfl,Aq,fun a Y=>?_⟩
    have L:=AG.new (o:=.tup [.str "has",.ref q1]) Y
    have Z:=Fi (zs:=[]) (w:="has") AE (L _ _ (gI _ _ I)) J O (by decide) (fun h=>absurd h (by decide)) (HZ.no (by decide)) n0 (by decide) (fun h=>absurd h (by decide))
    exact q _ _ _ _ _ _ ((S6.trans gI).trans L) Z
   |cons v0 r0=>
    refine Au ⟨_,rfl,_,rfl,_,rfl,_,rfl,l2,_,c,2,rfl,A_.of gJ,by simp,by decide,fun v N=>⟨BA (show 3<=1000 by decide),fun a Y=>?_⟩⟩
    obtain⟨sp,xs,rfl,X,R,nx,lx⟩:=uH v N
    have L:=AG.new (o:=.tup [.str "move",.ref q1,.ref sp]) Y
    have Z:=Fi (zs:=xs) (w:="move") AE (L _ _ (gI _ _ I)) J O (by decide) (fun _=>by simp) (HZ.two (by decide) (L _ _ X)) R lx (fun _=>nx)
    exact q _ _ _ _ _ _ ((S6.trans gI).trans L) Z
  ·refine⟨_,rfl,rfl,_,rfl,Af (by decide) ⟨_,rfl,rfl,_,rfl,Af (by decide) ⟨_,rfl,rfl,_,rfl,Ay (by decide) ⟨_,rfl,_,rfl,_,rfl,_,rfl,l,U,c,2,rfl,A_.of lE,List.length_pos_iff.mpr (cs (.inr (.inl rfl))),by decide,fun v N=>⟨BA (show 3<=1000 by decide),fun a Y=>?_⟩⟩⟩⟩⟩
   obtain⟨sp,xs,rfl,X,R,nx,lx⟩:=lF v N
   have L:=AG.new (o:=.tup [.str "copy",.ref q1,.ref sp]) Y
   have Z:=Fi (zs:=xs) (w:="copy") AE (L _ _ I) J O (by decide) (fun h=>absurd h (by decide)) (HZ.two (by decide) (L _ _ X)) R lx (fun _=>nx)
   exact q _ _ _ _ _ _ (S6.trans L) Z
  ·refine⟨_,rfl,rfl,_,rfl,Af (by decide) ⟨_,rfl,rfl,_,rfl,Af (by decide) ⟨_,rfl,rfl,_,rfl,Af (by decide) ⟨_,rfl,rfl,_,rfl,Af (by decide) ⟨_,rfl,rfl,_,rfl,Ay (by decide) ⟨_,rfl,_,rfl,_,rfl,_,rfl,c,n,ys,rfl,cy,by omega,l0,ny,fun d2 H7 s7 cz lG lH lI=>⟨BA (show 3<=1000 by decide),fun a Y=>?_⟩⟩⟩⟩⟩⟩⟩
   have L:=AG.new (o:=.tup [.str "change",.ref q1,d2.val]) Y
   have Z:=Fi (zs:=[]) (w:="change") AE (L _ _ (s7 _ _ I)) J O (by decide) (fun h=>absurd h (by decide)) (HZ.val (by decide) (Dc.Ad L cz) lG lH lI) n0 (by decide) (fun h=>absurd h (by decide))
   exact q _ _ _ _ _ _ ((S6.trans s7).trans L) Z
  ·refine⟨_,rfl,rfl,_,rfl,Af (by decide) ⟨_,rfl,rfl,_,rfl,Af (by decide) ⟨_,rfl,rfl,_,rfl,Af (by decide) ⟨_,rfl,rfl,_,rfl,Af (by decide) ⟨_,rfl,rfl,_,rfl,Af (by decide) ⟨_,rfl,rfl,_,rfl,Af (by decide) ⟨_,rfl,_,rfl,_,rfl,_,rfl,_,rfl,"ask",q1,c,d,n,z1,e1,ys,rfl,.inl rfl,I,J,ig,BV,hsz,cx,cy,ln,l0,ny,fun a rest H7 s7 Y T7=>?_⟩⟩⟩⟩⟩⟩⟩
   have Z:=Fi (zs:=[]) (w:="ask") Y (s7 _ _ I) J O (by decide) (fun h=>absurd h (by decide)) T7 n0 (by decide) (fun h=>absurd h (by decide))
   exact q _ _ _ _ _ _ (S6.trans s7) Z
  ·refine⟨_,rfl,rfl,_,rfl,Af (by decide) ⟨_,rfl,rfl,_,rfl,Af (by decide) ⟨_,rfl,rfl,_,rfl,Af (by decide) ⟨_,rfl,rfl,_,rfl,Af (by decide) ⟨_,rfl,rfl,_,rfl,Af (by decide) ⟨_,rfl,rfl,_,rfl,Af (by decide) ⟨_,rfl,_,rfl,_,rfl,_,rfl,_,rfl,"has",q1,c,d,n,z1,e1,ys,rfl,.inr (.inr rfl),I,J,ig,BV,hsz,cx,cy,ln,l0,ny,fun a rest H7 s7 Y T7=>?_⟩⟩⟩⟩⟩⟩⟩
   have Z:=Fi (zs:=[]) (w:="has") Y (s7 _ _ I) J O (by decide) (fun h=>absurd h (by decide)) T7 n0 (by decide) (fun h=>absurd h (by decide))
   exact q _ _ _ _ _ _ (S6.trans s7) Z
  ·refine⟨_,rfl,rfl,_,rfl,Af (by decide) ⟨_,rfl,rfl,_,rfl,Ay (by decide) ⟨_,rfl,_,rfl,_,rfl,l,U,c,2,rfl,A_.of lE,List.length_pos_iff.mpr (cs (.inr (.inr rfl))),by decide,fun v N=>⟨Aq,fun a Y=>?_⟩⟩⟩⟩
   obtain⟨sp,xs,rfl,X,R,nx,lx⟩:=lF v N
   have L:=AG.new (o:=.tup [.str "lacks",.ref sp]) Y
   have Z:=Fi (zs:=[]) (w:="lacks") AE (L _ _ X) R lx (by decide) (fun _=>nx) (HZ.no (by decide)) n0 (by decide) (fun h=>absurd h (by decide))
   exact q _ _ _ _ _ _ (S6.trans L) Z
  ·refine⟨_,rfl,rfl,_,rfl,Af (by decide) ⟨_,rfl,rfl,_,rfl,Af (by decide) ⟨_,rfl,rfl,_,rfl,Af (by decide) ⟨_,rfl,rfl,_,rfl,Af (by decide) ⟨_,rfl,rfl,_,rfl,Af (by decide) ⟨_,rfl,rfl,_,rfl,Af (by decide) ⟨_,rfl,_,rfl,_,rfl,_,rfl,_,rfl,"is",q1,c,d,n,z1,e1,ys,rfl,.inr (.inl rfl),I,J,ig,BV,hsz,cx,cy,ln,l0,ny,fun a rest H7 s7 Y T7=>?_⟩⟩⟩⟩⟩⟩⟩
   have Z:=Fi (zs:=[]) (w:="is") Y (s7 _ _ I) J O (by decide) (fun h=>absurd h (by decide)) T7 n0 (by decide) (fun h=>absurd h (by decide))
   exact q _ _ _ _ _ _ (S6.trans s7) Z
end
end CJ
namespace CJ
open PySem L2
section
variable{P:Program} {w:World} {K:AAE} [BH K] {mg:Str->Option Value} {base:Heap}
theorem Om:An ["_law_doc_here","_law_number","_law_k","_law_name"] ["_law_doc_here","_law_number"] (AK E'):=⟨rfl,rfl,rfl,by decide+kernel,rfl,by decide+kernel,by decide+kernel⟩
theorem Sv {n:Nat} {f:Addr} {fd:FuncData} (F:EH K "_law_marked" "_law_marked" E' f fd) (T:Txt mg) (ND:Df P w K mg base "_law_marked" ["_law_doc_here","_law_number"] n (Fl n)) (VZ:mg "enumerate"=none):Bb P w K mg base Dk (n+1) f fd ["_law_doc_here","_law_number"] (Fl (n+1)):=by
 obtain⟨YT,YU,L,N,O,R⟩:=ND.ex
 refine F.ok Om (fun vs H Q E h=>?_) (fun Jg A outer s H vs Q E hr h=>?_)
 ·obtain⟨d,m,rfl,t,Y,gK,own,xM,bP,hsz,hm,q⟩:=h
  rfl
 ·obtain⟨d,m,rfl,t,Y,gK,own,xM,bP,hsz,hm,q⟩:=h
  have nd:=Om.nd
  have hu:=Be hr
  have D:Am n _:=hr.mono (by first|decide|omega)
  refine⟨_,(AD (Ag (Az (AL Ah rfl T.isinstance AR (AA (pv 0) (AA (Ao (v:=.ty "list") rfl T.list Ct rfl) AB)))) (AD (Cq (FD PySem.F.plainAttrs_list PySem.F.slot_list_append PySem.F.type_list_append Ds (pv 0) (AA AF AB)))
   (AD (DD PassesOwn.never rfl (DB rfl T.range (AA (AL AZ rfl T.len PySem.boot_len (AA (pv 0) AB)) AB)) (Bm (i:=2) nd rfl (Or.inl rfl)) (AI (Ou (AJ R D rfl O L N .nil AV (AA (AY (r:=Hn K) Cc (pv 0) (pv 2) (fun _ _=>rfl)) (AA (Aa Bh (Aa Bh (Aa Er (pv 1) AF) (pv 2)) AF) AB))) (TL (pv 0) (pv 2) set_list))))
   (AI (AO (pv 0))))) AQ)
   (AD (Ag (Az (AL Ah rfl T.isinstance AR (AA (pv 0) (AA (Ao (v:=.ty "dict") rfl T.dict Cu rfl) AB)))) (AD (Fo hu (pv 0) Ab AF rfl)
   (AD (DD PassesOwn.never rfl (VQ rfl VZ Ic (AA (AL (Et rfl) rfl T.sorted Js (AA (pv 0) AB)) AB)) (Ot rfl (EV (Bm (i:=2) nd rfl (Or.inl rfl)) (EV (Bm (i:=3) nd rfl (Or.inl rfl)) MA))) (AI (Fo hu (pv 0) (pv 3) (AJ R D rfl O L N .nil AV (AA (JG hu (pv 0) (pv 3) (fun _ _=>rfl)) (AA (Aa Bh (Aa Bh (Aa Er (pv 1) AF) (pv 2)) AF) AB))) rfl)))
   (AI (AO (pv 0))))) AQ)
   (AI (AO (Aa Bh (Aa Oy AF AF) (pv 1)))))),?_⟩
  cases d with
  |leaf v=>
   refine⟨_,rfl,_,"list",Dc.Iy (.leaf v),rfl,rfl,Dc.Dy t,_,rfl,Af (by cases v<;>rfl) ?_⟩
   refine⟨_,rfl,_,"dict",Dc.Iy (.leaf v),rfl,rfl,Dc.Dy t,_,rfl,Af (by cases v<;>rfl) ?_⟩
   exact⟨_,_,rfl,rfl,⟨by decide,by decide,by decide⟩,_,rfl,_,_,rfl,rfl,q (.leaf (.int (10 ^ 20+(m:Int)))) H (fun _ _ _ h=>h) (.inl ⟨_,rfl⟩) (fun b p=>nomatch p) (QD hm v)⟩
  |row a xs=>
   refine⟨_,rfl,_,"list",_,rfl,rfl,Dc.Dy t,_,rfl,Ay rfl ?_⟩
   simp only[Dc.At]at t
   simp only[Dc.ok]at Y
   simp only[Dc.addrs]at gK own
   simp only[Dc.size]at hsz
   have dp:=bP fun v z=>by cases z
   simp only[Dc.deep]at dp
   obtain⟨na,lK⟩:=List.nodup_cons.mp gK
   have ea:=t.1.exact (own a (by simp))
   have lx:=Dc.Es xs
   refine⟨_,rfl,.inl ⟨rfl,_,A_.of ea⟩,a,_,_,rfl,rfl,ea,Ar (by rw[List.length_map];omega),?_⟩
   obtain⟨g,lL⟩:∃g,g=xs++[zero]:=⟨_,rfl⟩
   have ev:xs.map Dc.val++[.int 0]=g.map Dc.val:=by rw[lL,List.map_append];rfl
   rw[ev]
   have Z:Sg xs g:=by rw[lL];exact Sg.snoc xs
   have l1:g.length=xs.length+1:=by rw[lL];simp
   have gL:a∉Dc.AH g:=fun z=>na (Z.sb.subset z)
   have gM:(Dc.AH g).Nodup:=lK.sublist Z.sb
   have o1:FW (a::Dc.AH xs) H (upd H a (.lst (g.map Dc.val))):=fun b o p h=>by rw[AN (fun z=>p (by rw[z];simp))];exact h
   have S:upd H a (.lst (g.map Dc.val)) a=some (.lst (g.map Dc.val)):=AE
   have kp:∀b o,b≠a->H b=some o->upd H a (.lst (g.map Dc.val)) b=some o:=fun b o p h=>by rw[AN p];exact h
   have I1:JC g (fun j=>if j<0 then some (j+1)else none) m (upd H a (.lst (g.map Dc.val))) g:=by
    refine Li (Dc.JR fun x U=>?_) (fun b p=>?_) fun j=>if_neg (Nat.not_lt_zero j)
    ·rcases Z.mem x U with U|rfl
     ·exact Dc.Bk x (fun b p o h=>kp b o (fun z=>na (by rw[<-z];exact Dc.BZ.mpr ⟨x,U,p⟩)) h) (Dc.CD t.2 x U)
     ·exact .inl ⟨_,rfl⟩
    ·have X:=Z.sb.subset p
     exact Bs (Dc.FV t.2 X) (own b (List.mem_cons_of_mem _ X)) fun o h=>kp b o (fun z=>na (by rw[<-z];exact X)) h
   generalize upd H a (.lst (g.map Dc.val))=H1 at o1 S I1⊢
   have ll:(g.map Dc.val).length=g.length:=List.length_map ..
   refine⟨_,rfl,a,_,rfl,.inl (A_.of S),_,rfl,by omega,by omega,Dr (lo:=0) (fun i σ G=>∃(B:List Dc) (o2 o3:Option V),σ=[some (.ref a),some (.int (m:Int)),o2,o3]/\FW (a::Dc.AH xs) H G/\G a=some (.lst (B.map Dc.val))/\JC g (fun j=>if j<i then some (j+1)else none) m G B)
    ⟨g,none,none,rfl,o1,S,I1⟩ ?_ ?_⟩
   ·rintro i σ G hi ⟨B,o2,o3,rfl,oi,C,I⟩
    have kq:i<g.length:=by rw[<-ll];omega
    obtain⟨x,U⟩:∃x,g[i]?=some x:=⟨_,AAA kq⟩
    have hw:=I.get U (if_neg (Nat.lt_irrefl i))
    have xm:=AAD U
    have e0:(0:Int)+(i:Int)=(i:Int):=Int.zero_add _
    have hv:NX (B.map Dc.val) (0+(i:Int))=some x.val:=by rw[e0];exact Cb (by rw[List.getElem?_map,hw];rfl)
    have en:((m:Int)*20+(0+(i:Int))+1)=((m*20+(i+1):Nat):Int):=by omega
    have c_:∀b∈x.addrs,b∈Dc.AH g:=fun b p=>Dc.BZ.mpr ⟨x,xm,p⟩
    have ax:a∉x.addrs:=fun z=>gL (c_ a z)
    refine⟨_,rfl,_,rfl,a,_,_,_,rfl,rfl,A_.of C,hv,_,rfl,_,_,rfl,rfl,.inr ⟨by decide,by decide⟩,_,rfl,_,_,rfl,rfl,_,_,rfl,rfl,x,m*20+(i+1),(by rw[<-en];rfl),Dc.CD I.at_ x (AAD hw),?_,?_,(fun b p=>I.own b (Dc.BZ.mpr ⟨x,AAD hw,p⟩)),by omega,(fun nl=>?_),?_,Qp hm (by omega),fun y H2 on lM bx M=>?_⟩
    ·rcases Z.mem x xm with h|rfl
     ·exact Dc.BC.mp Y x h
     ·exact .inl ⟨0,rfl,Nat.two_pow_pos 400⟩
    ·exact Dc.Fj gM xm
    ·rcases Z.mem x xm with h|rfl
     ·have:=Dc.Bf h
      omega
     ·exact absurd rfl (nl _)
    ·rcases Z.mem x xm with h|rfl
     ·have:=Dc.Bn h
      omega
     ·simp[Dc.size]
    ·have YV:=on a _ ax C
     have kh:Oo (B.map Dc.val).length (0+(i:Int))=some i:=by
      have lw:=I.len
      unfold Oo
      rw[if_pos (by omega),if_pos (by rw[List.length_map];omega)]
      congr 1
      omega
     refine⟨_,rfl,_,rfl,a,_,_,i,rfl,rfl,YV,kh,B.set i y,_,_,rfl,fun b o p h=>?_,by rw[AE,List.map_set],?_⟩
     ·rw[AN (fun z=>p (by rw[z];simp))]
      exact on b o (fun z=>p (List.mem_cons_of_mem _ (Z.sb.subset (c_ b z)))) (oi b o p h)
     ·exact I.step gL gM U (if_neg (Nat.lt_irrefl i)) on lM bx M (fun b o p h=>by rw[AN p];exact h) (if_pos (Nat.lt_succ_self i)) fun j hj=>by
       by_cases c:j<i
       ·rw[if_pos c,if_pos (by omega)]
       ·rw[if_neg c,if_neg (by omega)]
   ·rintro σ G ⟨B,o2,o3,rfl,oi,C,I⟩
    have el:((g.map Dc.val).length:Int).toNat=g.length:=by rw[ll];omega
    rw[el]at I
    have bz:∀b∈(Dc.row a B).addrs,∀o u,G b≠some (.CK o u):=fun b p=>by
     simp only[Dc.addrs,List.mem_cons]at p
     rcases p with rfl|p
     ·intro o u z;rw[C]at z;cases z
     ·exact I.own b p
    exact⟨_,rfl,q (.row a B) G oi (by simp only[Dc.At];exact⟨.inl C,I.at_⟩) bz (Xr I Z (by omega) fun j hj=>if_pos hj)⟩
  |tab a ks xs=>
   refine⟨_,rfl,_,"list",_,rfl,rfl,Dc.Dy t,_,rfl,Af rfl ?_⟩
   refine⟨_,rfl,_,"dict",_,rfl,rfl,Dc.Dy t,_,rfl,Ay rfl ?_⟩
   simp only[Dc.At]at t
   simp only[Dc.ok]at Y
   simp only[Dc.addrs]at gK own
   simp only[Dc.size]at hsz
   have dp:=bP fun v z=>by cases z
   simp only[Dc.deep]at dp
   obtain⟨na,lK⟩:=List.nodup_cons.mp gK
   have ea:=t.1.exact (own a (by simp))
   have lx:=Dc.Es xs
   refine⟨_,rfl,a,_,rfl,Iu.k (k:=Sum.inr "zzzzzzzz") ea (Ar (by rw[Dc.DR t.2.1];omega)),?_⟩
   obtain⟨l,g,ep,Z,ij,c',xN⟩:=VS t.2.1 t.2.2.1 "zzzzzzzz"
   rw[ep]
   have l1:=Z.len
   have f_:∀k∈l,BS k=true:=fun k hk=>by
    rcases xN k hk with h|rfl
    ·exact Y.1 k h
    ·exact bA
   have gL:a∉Dc.AH g:=fun z=>na (Z.sb.subset z)
   have gM:(Dc.AH g).Nodup:=lK.sublist Z.sb
   have o1:FW (a::Dc.AH xs) H (upd H a (.dK (Dc.kvs l g))):=fun b o p h=>by rw[AN (fun z=>p (by rw[z];simp))];exact h
   have S:upd H a (.dK (Dc.kvs l g)) a=some (.dK (Dc.kvs l g)):=AE
   have kp:∀b o,b≠a->H b=some o->upd H a (.dK (Dc.kvs l g)) b=some o:=fun b o p h=>by rw[AN p];exact h
   have I1:∀dn:Nat->Option Nat,(∀j,dn j=none)->JC g dn m (upd H a (.dK (Dc.kvs l g))) g:=fun dn xO=>by
    refine Li (Dc.JR fun x U=>?_) (fun b p=>?_) xO
    ·rcases Z.mem x U with U|rfl
     ·exact Dc.Bk x (fun b p o h=>kp b o (fun z=>na (by rw[<-z];exact Dc.BZ.mpr ⟨x,U,p⟩)) h) (Dc.CD t.2.2.2 x U)
     ·exact .inl ⟨_,rfl⟩
    ·have X:=Z.sb.subset p
     exact Bs (Dc.FV t.2.2.2 X) (own b (List.mem_cons_of_mem _ X)) fun o h=>kp b o (fun z=>na (by rw[<-z];exact X)) h
   generalize upd H a (.dK (Dc.kvs l g))=H1 at o1 S I1⊢
   have kk:=Dc.CZ (ks:=l) (xs:=g) ij
   have kl:(Dc.kvs l g).length=l.length:=(Dc.DR ij).trans ij.symm
   refine⟨_,rfl,a,_,l,rfl,.inl S,kk,by rw[kl];omega,fun p3 J H3 gB s3 Sr perm uA=>?_⟩
   have lN:J.Nodup:=perm.nodup_iff.mpr c'
   have pa:p3≠a:=fun z=>by rw[z,S]at gB;cases gB
   refine⟨p3,_,rfl,A_.of Sr,Sf (fun i σ G=>∃(B:List Dc) (o2 o3:Option V),σ=[some (.ref a),some (.int (m:Int)),o2,o3]/\FW (a::Dc.AH xs) H G/\G a=some (.dK (Dc.kvs l B))/\G p3=some (.lst (J.map V.str))/\JC g (a' l J i) m G B)
    ⟨g,none,none,rfl,fun b o p h=>s3 _ _ (o1 b o p h),s3 _ _ S,Sr,(I1 _ fun j=>by unfold a';split<;>simp).up s3⟩ (fun i σ G hi ⟨B,o2,o3,e,oi,C,h3,I⟩=>A_.of h3) ?_ ?_⟩
   ·rintro i nm σ G T Pq ⟨B,o2,o3,rfl,oi,C,h3,I⟩ hT
    obtain⟨k,hk,rfl⟩:∃k,J[i]?=some k/\V.str k=nm:=by
     rw[List.getElem?_map]at Pq
     cases e:J[i]? with
     |none=>rw[e]at Pq;cases Pq
     |some k=>rw[e]at Pq;exact⟨k,rfl,AAC Pq⟩
    have mk:k∈l:=perm.mem_iff.mp (AAD hk)
    have gk:=Dc.Dg mk
    have lj:=Dc.OC mk
    obtain⟨x,U⟩:∃x,g[Dc.ix l k]?=some x:=⟨_,AAA (by omega)⟩
    have xP:=fH lN hk
    have uI:a' l J i (Dc.ix l k)=none:=by unfold a';rw[gk];exact if_neg (by omega)
    have hw:=I.get U uI
    have xm:=AAD U
    have en:((m:Int)*20+(i:Int)+1)=((m*20+(i+1):Nat):Int):=by omega
    have c_:∀b∈x.addrs,b∈Dc.AH g:=fun b p=>Dc.BZ.mpr ⟨x,xm,p⟩
    have ax:a∉x.addrs:=fun z=>gL (c_ a z)
    have sT:=AG.new (o:=.tup [.int (i:Int),.str k]) hT
    have lw:=I.len
    have lO:l.length=B.length:=by omega
    have il:i<J.length:=(AAB hk).1
    have pl:=perm.length_eq
    refine⟨T,_,rfl,Ap.of AE,rfl,_,_,rfl,_,_,rfl,rfl,?_⟩
    have I':=I.up sT
    have b_:=sT _ _ C
    have uJ:=sT _ _ h3
    have uK:FW (a::Dc.AH xs) H (upd G T (.tup [.int (i:Int),.str k])):=fun b o p h=>sT _ _ (oi b o p h)
    generalize upd G T (.tup [.int (i:Int),.str k])=Hj at I' b_ uJ uK⊢
    have hv:BX (Dc.kvs l B) (Sum.inr k)=some x.val:=by rw[Dc.Cv lO,Dc.J_ l B _ c' gk hw];rfl
    refine⟨_,rfl,_,rfl,a,x.val,rfl,(by rw[<-hv];exact .inl ⟨_,Sum.inr k,.inl b_,rfl,rfl⟩),_,rfl,_,_,rfl,rfl,.inr ⟨by decide,by decide⟩,_,rfl,_,_,rfl,rfl,_,_,rfl,rfl,x,m*20+(i+1),(by rw[<-en];rfl),Dc.CD I'.at_ x (AAD hw),?_,?_,(fun b p=>I'.own b (Dc.BZ.mpr ⟨x,AAD hw,p⟩)),by omega,(fun nl=>?_),?_,Qp hm (by omega),fun y H2 on lM bx M=>?_⟩
    ·rcases Z.mem x xm with h|rfl
     ·exact Dc.BC.mp Y.2 x h
     ·exact .inl ⟨0,rfl,Nat.two_pow_pos 400⟩
    ·exact Dc.Fj gM xm
    ·rcases Z.mem x xm with h|rfl
     ·have:=Dc.Bf h
      omega
     ·exact absurd rfl (nl _)
    ·rcases Z.mem x xm with h|rfl
     ·have:=Dc.Bn h
      omega
     ·simp[Dc.size]
    ·have YV:=on a _ ax b_
     have xQ:p3∉x.addrs:=fun z=>by
      exact Dc.FV (I1 (fun _=>none) fun _=>rfl).at_ (c_ p3 z) gB
     have xR:putK (Dc.kvs l B) (Sum.inr k) y.val=Dc.kvs l (B.set (Dc.ix l k) y):=by
      rw[Dz,Dz,J' (by rw[List.length_map];exact lO) c' gk,List.map_set]
     refine⟨_,rfl,_,rfl,a,_,rfl,Iu.k (k:=Sum.inr k) YV (Ar (by rw[Dc.DR lO];omega)),?_⟩
     rw[xR]
     refine⟨B.set (Dc.ix l k) y,_,_,rfl,fun b o p h=>?_,AE,by rw[AN pa];exact on p3 _ xQ uJ,?_⟩
     ·rw[AN (fun z=>p (by rw[z];simp))]
      exact on b o (fun z=>p (List.mem_cons_of_mem _ (Z.sb.subset (c_ b z)))) (uK b o p h)
     ·refine I'.step gL gM U uI on lM bx M (fun b o p h=>by rw[AN p];exact h) (by unfold a';rw[gk];simp only[xP];exact if_pos (Nat.lt_succ_self i)) fun j hj=>?_
      unfold a'
      cases ej:l[j]? with
      |none=>rfl
      |some k'=>
       have ne:Dc.ix J k'≠i:=fun z=>by
        have g1:=Dc.Dg (perm.mem_iff.mpr (AAD ej))
        rw[z,hk]at g1
        cases g1
        exact hj (Dc.DT c' ej gk)
       simp only
       by_cases c:Dc.ix J k'<i
       ·rw[if_pos c,if_pos (by omega)]
       ·rw[if_neg c,if_neg (by omega)]
   ·rintro σ G ⟨B,o2,o3,rfl,oi,C,h3,I⟩
    have lw:=I.len
    have bz:∀b∈(Dc.tab a l B).addrs,∀o u,G b≠some (.CK o u):=fun b p=>by
     simp only[Dc.addrs,List.mem_cons]at p
     rcases p with rfl|p
     ·intro o u z;rw[C]at z;cases z
     ·exact I.own b p
    refine⟨_,rfl,q (.tab a l B) G oi (by simp only[Dc.At];exact⟨.inl C,by omega,c',I.at_⟩) bz (Xs I Z ij c' f_ perm (by omega) fun j k hk=>?_)⟩
    unfold a'
    rw[hk]
    have:=Dc.OC (perm.mem_iff.mpr (AAD hk))
    exact if_pos (by rw[List.length_map];exact this)
theorem Ki {f:Addr} {c:FuncData} (F:EH K "_law_marked" "_law_marked" E' f c) (T:Txt mg) (b:Binds K c ["_law_doc_here","_law_number"] []) (m:mg "_law_marked"=some (.ref f)) (a:mg "enumerate"=none):∀n:Nat,Bb P w K mg base Dk n f c ["_law_doc_here","_law_number"] (Fl n)
 |0=>UK (fun e H Q E h=>by obtain⟨d,m,_,_,_,_,_,g,_⟩:=h;omega)
 |n+1=>Sv F T (Df.mk' F b m (Ki F T b m a n)) a
end
end CJ
namespace CJ
open PySem L2
section
variable{P:Program} {w:World} {K:AAE} [BH K] {mg:Str->Option Value} {base:Heap}
theorem Q':An ["_law_doc_here","_law_seats_here","_law_path","_law_part_here"] ["_law_doc_here"] (AK IP):=⟨rfl,rfl,rfl,by decide+kernel,rfl,by decide+kernel,by decide+kernel⟩
theorem WE {f:Addr} {fd:FuncData} (F:EH K "_law_seats" "_law_seats" IP f fd) (T:Txt mg) (B:Df P w K mg base "_law_found" ["_law_doc_here","_law_path"] 1 C_) (C:Df P w K mg base "_law_paths" ["_law_doc_here","_law_ahead"] 61 (DZ 61)):Bb P w K mg base Dk 64 f fd ["_law_doc_here"] Mv:=by
 obtain⟨Ka,Kb,G,I,J,L⟩:=B.ex
 obtain⟨NA,NB,M,N,O,R⟩:=C.ex
 refine F.ok Q' (fun vs H Q E h=>?_) (fun Jg A outer s H vs Q E hr h=>?_)
 ·obtain⟨d,rfl,S,BV,hsz,q⟩:=h
  rfl
 ·obtain⟨d,rfl,S,BV,hsz,q⟩:=h
  have nd:=Q'.nd
  have hu:=Be hr
  have r:Am 1 _:=hr.mono (by first|decide|omega)
  have t:Am 61 _:=hr.mono (by first|decide|omega)
  refine⟨_,(AD (AX (i:=1) nd rfl (Or.inl rfl) FU)
   (AD (DD PassesOwn.never rfl (DQ (AJ R t rfl O M N .nil AV (AA (pv 0) (AA (BI AB) AB)))) (Bm (i:=2) nd rfl (Or.inl rfl)) (AD (AX (i:=3) nd rfl (Or.inl rfl) (AJ L r rfl J G I .nil AV (AA (pv 0) (AA (pv 2) AB))))
   (AI (Ag (De (Az (AL GO rfl T.isinstance AR (AA (pv 3) (AA (BI (AA (Ao (v:=.ty "list") rfl T.list Ct rfl) (AA (Ao (v:=.ty "dict") rfl T.dict Cu rfl) AB))) AB))))) (AI (Fo hu (pv 1) (pv 3) (Aa aB (Nf hu (pv 1) (pv 3) (BW AB) ⟨rfl,rfl,rfl,rfl⟩) (BW (AA (pv 2) AB))) rfl)) AQ))))
   (AI (AO (pv 1))))),?_⟩
  refine fun D hD=>?_
  have t1:=AG.new (o:=.dK []) hD
  have fD:upd H D (.dK []) D=some (.dK []):=AE
  generalize upd H D (.dK [])=H1 at t1 fD⊢
  refine⟨_,rfl,Nat.zero_le _,fun e0 YJ=>?_⟩
  have t2:=AG.new (o:=.tup []) YJ
  refine⟨d,e0,[],rfl,Dc.Ad (t1.trans t2) S,BV,Dc.Fp d (by omega),Nat.le_trans (Dc.Bo d) (by omega),AE,by simp;omega,fun p ps m H2 s2 np hp lp tu PQ=>?_⟩
  have gN:BY H2 ps m:=by
   have e:m.map (([]:List V)++·)=m:=by simp
   rw[e]at tu
   exact tu
  have lq:=gN.length
  have S2:AG H H2:=(t1.trans t2).trans s2
  have uL:H2 D=some (.dK []):=s2 _ _ (t2 _ _ fD)
  have pD:p≠D:=fun z=>by
   have:=t2 _ _ fD
   rw[<-z,np]at this
   cases this
  have YK:d.At H2:=Dc.Ad S2 S
  have dD:∀a∈d.addrs,a≠D:=fun a ha z=>Dc.there S ha (by rw[z];exact hD)
  refine⟨p,rfl,⟨_,A_.of hp⟩,EW (xs:=ps.map V.ref) (fun i σ U=>∃(o2 o3:Option V),σ=[some d.val,some (.ref D),o2,o3]/\(∀x o,x≠D->H2 x=some o->U x=some o)/\Dq U D d (m.take i))
   ⟨none,none,rfl,fun _ _ _ h=>h,[],uL,by simp,fun k=>.inl ⟨rfl,by simp[KW]⟩⟩ (fun i σ U _ ⟨_,_,_,k,_⟩=>A_.of (k _ _ pD hp)) ?_ ?_⟩
  ·rintro i x σ U n ⟨o2,o3,rfl,kp,kvs,xS,lk,SS⟩
   obtain⟨j,gC,rfl⟩:∃j,ps[i]?=some j/\V.ref j=x:=by
    rw[List.getElem?_map]at n
    cases e:ps[i]? with
    |none=>rw[e]at n;cases n
    |some k=>rw[e]at n;exact⟨k,rfl,AAC n⟩
   obtain⟨zs,hz,iF⟩:=gN.get gC
   have li:=(AAB hz).1
   have et:m.take (i+1)=m.take i++[zs]:=by rw[List.take_add_one,hz];rfl
   obtain⟨e,hs⟩:=Option.isSome_iff_exists.mp ((PQ.mem zs).mp (AAD hz))
   obtain⟨st,lz,_⟩:=Dc.Ef BV hs
   have cv:U j=some (.tup zs):=kp _ _ (Di iF uL (by intro z;cases z)) iF
   have Y:d.At U:=Dc.Bk d (fun a ha o h=>kp a o (dD a ha) h) YK
   have YW:=(Dc.BD.sub hs).at_ Y
   refine⟨_,rfl,_,rfl,d,j,zs,rfl,Y,cv,st,?_⟩
   rw[hs]
   dsimp only[KR]
   refine⟨_,rfl,Aq,fun g hg=>⟨e.val,g,e.Iy,rfl,AE,Dc.Dy (Dc.Ad (AG.new hg) YW),_,rfl,?_⟩⟩
   have sg:=AG.new (o:=.tup [.ty "list",.ty "dict"]) hg
   generalize upd U g (.tup [.ty "list",.ty "dict"])=Z at sg⊢
   have kj:∀x o,x≠D->H2 x=some o->Z x=some o:=fun x o n h=>sg _ _ (kp x o n h)
   have Sj:Dq Z D d (m.take i):=Dq.up ⟨kvs,xS,lk,SS⟩ sg
   have Kl:(∀y,Oa y (d.sub zs)=false)->Dq Z D d (m.take (i+1)):=fun hn=>by
    obtain⟨kv,h1,h2,h3⟩:=Sj
    refine⟨kv,h1,by rw[et,List.length_append];omega,fun k=>?_⟩
    have:=h3 k
    unfold Lj at this⊢
    rw[et,Oc,hn,if_neg Bool.false_ne_true,List.append_nil]
    exact this
   cases e with
   |row a X=>exact Au ⟨_,_,rfl,kj,Kl fun y=>by rw[hs];rfl⟩
   |tab a ks X=>exact Au ⟨_,_,rfl,kj,Kl fun y=>by rw[hs];rfl⟩
   |leaf v=>
    obtain⟨u,rfl⟩:=bB (show Dc.Lf v from YW)
    obtain⟨kv,h1,h2,h3⟩:=Sj
    refine Ay (by cases u<;>rfl) ?_
    refine⟨_,rfl,D,rfl,.inl ⟨_,.inl h1⟩,_,rfl,Nat.zero_le _,fun z bo=>?_⟩
    have sz:=AG.new (o:=.lst []) bo
    obtain⟨l,c,el,hl,lP⟩:∃(l:Addr) (c:List Addr),(BX kv u).getD (.ref z)=.ref l/\upd Z z (.lst []) l=some (.lst (c.map V.ref))/\BY (upd Z z (.lst [])) c (KW d (kV u) (m.take i)):=by
     rcases h3 u with⟨a1,a2⟩|⟨l,c,a1,a2,a3⟩
     ·exact⟨z,[],by rw[a1];rfl,AE,by rw[a2];exact .nil⟩
     ·exact⟨l,c,by rw[a1];rfl,sz _ _ a2,a3.up fun b X h=>sz _ _ h⟩
    refine⟨BX kv u,Gr.k (sz _ _ h1),?_⟩
    rw[el]
    have kz:∀x o,x≠D->H2 x=some o->upd Z z (.lst []) x=some o:=fun x o n h=>sz _ _ (kj x o n h)
    have cq:=sz _ _ h1
    have uM:=fun k=>(h3 k).up sz
    have uN:upd Z z (.lst []) j=some (.tup zs):=sz _ _ (sg _ _ cv)
    generalize upd Z z (.lst [])=Hk at hl lP kz cq uM uN⊢
    refine⟨_,rfl,CM,fun y hy=>?_⟩
    have sy:=AG.new (o:=.lst [.ref j]) hy
    have zw:c.length<=i:=by
     have:=lP.length
     unfold KW at this
     have f:=List.length_filter_le (fun q=>Oa (kV u) (d.sub q)) (m.take i)
     rw[List.length_take]at f
     omega
    have xT:m.length<=60:=by omega
    refine⟨l,y,_,_,rfl,rfl,sy _ _ hl,AE,BA (by simp;omega),fun l2 ip=>?_⟩
    have sl:=sy.trans (AG.new (o:=.lst (c.map V.ref++[.ref j])) ip)
    have cu:upd (upd Hk y (.lst [.ref j])) l2 (.lst (c.map V.ref++[.ref j])) l2=some (.lst (c.map V.ref++[.ref j])):=AE
    generalize upd (upd Hk y (.lst [.ref j])) l2 (.lst (c.map V.ref++[.ref j]))=Hl at sl cu⊢
    have bM:=sl _ _ cq
    have lD:l2≠D:=Di cu bM (by intro z;cases z)
    refine⟨_,rfl,_,rfl,D,_,rfl,L2.Iu.k (k:=u) bM (Ar (by rw[List.length_take]at h2;omega)),_,_,rfl,fun x o n h=>by rw[AN n];exact sl _ _ (kz x o n h),putK kv u (.ref l2),AE,?_,fun k=>?_⟩
    ·have:=VT kv u (.ref l2)
     rw[et,List.length_append]
     simp only[List.length_singleton]
     omega
    ·have nD:∀{b:Addr} {X:List V},Hl b=some (.tup X)->upd Hl D (.dK (putK kv u (.ref l2))) b=some (.tup X):=fun h=>by rw[AN (Di h bM (by intro z;cases z))];exact h
     unfold Lj
     rw[Td,et,Oc]
     by_cases ck:k=u
     ·subst ck
      refine .inr ⟨l2,c++[j],by rw[if_pos rfl],by rw[AN lD,cu,List.map_append];rfl,?_⟩
      rw[if_pos (by rw[hs];exact decide_eq_true rfl)]
      exact((lP.up fun b X h=>sl _ _ h).append (.cons (sl _ _ uN) .nil)).up fun b X h=>nD h
     ·rw[if_neg ck,if_neg (by rw[hs];intro z;exact ck (aD (of_decide_eq_true z)).symm),List.append_nil]
      rcases uM k with h|⟨l',Vp,a1,a2,a3⟩
      ·exact .inl h
      ·exact .inr ⟨l',Vp,a1,by rw[AN (Di a2 cq (by intro z;cases z))];exact sl _ _ a2,(a3.up fun b X h=>sl _ _ h).up fun b X h=>nD h⟩
  ·rintro σ U ⟨o2,o3,rfl,kp,SS⟩
   rw[List.length_map,lq,List.take_length]at SS
   exact⟨_,rfl,q D m U (fun x o h=>kp x o (fun z=>by rw[z,hD]at h;cases h) (S2 _ _ h)) SS PQ (by omega)⟩
end
end CJ
namespace CJ
open PySem L2
section
variable{P:Program} {w:World} {K:AAE} [BH K] {mg:Str->Option Value} {base:Heap}
theorem Ii:An ["_law_path","_law_leaf_here","_law_row_here","_law_seats_here","_law_found_here","_law_due"] ["_law_path","_law_leaf_here","_law_row_here","_law_seats_here"] (AK DP):=⟨rfl,rfl,rfl,by decide+kernel,rfl,by decide+kernel,by decide+kernel⟩
theorem NF {f:Addr} {fd:FuncData} (F:EH K "_law_leaf_right" "_law_leaf_right" DP f fd) (T:Txt mg) (J:Df P w K mg base "after" ["path","row"] 7 JN):Bb P w K mg base Dk 12 f fd ["_law_path","_law_leaf_here","_law_row_here","_law_seats_here"] Mw:=by
 obtain⟨cA,cB,M,N,O,S⟩:=J.ex
 refine F.ok Ii (fun vs H Q E h=>?_) (fun Jg A outer s H vs Q E hr h=>?_)
 ·obtain⟨t,q0,y,r,Y,xs,m,p,D,d,u,rfl,ht,sq,lq,bg,R,SS,PQ,lQ,WQ,SP,q⟩:=h
  rfl
 ·obtain⟨t,q0,y,r,Y,xs,m,p,D,d,u,rfl,ht,sq,lq,bg,R,SS,PQ,lQ,WQ,SP,q⟩:=h
  have nd:=Ii.nd
  have hu:=Be hr
  have x:Am 7 _:=hr.mono (by first|decide|omega)
  refine⟨_,(AD (AX (i:=4) nd rfl (Or.inl rfl) (AJ S x rfl O M N .nil AV (AA (pv 0) (AA (pv 2) AB))))
   (AD (AX (i:=5) nd rfl (Or.inl rfl) (Nf hu (pv 3) (pv 1) (BW AB) ⟨rfl,rfl,rfl,rfl⟩))
   (AD (Ag (AM Bj (AY (r:=Ax K) AW (pv 2) AF (fun _ _=>rfl)) Ab (AS _)) (AI (GJ (i:=5) (fv:=["_law_row_here"]) (fs:=[2]) rfl (.of (by rfl)) nd rfl (Or.inl rfl) (DQ (pv 5)) (fun C s0 H0 fp=>JH (AM (MY (Am.Cg hr):Ep _ _ (OE K)) (BN CP (pv 0) Bv (Bd (AL (AZ:EX _ _ (FQ K)) rfl T.len PySem.boot_len (AA (AY (r:=Ax K) AW (pv 1) AF (fun _ _=>rfl)) AB)))) (AY (r:=Ax K) AW (pv 1) AF (fun _ _=>rfl)) (AS _))) (fun C s0 H0 fp=>(pv 0)))) AQ)
   (AD (Ag (AM (PL (Am.Cg hr)) (pv 5) (BW AB) (AS _)) (AI (AO (Cr JX (pv 4) Bg (AS _)))) AQ)
   (AI (AO (Hb (AL Ah rfl T.isinstance AR (AA (pv 4) (AA (Ao (v:=.ty "tuple") rfl T.tuple G_ rfl) AB))) (GI (Cr (aY (Am.units hr)) (pv 5) (BW (AA (pv 4) AB)) (AS _)))))))))),?_⟩
  obtain⟨a,rest,rfl,ha,T3⟩:=R.th
  have Rr:=R.rw
  refine⟨_,rfl,_,rfl,t,q0,_,Y,xs,m,p,rfl,ht,sq,by omega,Rr,fun fv H1 s1 af=>?_⟩
  obtain⟨kvs,hD,lk,SK⟩:=SS.up s1
  obtain⟨i,rfl,_⟩:=bg
  refine⟨_,rfl,D,rfl,.inl ⟨_,.inl hD⟩,_,rfl,Nat.zero_le _,fun z U=>⟨BX kvs (Sum.inl i),Gr.k (k:=Sum.inl i) (AG.new U _ _ hD),?_⟩⟩
  have sz:=AG.new (o:=.lst []) U
  obtain⟨l,X,el,hl,tu⟩:∃(l:Addr) (X:List Addr),(BX kvs (Sum.inl i)).getD (.ref z)=.ref l/\upd H1 z (.lst []) l=some (.lst (X.map V.ref))/\BY (upd H1 z (.lst [])) X (KW d (.int i) u):=by
   rcases SK (Sum.inl i)with⟨a1,a2⟩|⟨l,c,a1,a2,a3⟩
   ·exact⟨z,[],by rw[a1];rfl,AE,by rw[show KW d (.int i) u=[]from a2];exact .nil⟩
   ·exact⟨l,c,by rw[a1];rfl,sz _ _ a2,(a3:BY H1 c (KW d (.int i) u)).up fun b Z h=>sz _ _ h⟩
  rw[el]
  have s2:=s1.trans sz
  have zx:X.length<=60:=by
   have:=tu.length
   have f:=List.length_filter_le (fun q=>Oa (.int i) (d.sub q)) u
   unfold KW at this
   omega
  have B:KQ (upd H1 z (.lst [])) fv (BE Y xs m q0):=by
   cases e:BE Y xs m q0 with
   |none=>rw[e]at af;exact af
   |some Z=>rw[e]at af;obtain⟨b,h1,h2⟩:=af;exact⟨b,h1,sz _ _ h2⟩
  generalize upd H1 z (.lst [])=H2 at s2 hl tu B⊢
  have YV:=s2 _ _ ha
  have T2:=T3.up s2
  dsimp only[EU]
  refine D' (t:=L' _ _ _) (fun σ H'=>∃(l2:Addr) (Vp:List Addr),σ=[some (.ref t),some (.int i),some (.ref a),some (.ref D),some fv,some (.ref l2)]/\AG H2 H'/\H' l2=some (.lst (Vp.map V.ref))/\BY H' Vp ((KW d (.int i) u).filter (FJ Y m))) (fun σ' H3 z=>?_) (fun k=>?_)
  rotate_left
  ·refine⟨_,rfl,a,_,0,_,rfl,rfl,Ap.of YV,HY,rfl,_,rfl,?_⟩
   refine CG (fun h=>?_) (fun h=>k _ _ ⟨l,X,rfl,AG.refl _,hl,?_⟩)
   ·have hw:Y="copy":=V.str.inj (of_decide_eq_true h)
    subst hw
    obtain⟨p2,rfl,Ls⟩:=T2.cm (.inl rfl)
    have fz:∀z∈m,BR z=true:=fun z U=>(Rr.sz z U).flat
    refine⟨_,rfl,l,rfl,⟨_,A_.of hl⟩,MX X.length (fun i=>(X.map V.ref).getD i .BL) (fun D j Hj=>AG H2 Hj/\∃c:List Addr,Hj D=some (.lst (c.map V.ref))/\c.length<=j/\BY Hj c (((KW d (.int i) u).take j).filter (FJ "copy" m)))
     (fun D hD=>⟨AG.new hD,[],AE,Nat.le_refl _,.nil⟩) (fun D j Hj hj ⟨s,_⟩=>⟨_,_,A_.of (s _ _ hl),AAA (by simp;omega)⟩) (fun D j Hj v H' hj ⟨s,_⟩ y=>?_) (fun D Hj ⟨s,_⟩=>⟨_,A_.of (s _ _ hl),by simp⟩) (fun D j Hj hD hj ⟨s,c,fD,cw,G⟩=>?_) (fun D Hj hD ⟨s,c,fD,cw,G⟩=>?_)⟩
    ·obtain⟨e,y⟩:=y
     refine⟨?_,e⟩
     rw[List.getD_eq_getElem?_getD,y _ (A_.of (s _ _ hl))]
     rfl
    ·obtain⟨pj,uO⟩:∃pj,X[j]?=some pj:=⟨_,AAA hj⟩
     obtain⟨qj,uP,uQ⟩:=tu.get uO
     have ek:(X.map V.ref).getD j .BL=.ref pj:=by rw[List.getD_eq_getElem?_getD,List.getElem?_map,uO];rfl
     have et:(KW d (.int i) u).take (j+1)=(KW d (.int i) u).take j++[qj]:=by rw[List.take_add_one,uP];rfl
     have uR:steps qj:=by
      have hm:=AAD uP
      unfold KW at hm
      have:=Ob.mp (List.mem_filter.mp hm).2
      exact IE WQ this
     rw[ek]
     refine⟨_,rfl,_,rfl,a,_,2,_,rfl,rfl,Ap.of (s _ _ YV),at2,p2,_,rfl,.inr (Ap.of (s _ _ Ls)),_,rfl,pj,_,rfl,s _ _ uQ,fun g H4 n uS=>?_⟩
     rw[JI]at uS
     refine⟨_,rfl,a,_,2,_,rfl,rfl,Ap.of (n _ _ (s _ _ YV)),at2,g,p2,_,m,rfl,rfl,Ap.of uS,Ap.of (n _ _ (s _ _ Ls)),(fun z U=>(uR z (List.mem_of_mem_take U)).flat),fz,_,rfl,?_⟩
     have pt:=pre_take Rr.sz uR
     cases ce:Bz (qj.take m.length) m with
     |true=>
      refine Au ⟨s.trans n,c,n _ _ fD,by omega,?_⟩
      rw[et,List.filter_append]
      have:FJ "copy" m qj=false:=by
       have hp:=pt.mp ce
       unfold FJ
       simp[hp]
      rw[List.filter_cons_of_neg (by rw[this];exact Bool.false_ne_true)]
      rw[List.filter_nil,List.append_nil]
      exact G.up fun b Z h=>n _ _ h
     |false=>
      refine BO ⟨_,rfl,_,n _ _ fD,Ar (by rw[List.length_map];omega),(s.trans n).put hD,c++[pj],by rw[AE,List.map_append];rfl,by simp;omega,?_⟩
      rw[et,List.filter_append]
      have:FJ "copy" m qj=true:=by
       have hp:¬m<+:qj:=fun z=>by rw[pt.mpr z]at ce;cases ce
       unfold FJ
       simp[hp]
      rw[List.filter_cons_of_pos this,List.filter_nil]
      have nD:∀b Z,H4 b=some (.tup Z)->upd H4 D (.lst (c.map V.ref++[.ref pj])) b=some (.tup Z):=fun b Z h=>by rw[AN (Di h (n _ _ fD) (by intro z;cases z))];exact h
      exact((G.up fun b Z h=>n _ _ h).append (.cons (n _ _ (s _ _ uQ)) .nil)).up nD
    ·rw[tu.length,List.take_length]at G
     exact k _ _ ⟨D,c,rfl,s,fD,G⟩
   ·have e:(KW d (.int i) u).filter (FJ Y m)=KW d (.int i) u:=List.filter_eq_self.mpr fun q _=>Lk.mpr fun hc=>absurd (by rw[hc];rfl) h
    rw[e]
    exact tu
  obtain⟨l2,Vp,rfl,s3,ip,gN⟩:=z
  rw[bC PQ SP]at gN
  refine⟨_,rfl,Nat.zero_le _,fun z U=>⟨l2,z,_,rfl,rfl,A_.of (AG.new U _ _ ip),A_.of AE,_,rfl,?_⟩⟩
  have n:=AG.new (o:=.lst []) U
  have uT:=n _ _ ip
  have I:=gN.up fun b Z h=>n _ _ h
  generalize upd H3 z (.lst [])=H4 at n uT I⊢
  have s24:=s3.trans n
  cases ea:BE Y xs m q0 with
  |none=>
   rw[ea]at I B
   cases I
   refine BO ⟨_,rfl,rfl,?_⟩
   rw[show fv=V.BL from B]
   exact q _ (s2.trans s24)
  |some q'=>
   rw[ea]at I B
   obtain⟨b,rfl,hb⟩:=B
   have xU:steps q':=IE WQ ((SP q').mpr ea).1
   cases I with
   |@cons pz _ _ _ kn tn=>
   cases tn
   have bL:=s24 _ _ hb
   refine Au ⟨_,rfl,_,"tuple","tuple",rfl,rfl,.tup bL,_,rfl,BO ?_⟩
   refine⟨_,rfl,_,rfl,CM,fun L hL=>?_⟩
   have sL:=AG.new (o:=.lst [.ref b]) hL
   exact⟨l2,L,_,_,rfl,rfl,A_.of (sL _ _ uT),A_.of AE,.cons (Xd (sL _ _ kn) (sL _ _ bL) xU) .nil,q _ ((s2.trans s24).trans sL)⟩
end
end CJ
namespace CJ
open PySem L2
section
variable{P:Program} {w:World} {K:AAE} [BH K] {mg:Str->Option Value} {base:Heap}
theorem GH:An ["_law_path","_law_part_here","_law_row_here","_law_found_here","_law_steps","_law_step","_law_told"] ["_law_path","_law_part_here","_law_row_here"] (AK CW):=⟨rfl,rfl,rfl,by decide+kernel,rfl,by decide+kernel,by decide+kernel⟩
theorem Kj {f:Addr} {fd:FuncData} (F:EH K "_law_holder_right" "_law_holder_right" CW f fd) (T:Txt mg) (I:Df P w K mg base "after" ["path","row"] 7 JN):Bb P w K mg base Dk 12 f fd ["_law_path","_law_part_here","_law_row_here"] IG:=by
 obtain⟨cA,cB,u,x,B,C⟩:=I.ex
 refine F.ok GH (fun Z H Q E h=>?_) (fun Jg A outer s H Z Q E J h=>?_)
 ·obtain⟨t,m,e,r,X,xs,zs,p,rfl,ht,Y,lq,nl,Oi,BV,hsz,R,q⟩:=h
  rfl
 ·obtain⟨t,m,e,r,X,xs,zs,p,rfl,ht,Y,lq,nl,Oi,BV,hsz,R,q⟩:=h
  have nd:=GH.nd
  have hu:=Be J
  have j:Am 7 _:=J.mono (by first|decide|omega)
  refine⟨_,(AD (AX (i:=3) nd rfl (Or.inl rfl) (AJ C j rfl B u x .nil AV (AA (pv 0) (AA (pv 2) AB))))
   (AD (Ag (PW.pt (pw_and (AM Bj (AY (r:=Ax K) AW (pv 2) AF (fun _ _=>rfl)) Ab (AS _)) (pw_and1 (AM (Hu (Am.Cg J)) (pv 0) (AY (r:=Ax K) AW (pv 2) AF (fun _ _=>rfl)) (AS _))))) (AI (AO (Hb (AL Ah rfl T.isinstance AR (AA (pv 3) (AA (Ao (v:=.ty "tuple") rfl T.tuple G_ rfl) AB))) (GI (Cr (Hu (Am.Cg J)) (pv 3) (AY (r:=Ax K) AW (pv 2) AF (fun _ _=>rfl)) (AS _)))))) AQ)
   (AD (Ag (PW.pt (pw_and (AM (DE:Ep _ _ (WK K false)) (AY (r:=Ax K) AW (pv 2) AF (fun _ _=>rfl)) (BW (AA Ab (AA Ab AB))) rfl) (pw_and1 (AM (Hu (Am.Cg J)) (BN CP (pv 0) Bv (Bd (AL AZ rfl T.len PySem.boot_len (AA (AY (r:=Ax K) AW (pv 2) AF (fun _ _=>rfl)) AB)))) (AY (r:=Ax K) AW (pv 2) AF (fun _ _=>rfl)) (AS _))))) (AI (AO (Cr JX (pv 3) Bg (AS _)))) AQ)
   (AD (AX (i:=4) nd rfl (Or.inl rfl) (NL (Az (AL Ah rfl T.isinstance AR (AA (pv 1) (AA (Ao (v:=.ty "dict") rfl T.dict Cu rfl) AB)))) (AL (Et rfl) rfl T.sorted Js (AA (pv 1) AB)) (EZ (Kt rfl) rfl T.list Ct (AA (UO rfl T.range (AA (AL AZ rfl T.len PySem.boot_len (AA (pv 1) AB)) AB)) AB))))
   (AD (DD PassesOwn.never rfl (DQ (pv 4)) (Bm (i:=5) nd rfl (Or.inl rfl)) (AD (AX (i:=6) nd rfl (Or.inl rfl) (BI AB))
   (AI (Ag (AM (MY (Am.Cg J)) (Aa Dn (pv 0) (BI (AA (pv 5) AB))) (AY (r:=Ax K) AW (pv 2) AF (fun _ _=>rfl)) (AS _)) (AD (AX (i:=6) nd rfl (Or.inl rfl) (AJ C j rfl B u x .nil AV (AA (Aa Dn (pv 0) (BI (AA (pv 5) AB))) (AA (pv 2) AB))))
   (AI (Ag (PW.pt (pw_or (De (Az (AL Ah rfl T.isinstance AR (AA (pv 6) (AA (Ao (v:=.ty "tuple") rfl T.tuple G_ rfl) AB))))) (pw_or1 (AM (MY (Am.Cg J)) (BN CP (pv 6) Bv (Bd (Cm CA AF))) (pv 3) (AS _))))) (AI (AO NK)) AQ))) AQ))))
   (AI (AO (AL Ah rfl T.isinstance AR (AA (pv 3) (AA (Ao (v:=.ty "tuple") rfl T.tuple G_ rfl) AB)))))))))),?_⟩
  obtain⟨a,rest,rfl,ha,T3⟩:=R.th
  have D:=R.rw
  have fx:∀z∈xs,BR z=true:=fun z G=>(D.sx z G).flat
  have fz:∀z∈zs,BR z=true:=fun z G=>(D.sz z G).flat
  have fq:∀z∈m,BR z=true:=fun z G=>(Y z G).flat
  refine⟨_,rfl,_,rfl,t,m,_,X,xs,zs,p,rfl,ht,Y,by omega,D,fun fv H1 s1 af=>?_⟩
  dsimp only[EU]
  refine D' (t:=L' _ _ _) (fun n H'=>n=[some (.ref t),some e.val,some (.ref a),some fv,none,none,none]/\AG H1 H') (fun σ' H2 z=>?_) (fun k=>?_)
  rotate_left
  ·have TC:=s1 _ _ ha
   have T1:=T3.up s1
   refine⟨_,rfl,a,_,0,_,rfl,rfl,Ap.of TC,HY,rfl,_,rfl,?_⟩
   refine CG (fun h=>?_) (fun h=>Au (k _ _ ⟨rfl,AG.refl _⟩))
   have hw:X="move":=V.str.inj (of_decide_eq_true h)
   subst hw
   obtain⟨p2,rfl,Ls⟩:=T1.cm (.inr rfl)
   refine⟨_,rfl,_,rfl,a,_,1,_,rfl,rfl,Ap.of TC,GD,t,p,m,xs,rfl,rfl,Ap.of (s1 _ _ ht),Ap.of (s1 _ _ D.hp),fq,fx,_,rfl,?_⟩
   cases L:Bz m xs with
   |false=>exact Au (k _ _ ⟨rfl,AG.refl _⟩)
   |true=>
    have uU:=FX Y D.sx L
    have ea:BE "move" xs zs m=some zs:=by
     unfold BE
     rw[if_neg fun z=>absurd z.1 (by decide),if_pos ⟨rfl,by rw[uU];exact List.prefix_refl _⟩,uU,List.drop_length,List.append_nil]
    rw[ea]at af
    obtain⟨b,rfl,hb⟩:=af
    refine BO ⟨_,rfl,_,"tuple","tuple",rfl,rfl,.tup hb,_,rfl,BO ?_⟩
    refine⟨_,rfl,_,rfl,a,_,2,_,rfl,rfl,Ap.of TC,at2,b,p2,zs,zs,rfl,rfl,Ap.of hb,Ap.of Ls,fz,fz,?_⟩
    rw[KX fz]
    exact q _ s1
  obtain⟨rfl,s12⟩:=z
  have s2:=s1.trans s12
  have YV:=s2 _ _ ha
  have lR:=KQ.up (o:=BE X xs zs m) af s12
  refine D' (t:=L' _ _ _) (fun n H'=>n=[some (.ref t),some e.val,some (.ref a),some fv,none,none,none]/\AG H2 H'/\¬(FA (.str X) [.str "take",.str "change"]=true/\xs<+:m)) (fun σ' H3 z=>?_) (fun k=>?_)
  rotate_left
  ·refine⟨_,rfl,a,_,0,_,rfl,rfl,Ap.of YV,HY,Aq,fun g hg=>⟨g,_,rfl,.inl (A_.of AE),rfl,rfl,_,rfl,?_⟩⟩
   have sg:=AG.new (o:=.lst [.str "take",.str "change"]) hg
   generalize upd H2 g (.lst [.str "take",.str "change"])=Hg at sg⊢
   refine Ia (fun b=>?_) (fun b=>Au (k _ _ ⟨rfl,sg,fun z=>by rw[b]at z;exact Bool.false_ne_true z.1⟩))
   have M:=s2.trans sg
   refine⟨_,rfl,_,rfl,a,_,1,_,rfl,rfl,Ap.of (M _ _ ha),GD,p,_,rfl,.inr (Ap.of (M _ _ D.hp)),_,rfl,t,_,rfl,M _ _ ht,fun g4 H4 s4 N=>?_⟩
   rw[JI]at N
   have s24:=M.trans s4
   refine⟨_,rfl,a,_,1,_,rfl,rfl,Ap.of (s24 _ _ ha),GD,g4,p,_,xs,rfl,rfl,Ap.of N,Ap.of (s24 _ _ D.hp),(fun z G=>fq z (List.mem_of_mem_take G)),fx,_,rfl,?_⟩
   refine Ul (fun L=>?_) (fun L=>k _ _ ⟨rfl,sg.trans s4,fun z=>by rw[(pre_take D.sx Y).mpr z.2]at L;cases L⟩)
   have ea:BE X xs zs m=none:=by
    unfold BE
    rw[if_pos ⟨b,(pre_take D.sx Y).mp L⟩]
   rw[ea]at lR
   refine⟨_,rfl,rfl,?_⟩
   rw[show fv=V.BL from lR]
   exact q _ s24
  obtain⟨rfl,s23,nn⟩:=z
  obtain⟨q',ea⟩:=QF (zs:=zs) nn
  have lS:=QE Y D.sz ea
  have uV:=KQ.up (o:=BE X xs zs m) lR s23
  rw[ea]at uV
  obtain⟨b,rfl,hb⟩:=uV
  have s3:=s2.trans s23
  have d:=Dc.Ad s3 Oi
  refine D' (t:=Zm _ _) (fun n H'=>∃(S:Addr) (Z:List V),n=[some (.ref t),some e.val,some (.ref a),some (.ref b),some (.ref S),none,none]/\AG H3 H'/\H' S=some (.lst Z)/\steps Z/\Z.length<=60) (fun σ' H4 z=>?_) (fun k=>?_)
  rotate_left
  ·cases e with
   |leaf v=>exact absurd rfl (nl v)
   |row a2 ys=>
    refine⟨_,rfl,_,"dict",_,rfl,rfl,Dc.Dy d,_,rfl,Au ?_⟩
    simp only[Dc.At]at d
    simp only[Dc.size]at hsz
    have:=Dc.Es ys
    refine⟨_,rfl,a2,_,rfl,.inl (.inl d.1),_,rfl,fun r J=>?_⟩
    refine⟨r,ys.length,rfl,by rw[AE,List.length_map],by omega,fun l hl=>k _ _ ⟨l,_,rfl,(AG.new J).trans (AG.new hl),AE,fun z G=>?_,by simp;omega⟩⟩
    obtain⟨i,_,rfl⟩:=List.mem_map.mp G
    exact .inl ⟨i,rfl⟩
   |tab a2 ks ys=>
    refine⟨_,rfl,_,"dict",_,rfl,rfl,Dc.Dy d,_,rfl,BO ?_⟩
    simp only[Dc.At]at d
    simp only[Dc.size]at hsz
    simp only[Dc.ok]at BV
    have:=Dc.Es ys
    have kk:=Dc.CZ (ks:=ks) (xs:=ys) d.2.1
    have kl:=Dc.DR (ks:=ks) (xs:=ys) d.2.1
    refine⟨_,rfl,a2,_,ks,rfl,d.1,kk,by rw[kl];omega,fun l zy H' np s hl perm uA=>k _ _ ⟨l,_,rfl,s,hl,fun z G=>?_,by rw[List.length_map,perm.length_eq,d.2.1];omega⟩⟩
    obtain⟨i,hi,rfl⟩:=List.mem_map.mp G
    exact .inr ⟨i,rfl,BV.1 i (perm.mem_iff.mp hi)⟩
  obtain⟨S,Z,rfl,s34,hS,sv,lv⟩:=z
  have s4:=s3.trans s34
  have bL:=s34 _ _ hb
  refine⟨_,rfl,S,rfl,⟨_,A_.of hS⟩,EW (xs:=Z) (fun i n Hi=>∃o5 o6:Option V,n=[some (.ref t),some e.val,some (.ref a),some (.ref b),some (.ref S),o5,o6]/\AG H4 Hi) ⟨none,none,rfl,AG.refl _⟩ (fun i n Hi _ ⟨_,_,_,s⟩=>A_.of (s _ _ hS)) ?_ ?_⟩
  ·rintro i z n Hi G ⟨o5,o6,rfl,si⟩
   have xV:=sv z (AAD G)
   have xW:=s4.trans si
   refine⟨Nat.zero_le _,fun g0 uW=>?_⟩
   have lT:=xW.trans (AG.new (o:=.tup []) uW)
   have s0:=si.trans (AG.new (o:=.tup []) uW)
   generalize upd Hi g0 (.tup [])=Ha at lT s0⊢
   have lU:steps (m++[z]):=fun y O=>by
    rcases List.mem_append.mp O with O|O
    ·exact Y y O
    ·rw[List.mem_singleton.mp O];exact xV
   have cat:∀(n:St) (Hx:Hp) (Qx:VK),AG H Hx->n[0]?=some (some (.ref t))->n[5]?=some (some z)->(∀g Hy,AG Hx Hy->Hy g=some (.tup (m++[z]))->Qx (.ref g) Hy)->WJ Yv (JW 0) (df (Jb (JW 5) Wc)) n Hx Qx:=fun n Hx Qx sx e0 e5 kx=>by
    refine⟨_,e0,_,e5,CM,fun g1 gE=>?_⟩
    have uX:=AG.new (o:=.tup [z]) gE
    exact⟨t,g1,m,[z],rfl,rfl,uX _ _ (sx _ _ ht),AE,BA (by simp;omega),fun g2 Hy sy O=>kx g2 Hy (uX.trans sy) O⟩
   refine cat _ _ _ lT rfl rfl fun g2 H5 s5 YS=>?_
   have U:=lT.trans s5
   refine⟨_,rfl,a,_,1,_,rfl,rfl,Ap.of (U _ _ ha),GD,g2,p,_,xs,rfl,rfl,Ap.of YS,Ap.of (U _ _ D.hp),(fun y O=>(lU y O).flat),fx,_,rfl,?_⟩
   cases L:Bz (m++[z]) xs with
   |true=>exact Au ⟨_,_,rfl,s0.trans s5⟩
   |false=>
    have ne:m++[z]≠xs:=fun h=>by rw[(Ek lU D.sx).mpr h]at L;cases L
    obtain⟨t',et,ed,nt⟩:=Pu (s:=z) ne ea
    refine BO (cat _ _ _ U rfl rfl fun g4 H6 s6 N=>?_)
    have s06:=U.trans s6
    refine⟨_,rfl,g4,m++[z],_,X,xs,zs,p,rfl,N,lU,by simp;omega,D.up s06,fun tv H7 s7 cz=>?_⟩
    rw[et]at cz
    obtain⟨c,rfl,hc⟩:=cz
    obtain⟨us,lw,rfl⟩:∃us lw,t'=us++[lw]:=⟨t'.dropLast,t'.getLast nt,(List.dropLast_concat_getLast nt).symm⟩
    rw[List.dropLast_concat]at ed
    subst ed
    refine⟨_,rfl,_,"tuple","tuple",rfl,rfl,.tup hc,_,rfl,Au ?_⟩
    refine⟨_,rfl,_,rfl,_,rfl,c,_,rfl,hc,fun g5 H8 s8 uY=>?_⟩
    rw[CQ]at uY
    have s48:=(((s0.trans s5).trans s6).trans s7).trans s8
    refine⟨_,rfl,g5,b,us,us,rfl,rfl,Ap.of uY,Ap.of (s48 _ _ bL),lS,lS,_,rfl,?_⟩
    rw[KX lS]
    exact Au ⟨_,_,rfl,s48⟩
  ·rintro n Hi ⟨o5,o6,rfl,si⟩
   exact⟨_,rfl,_,"tuple","tuple",rfl,rfl,.tup (si _ _ bL),q _ (s4.trans si)⟩
end
end CJ
namespace CJ
open PySem L2
section
variable{P:Program} {w:World} {K:AAE} [BH K] {mg:Str->Option Value} {base:Heap}
theorem ZZ:An ["_law_script","_law_names_here","_law_doc_here","_law_k","_law_row_here","_law_became","_law_seats_here","_law_path","_law_part_here","_law_held"] ["_law_script"] (AK Mx):=⟨rfl,rfl,rfl,by decide+kernel,rfl,by decide+kernel,by decide+kernel⟩
theorem cC {f:Addr} {fd:FuncData} (F:EH K "law" "law" Mx f fd) (T:Txt mg) (Vf:Df P w K mg base "_law_cell" ["_law_script","_law_k"] 1 (MS K)) (cD:Df P w K mg base "_law_names" ["_law_one","_law_two"] 2 MU) (lV:Df P w K mg base "_law_doc" ["_law_script","_law_start","_law_many","_law_names_here"] 4 (Pl K)) (QK:Df P w K mg base "_law_found" ["_law_doc_here","_law_path"] 1 C_) (Vs:Df P w K mg base "_law_done" ["_law_doc_here","_law_row_here"] 62 JP) (Kc:Df P w K mg base "_law_paths" ["_law_doc_here","_law_ahead"] 61 (DZ 61)) (lW:Df P w K mg base "_law_row" ["_law_cell_here","_law_doc_here","_law_names_here"] 65 QB) (ND:Df P w K mg base "_law_marked" ["_law_doc_here","_law_number"] 17 (Fl 17)) (cE:Df P w K mg base "_law_seats" ["_law_doc_here"] 64 Mv) (J:Df P w K mg base "_law_leaf_right" ["_law_path","_law_leaf_here","_law_row_here","_law_seats_here"] 12 Mw) (l:Df P w K mg base "_law_holder_right" ["_law_path","_law_part_here","_law_row_here"] 12 IG):Bb P w K mg base Dk 70 f fd ["_law_script"] (Nx K):=by
 obtain⟨fQ,fR,U,X,Y,Z⟩:=Vf.ex
 obtain⟨fNames,lY,cF,cG,cH,cI⟩:=cD.ex
 obtain⟨fDoc,xX,lZ,lb,lg,lh⟩:=lV.ex
 obtain⟨Ka,Kb,M_,M',IS,IT⟩:=QK.ex
 obtain⟨gF,gG,Vt,Vu,Vv,Vw⟩:=Vs.ex
 obtain⟨NA,NB,Ke,Kf,Kg,Kh⟩:=Kc.ex
 obtain⟨xY,xZ,lr,l_,mB,mD⟩:=lW.ex
 obtain⟨YT,YU,YX,YY,YZ,Ya⟩:=ND.ex
 obtain⟨mE,mF,cJ,cK,cL,cM⟩:=cE.ex
 obtain⟨cN,cO,L,N,O,S⟩:=J.ex
 obtain⟨Yb,Yc,t,u,y,B⟩:=l.ex
 refine F.ok ZZ (fun vs H Q E h=>?_) (fun Jg A outer s H vs Q E hr h=>?_)
 ·obtain⟨a,ns,rfl,hS,hlen,q⟩:=h
  rfl
 ·obtain⟨a,ns,rfl,hS,hlen,q⟩:=h
  have nd:=ZZ.nd
  have hu:=Be hr
  have G:Am 1 _:=hr.mono (by first|decide|omega)
  have Yd:Am 2 _:=hr.mono (by first|decide|omega)
  have gO:Am 4 _:=hr.mono (by first|decide|omega)
  have JS:Am 1 _:=hr.mono (by first|decide|omega)
  have QL:Am 62 _:=hr.mono (by first|decide|omega)
  have NC:Am 61 _:=hr.mono (by first|decide|omega)
  have gP:Am 65 _:=hr.mono (by first|decide|omega)
  have WG:Am 17 _:=hr.mono (by first|decide|omega)
  have Ye:Am 64 _:=hr.mono (by first|decide|omega)
  have I:Am 12 _:=hr.mono (by first|decide|omega)
  have k:Am 12 _:=hr.mono (by first|decide|omega)
  refine⟨_,(AD (AX (i:=1) nd rfl (Or.inl rfl) (AJ cI Yd rfl cH cF cG .nil AV (AA (AJ Z G rfl Y U X .nil AV (AA (pv 0) (AA AF AB))) (AA (AJ Z G rfl Y U X .nil AV (AA (pv 0) (AA AF AB))) AB))))
   (AD (AX (i:=2) nd rfl (Or.inl rfl) (AJ Ya WG rfl YZ YX YY .nil AV (AA (AJ lh gO rfl lg lZ lb .nil AV (AA (pv 0) (AA AF (AA AF (AA (pv 1) AB))))) (AA AF AB))))
   (AD (DD PassesOwn.never rfl (DB rfl T.range (AA (AL (RJ rfl) rfl T.max eH (AA AF (AA (AL (RK rfl) rfl T.min eI (AA AF (AA (Aa Ox (AL AZ rfl T.len PySem.boot_len (AA (pv 0) AB)) AF) AB))) AB))) AB)) (Bm (i:=3) nd rfl (Or.inl rfl)) (AD (AX (i:=4) nd rfl (Or.inl rfl) (AJ mD gP rfl mB lr l_ .nil AV (AA (AJ Z G rfl Y U X .nil AV (AA (pv 0) (AA (Aa Bh AF (pv 3)) AB))) (AA (pv 2) (AA (pv 1) AB)))))
   (AD (AX (i:=5) nd rfl (Or.inl rfl) (AJ Vw QL rfl Vv Vt Vu .nil AV (AA (pv 2) (AA (pv 4) AB))))
   (AD (AX (i:=6) nd rfl (Or.inl rfl) FU)
   (AD (Ag (AM EG (pv 5) Bg (AS _)) (AI (AX (i:=6) nd rfl (Or.inl rfl) (AJ cM Ye rfl cL cJ cK .nil AV (AA (pv 5) AB)))) AQ)
   (AI (DD PassesOwn.never rfl (DQ (AJ Kh NC rfl Kg Ke Kf .nil AV (AA (pv 2) (AA (BI AB) AB)))) (Bm (i:=7) nd rfl (Or.inl rfl)) (AD (AX (i:=8) nd rfl (Or.inl rfl) (AJ IT JS rfl IS M_ M' .nil AV (AA (pv 2) (AA (pv 7) AB))))
   (AD (AX (i:=9) nd rfl (Or.inl rfl) (AL GO rfl T.isinstance AR (AA (pv 8) (AA (BI (AA (Ao (v:=.ty "list") rfl T.list Ct rfl) (AA (Ao (v:=.ty "dict") rfl T.dict Cu rfl) AB))) AB))))
   (AD (Ag (PW.pt (pw_and (AM EG (pv 5) Bg (AS _)) (pw_and (Az (pv 9)) (pw_and1 (De (Az (AJ B k rfl y t u .nil AV (AA (pv 7) (AA (pv 8) (AA (pv 4) AB)))))))))) (AI (AO NK)) AQ)
   (AI (Ag (PW.pt (pw_and (AM EG (pv 5) Bg (AS _)) (pw_and (De (Az (pv 9))) (pw_and1 (De (Az (AJ S I rfl O L N .nil AV (AA (pv 7) (AA (pv 8) (AA (pv 4) (AA (pv 6) AB))))))))))) (AI (AO NK)) AQ))))))))))))
   (AI (AO NK))))),?_⟩
  refine⟨_,rfl,a,ns,0,rfl,hS,fun c0 _=>⟨_,rfl,a,ns,1,rfl,hS,fun c1 _=>⟨c0,c1,rfl,fun n ys H1 s1 nn hn l6 zz ny=>?_⟩⟩⟩
  refine⟨_,rfl,_,rfl,a,n,ns,2,14,ys,rfl,s1.seq hS,hlen,by decide,by decide,by decide,hn,by omega,by omega,ny,fun d0 H2 made z_ nm=>?_⟩
  have dd:=Dc.Bo d0
  refine⟨d0,1,rfl,made.at_,made.ok,made.nd,made.own,by decide,fun _=>by omega,by omega,by decide+kernel,fun d H3 on WO fX M=>?_⟩
  have uZ:AG H1 H3:=fun b o h=>on b o (fun z=>by have:=made.new b z;rw[h]at this;cases this) (made.same _ _ h)
  have S3:AG H H3:=s1.trans uZ
  have xa:=uZ _ _ hn
  have ua:d.size<=28:=by have:=M.sz;omega
  have WQ:=M.ok
  have xb:=M.iM.uq
  obtain⟨m,hm,lm⟩:∃m:Nat,(if(if((ns.map V.int).length:Int)-16<8 then((ns.map V.int).length:Int)-16 else 8)>2 then(if((ns.map V.int).length:Int)-16<8 then((ns.map V.int).length:Int)-16 else 8)else 2)=(m:Int)/\m<=8:=⟨_,(Int.toNat_of_nonneg (by split<;>split<;>omega)).symm,by split<;>split<;>omega⟩
  refine⟨_,rfl,a,_,rfl,.inl (S3.seq hS),_,_,rfl,rfl,_,_,rfl,_,_,rfl,_,rfl,?_⟩
  rw[hm]
  refine⟨by omega,by omega,Dr (lo:=0) (n:=m) (fun i σ Hi=>∃o3 o4 o5 o6 o7 o8 o9:Option V,σ=[some (.ref a),some (.ref n),some d.val,o3,o4,o5,o6,o7,o8,o9]/\AG H3 Hi) ⟨_,_,_,_,_,_,_,rfl,AG.refl _⟩ ?_ ?_⟩
  rotate_left
  ·rintro σ Hi ⟨o3,o4,o5,o6,o7,o8,o9,rfl,si⟩
   exact q Hi
  rintro i σ Hi hi ⟨o3,o4,o5,o6,o7,o8,o9,rfl,si⟩
  refine⟨_,rfl,_,rfl,_,_,rfl,rfl,a,ns,16+i,(by show[V.ref a,V.int (16+(0+(i:Int)))]=_;simp),(S3.trans si).seq hS,fun c _=>?_⟩
  refine⟨_,rfl,_,rfl,c,d,n,ys,rfl,Dc.Ad si WO,WQ,by omega,si _ _ xa,by omega,by omega,ny,fun r w0 xs zs p H4 s4 R=>?_⟩
  have s34:=si.trans s4
  refine⟨_,rfl,_,rfl,d,r,w0,xs,zs,p,rfl,Dc.Ad s34 WO,WQ,by omega,R,fun d' H5 s5 xc ub Sx _ xf=>?_,fun _ H5 s5=>?_⟩
  ·have SP:=xf xb
   refine fun D0 mG=>?_
   have sD:=AG.new (o:=.dK []) mG
   generalize upd H5 D0 (.dK [])=H6 at sD⊢
   have cP:=Dc.Ad sD xc
   refine⟨_,rfl,rfl,_,rfl,Ay (by rw[Dc.JK cP];rfl) ⟨_,rfl,d',rfl,cP,ub,Sx,fun D qs H7 s7 SS PQ lQ=>?_⟩⟩
   have s57:=(s5.trans sD).trans s7
   have s37:=s34.trans s57
   have R7:=R.up s57
   refine⟨_,rfl,Nat.zero_le _,fun e0 YJ=>?_⟩
   have t8:=AG.new (o:=.tup []) YJ
   refine⟨d,e0,[],rfl,Dc.Ad (s37.trans t8) WO,WQ,Dc.Fp d (by omega),Nat.le_trans (Dc.Bo d) (by omega),AE,by simp;omega,fun pp ps gA H8 s8 np hp lp tu mH=>?_⟩
   have vp:=Fv tu mH
   have s78:=t8.trans s8
   refine⟨pp,rfl,⟨_,A_.of hp⟩,EW (xs:=ps.map V.ref) (fun j σ Hj=>∃o7 o8 o9:Option V,σ=[some (.ref a),some (.ref n),some d.val,some (.int (0+(i:Int))),some r,some d'.val,some (.ref D),o7,o8,o9]/\AG H8 Hj) ⟨_,_,_,rfl,AG.refl _⟩ (fun j σ Hj _ ⟨_,_,_,_,s⟩=>A_.of (s _ _ hp)) ?_ ?_⟩
   ·rintro j x σ Hj hx ⟨o7,o8,o9,rfl,sj⟩
    obtain⟨q1,gH,rfl⟩:=List.mem_map.mp (AAD hx)
    obtain⟨j0,bj⟩:=List.getElem?_of_mem gH
    obtain⟨z1,bN,sm,_⟩:=vp j0 q1 bj
    rw[List.nil_append]at bN
    obtain⟨e,hs⟩:=Option.isSome_iff_exists.mp sm
    obtain⟨st,lz,mI⟩:=Dc.Ef WQ hs
    have mJ:=s78.trans sj
    have xg:=s37.trans mJ
    have gQ:=Dc.Ad xg WO
    have YW:=(Dc.BD.sub hs).at_ gQ
    have mK:=Dc.Ad (s7.trans mJ) cP
    have iq:=sj _ _ bN
    refine⟨_,rfl,_,rfl,d,q1,z1,rfl,gQ,iq,st,?_⟩
    rw[hs]
    dsimp only[KR]
    refine⟨_,rfl,Aq,fun g hg=>⟨e.val,g,e.Iy,rfl,AE,Dc.Dy (Dc.Ad (AG.new hg) YW),?_⟩⟩
    have sg:=AG.new (o:=.tup [.ty "list",.ty "dict"]) hg
    generalize upd Hj g (.tup [.ty "list",.ty "dict"])=Hg at sg⊢
    have C:(!decide (d'.val=V.BL))=true:=by rw[Dc.JK mK];rfl
    have ir:=mJ.trans sg
    have mL:=sj.trans sg
    cases e with
    |leaf v=>
     have xh:UA (Dc.Iy (.leaf v))=false:=by
      rcases(show Dc.Lf v from YW)with⟨i,rfl⟩|⟨x,rfl,_⟩<;>rfl
     rw[xh]
     refine⟨_,rfl,rfl,_,rfl,Ay C ⟨_,rfl,_,rfl,Au (Au ?_)⟩⟩
     refine⟨_,rfl,rfl,_,rfl,Ay C ⟨_,rfl,_,rfl,BO ?_⟩⟩
     refine⟨_,rfl,_,rfl,_,rfl,_,rfl,q1,z1,v,r,w0,xs,zs,p,D,d',qs,rfl,sg _ _ iq,st,by omega,M.iM.big hs,R7.up ir,SS.up ir,PQ,lQ,ub,SP z1 v (M.iM.big hs) hs,fun lJ s10=>⟨_,rfl,Au ⟨_,_,_,rfl,mL.trans s10⟩⟩⟩
    |row b mM=>
     refine⟨_,rfl,rfl,_,rfl,Ay C ⟨_,rfl,_,rfl,BO ?_⟩⟩
     refine⟨_,rfl,_,rfl,_,rfl,q1,z1,.row b mM,r,w0,xs,zs,p,rfl,sg _ _ iq,st,by omega,(fun v z=>by cases z),Dc.Ad sg YW,mI,by omega,R7.up ir,fun lJ s10=>⟨_,rfl,Au ?_⟩⟩
     exact⟨_,rfl,rfl,_,rfl,Ay C ⟨_,rfl,_,rfl,Au (Au ⟨_,_,_,rfl,mL.trans s10⟩)⟩⟩
    |tab b xi mM=>
     refine⟨_,rfl,rfl,_,rfl,Ay C ⟨_,rfl,_,rfl,BO ?_⟩⟩
     refine⟨_,rfl,_,rfl,_,rfl,q1,z1,.tab b xi mM,r,w0,xs,zs,p,rfl,sg _ _ iq,st,by omega,(fun v z=>by cases z),Dc.Ad sg YW,mI,by omega,R7.up ir,fun lJ s10=>⟨_,rfl,Au ?_⟩⟩
     exact⟨_,rfl,rfl,_,rfl,Ay C ⟨_,rfl,_,rfl,Au (Au ⟨_,_,_,rfl,mL.trans s10⟩)⟩⟩
   ·rintro σ Hj ⟨o7,o8,o9,rfl,sj⟩
    exact⟨_,_,_,_,_,_,_,rfl,(s37.trans s78).trans sj⟩
  ·refine fun D0 mG=>?_
   have sD:=AG.new (o:=.dK []) mG
   generalize upd H5 D0 (.dK [])=H6 at sD⊢
   have s36:=s34.trans (s5.trans sD)
   refine⟨_,rfl,rfl,_,rfl,Au ?_⟩
   refine⟨_,rfl,Nat.zero_le _,fun e0 YJ=>?_⟩
   have t8:=AG.new (o:=.tup []) YJ
   refine⟨d,e0,[],rfl,Dc.Ad (s36.trans t8) WO,WQ,Dc.Fp d (by omega),Nat.le_trans (Dc.Bo d) (by omega),AE,by simp;omega,fun pp ps gA H8 s8 np hp lp tu mH=>?_⟩
   have vp:=Fv tu mH
   have s68:=t8.trans s8
   refine⟨pp,rfl,⟨_,A_.of hp⟩,EW (xs:=ps.map V.ref) (fun j σ Hj=>∃o7 o8 o9:Option V,σ=[some (.ref a),some (.ref n),some d.val,some (.int (0+(i:Int))),some r,some .BL,some (.ref D0),o7,o8,o9]/\AG H8 Hj) ⟨_,_,_,rfl,AG.refl _⟩ (fun j σ Hj _ ⟨_,_,_,_,s⟩=>A_.of (s _ _ hp)) ?_ ?_⟩
   ·rintro j x σ Hj hx ⟨o7,o8,o9,rfl,sj⟩
    obtain⟨q1,gH,rfl⟩:=List.mem_map.mp (AAD hx)
    obtain⟨j0,bj⟩:=List.getElem?_of_mem gH
    obtain⟨z1,bN,sm,_⟩:=vp j0 q1 bj
    rw[List.nil_append]at bN
    obtain⟨e,hs⟩:=Option.isSome_iff_exists.mp sm
    obtain⟨st,lz,mI⟩:=Dc.Ef WQ hs
    have gQ:=Dc.Ad ((s36.trans s68).trans sj) WO
    have YW:=(Dc.BD.sub hs).at_ gQ
    refine⟨_,rfl,_,rfl,d,q1,z1,rfl,gQ,sj _ _ bN,st,?_⟩
    rw[hs]
    dsimp only[KR]
    refine⟨_,rfl,Aq,fun g hg=>⟨e.val,g,e.Iy,rfl,AE,Dc.Dy (Dc.Ad (AG.new hg) YW),?_⟩⟩
    have sg:=AG.new (o:=.tup [.ty "list",.ty "dict"]) hg
    generalize upd Hj g (.tup [.ty "list",.ty "dict"])=Hg at sg⊢
    exact⟨_,rfl,rfl,_,rfl,Au (Au ⟨_,rfl,rfl,_,rfl,Au (Au ⟨_,_,_,rfl,sj.trans sg⟩)⟩)⟩
   ·rintro σ Hj ⟨o7,o8,o9,rfl,sj⟩
    exact⟨_,_,_,_,_,_,_,rfl,(s36.trans s68).trans sj⟩
end
end CJ
namespace CJ
open PySem L2
theorem Ij (a:List Value) (h:a.length=1):∃b,a=[b]:=by
 rcases a with _|⟨b,a⟩<;>simp only[List.length_cons,List.length_nil]at h<;>try omega
 rcases a with _|⟨y,a⟩<;>simp only[List.length_cons,List.length_nil]at h<;>try omega
 exact⟨b,rfl⟩
theorem EB (a:List Value) (h:a.length=2):∃b c,a=[b,c]:=by
 rcases a with _|⟨b,a⟩<;>simp only[List.length_cons,List.length_nil]at h<;>try omega
 rcases a with _|⟨c,a⟩<;>simp only[List.length_cons,List.length_nil]at h<;>try omega
 rcases a with _|⟨y,a⟩<;>simp only[List.length_cons,List.length_nil]at h<;>try omega
 exact⟨b,c,rfl⟩
theorem Lv (a:List Value) (h:a.length=3):∃b c d,a=[b,c,d]:=by
 rcases a with _|⟨b,a⟩<;>simp only[List.length_cons,List.length_nil]at h<;>try omega
 rcases a with _|⟨c,a⟩<;>simp only[List.length_cons,List.length_nil]at h<;>try omega
 rcases a with _|⟨d,a⟩<;>simp only[List.length_cons,List.length_nil]at h<;>try omega
 rcases a with _|⟨y,a⟩<;>simp only[List.length_cons,List.length_nil]at h<;>try omega
 exact⟨b,c,d,rfl⟩
theorem WH (a:List Value) (h:a.length=4):∃b c d e,a=[b,c,d,e]:=by
 rcases a with _|⟨b,a⟩<;>simp only[List.length_cons,List.length_nil]at h<;>try omega
 rcases a with _|⟨c,a⟩<;>simp only[List.length_cons,List.length_nil]at h<;>try omega
 rcases a with _|⟨d,a⟩<;>simp only[List.length_cons,List.length_nil]at h<;>try omega
 rcases a with _|⟨e,a⟩<;>simp only[List.length_cons,List.length_nil]at h<;>try omega
 rcases a with _|⟨y,a⟩<;>simp only[List.length_cons,List.length_nil]at h<;>try omega
 exact⟨b,c,d,e,rfl⟩
theorem gR (a:List Value) (h:a.length=5):∃b c d e f,a=[b,c,d,e,f]:=by
 rcases a with _|⟨b,a⟩<;>simp only[List.length_cons,List.length_nil]at h<;>try omega
 rcases a with _|⟨c,a⟩<;>simp only[List.length_cons,List.length_nil]at h<;>try omega
 rcases a with _|⟨d,a⟩<;>simp only[List.length_cons,List.length_nil]at h<;>try omega
 rcases a with _|⟨e,a⟩<;>simp only[List.length_cons,List.length_nil]at h<;>try omega
 rcases a with _|⟨f,a⟩<;>simp only[List.length_cons,List.length_nil]at h<;>try omega
 rcases a with _|⟨y,a⟩<;>simp only[List.length_cons,List.length_nil]at h<;>try omega
 exact⟨b,c,d,e,f,rfl⟩
theorem all_mk {l:PySem.W.OpenLaw} {w:World} {K:AAE} {h:Heap} {mg:Str->Option Value} {fa f1 f2 f3 f4 f5 f6 f7 f8 f9 f10 f11 f12 f13 f14 f15 f16 f17 f18 f19 f20 f21 f22 f23 f24 f25 f26 f27 f28 f29 f30 f31 f32 f33 f34:Addr} (X:K.In h) (G:h.Ns mainGlobals mg) (xj:mg "law"=some (.ref fa))
  {xk xl xn xo xp xq xr xt xu xw xx xy x_ yA yB yC yD yE mN mO mP mQ mR mS mT mU mV mW mY mZ ma md me mf mh mj ml mn mq mr mu mw mx mz m_ nA nB nE nF nG nH nI nJ nK nM nN nO nP nQ nR nS nU nV nW nX nY nZ Y:Option Addr} {yF yG yH yI yJ yK yL yM yN ng nh ni nj nq nr nu n_ n' oA oB oC oD oE oF oG oH oI oJ oK oM oN oO oP oQ:Array (Option Value)} {yO yP yQ yR uc yS yT yU yV yW ud yX yY yZ ya yb ue yc yd ye yf yg uf yh yi yj yk ym ug yn yo yq yr yt uh yu yw yx yy yz ui y_ y' zA zB zC uj zD zE zF zG zH uk zI oR oS oU oV Z oW oX oY oZ og gS oh oj om oq ou gT ow oz o_ pA pB gU pC pE pF pG pH gW pI pJ pK pL pM gX pN pO pP pQ pR gY pS pT pU pV pW gZ pX pY pZ pb pd gb pe ph pw p_ qA gc qB qE qF qG qH gg qI qJ qK qL qM gh qN qO qP qQ qR gj qS qT qU qV qW gm qX qY qZ qa qb gp qc qd qe qf qg gq qh qi qk ql qm gr qo qp qq qr qt gs qu qv qw qx qy gu qz q_ rA rB rC gw rD rE rF rG rH gx rJ rK rL rM rN gy rO rP rQ rR rS gz rT rV rW rX rY g_ rZ rg hB hE hF N hG:Value}
  (a1:PySem.W.nsIn K mainGlobals "begins"=some (some (.ref f1))) (l1:K.lookup f1=some ⟨yO,xk,.func (PySem.W.fnOf "begins" "begins" (Al Fw) (Ai Fw) (AK Fw) .none yP yQ yR xl uc yS),yF⟩) (c1:PySem.W.codeIn K uc "begins"=true) (k1:PySem.W.keepIn K (.ref f1)=true)
  (a2:PySem.W.nsIn K mainGlobals "gone_by"=some (some (.ref f2))) (l2:K.lookup f2=some ⟨yT,xn,.func (PySem.W.fnOf "gone_by" "gone_by" (Al Fx) (Ai Fx) (AK Fx) .none yU yV yW xo ud yX),yG⟩) (c2:PySem.W.codeIn K ud "gone_by"=true) (k2:PySem.W.keepIn K (.ref f2)=true)
  (a3:PySem.W.nsIn K mainGlobals "moved_by"=some (some (.ref f3))) (l3:K.lookup f3=some ⟨yY,xp,.func (PySem.W.fnOf "moved_by" "moved_by" (Al Em) (Ai Em) (AK Em) .none yZ ya yb xq ue yc),yH⟩) (c3:PySem.W.codeIn K ue "moved_by"=true) (k3:PySem.W.keepIn K (.ref f3)=true)
  (a4:PySem.W.nsIn K mainGlobals "is_place"=some (some (.ref f4))) (l4:K.lookup f4=some ⟨yd,xr,.func (PySem.W.fnOf "is_place" "is_place" (Al En) (Ai En) (AK En) .none ye yf yg xt uf yh),yI⟩) (c4:PySem.W.codeIn K uf "is_place"=true) (k4:PySem.W.keepIn K (.ref f4)=true)
  (a5:PySem.W.nsIn K mainGlobals "place_into"=some (some (.ref f5))) (l5:K.lookup f5=some ⟨yi,xu,.func (PySem.W.fnOf "place_into" "place_into" (Al DN) (Ai DN) (AK DN) .none yj yk ym xw ug yn),yJ⟩) (c5:PySem.W.codeIn K ug "place_into"=true) (k5:PySem.W.keepIn K (.ref f5)=true)
  (a6:PySem.W.nsIn K mainGlobals "with_place"=some (some (.ref f6))) (l6:K.lookup f6=some ⟨yo,xx,.func (PySem.W.fnOf "with_place" "with_place" (Al DO) (Ai DO) (AK DO) .none yq yr yt xy uh yu),yK⟩) (c6:PySem.W.codeIn K uh "with_place"=true) (k6:PySem.W.keepIn K (.ref f6)=true)
  (a7:PySem.W.nsIn K mainGlobals "ahead_of_taking"=some (some (.ref f7))) (l7:K.lookup f7=some ⟨yw,x_,.func (PySem.W.fnOf "ahead_of_taking" "ahead_of_taking" (Al CC) (Ai CC) (AK CC) .none yx yy yz yA ui y_),yL⟩) (c7:PySem.W.codeIn K ui "ahead_of_taking"=true) (k7:PySem.W.keepIn K (.ref f7)=true)
  (a8:PySem.W.nsIn K mainGlobals "comes_to"=some (some (.ref f8))) (l8:K.lookup f8=some ⟨y',yB,.func (PySem.W.fnOf "comes_to" "comes_to" (Al Eo) (Ai Eo) (AK Eo) .none zA zB zC yC uj zD),yM⟩) (c8:PySem.W.codeIn K uj "comes_to"=true) (k8:PySem.W.keepIn K (.ref f8)=true)
  (a9:PySem.W.nsIn K mainGlobals "leaves"=some (some (.ref f9))) (l9:K.lookup f9=some ⟨zE,yD,.func (PySem.W.fnOf "leaves" "leaves" (Al Fy) (Ai Fy) (AK Fy) .none zF zG zH yE uk zI),yN⟩) (c9:PySem.W.codeIn K uk "leaves"=true) (k9:PySem.W.keepIn K (.ref f9)=true)
  (a10:PySem.W.nsIn K mainGlobals "place_behind"=some (some (.ref f10))) (l10:K.lookup f10=some ⟨oR,mN,.func (PySem.W.fnOf "place_behind" "place_behind" (Al CV) (Ai CV) (AK CV) .none oS oU oV mO Z oW),ng⟩) (c10:PySem.W.codeIn K Z "place_behind"=true) (k10:PySem.W.keepIn K (.ref f10)=true)
  (a11:PySem.W.nsIn K mainGlobals "step_behind"=some (some (.ref f11))) (l11:K.lookup f11=some ⟨oX,mP,.func (PySem.W.fnOf "step_behind" "step_behind" (Al Cp) (Ai Cp) (AK Cp) .none oY oZ og mQ gS oh),nh⟩) (c11:PySem.W.codeIn K gS "step_behind"=true) (k11:PySem.W.keepIn K (.ref f11)=true)
  (a12:PySem.W.nsIn K mainGlobals "after"=some (some (.ref f12))) (l12:K.lookup f12=some ⟨oj,mR,.func (PySem.W.fnOf "after" "after" (Al IH) (Ai IH) (AK IH) .none om oq ou mS gT ow),ni⟩) (c12:PySem.W.codeIn K gT "after"=true) (k12:PySem.W.keepIn K (.ref f12)=true)
  (a13:PySem.W.nsIn K mainGlobals "_law_cell"=some (some (.ref f13))) (l13:K.lookup f13=some ⟨oz,mT,.func (PySem.W.fnOf "_law_cell" "_law_cell" (Al Ll) (Ai Ll) (AK Ll) .none o_ pA pB mU gU pC),nj⟩) (c13:PySem.W.codeIn K gU "_law_cell"=true) (k13:PySem.W.keepIn K (.ref f13)=true)
  (a14:PySem.W.nsIn K mainGlobals "_law_mix"=some (some (.ref f14))) (l14:K.lookup f14=some ⟨pE,mV,.func (PySem.W.fnOf "_law_mix" "_law_mix" (Al QG) (Ai QG) (AK QG) .none pF pG pH mW gW pI),nq⟩) (c14:PySem.W.codeIn K gW "_law_mix"=true) (k14:PySem.W.keepIn K (.ref f14)=true)
  (a15:PySem.W.nsIn K mainGlobals "_law_names"=some (some (.ref f15))) (l15:K.lookup f15=some ⟨pJ,mY,.func (PySem.W.fnOf "_law_names" "_law_names" (Al II) (Ai II) (AK II) .none pK pL pM mZ gX pN),nr⟩) (c15:PySem.W.codeIn K gX "_law_names"=true) (k15:PySem.W.keepIn K (.ref f15)=true)
  (a16:PySem.W.nsIn K mainGlobals "_law_leaf"=some (some (.ref f16))) (l16:K.lookup f16=some ⟨pO,ma,.func (PySem.W.fnOf "_law_leaf" "_law_leaf" (Al Lm) (Ai Lm) (AK Lm) .none pP pQ pR md gY pS),nu⟩) (c16:PySem.W.codeIn K gY "_law_leaf"=true) (k16:PySem.W.keepIn K (.ref f16)=true)
  (a17:PySem.W.nsIn K mainGlobals "_law_part"=some (some (.ref f17))) (l17:K.lookup f17=some ⟨pT,me,.func (PySem.W.fnOf "_law_part" "_law_part" (Al Ln) (Ai Ln) (AK Ln) .none pU pV pW mf gZ pX),n_⟩) (c17:PySem.W.codeIn K gZ "_law_part"=true) (k17:PySem.W.keepIn K (.ref f17)=true)
  (a18:PySem.W.nsIn K mainGlobals "_law_doc"=some (some (.ref f18))) (l18:K.lookup f18=some ⟨pY,mh,.func (PySem.W.fnOf "_law_doc" "_law_doc" (Al Sh) (Ai Sh) (AK Sh) .none pZ pb pd mj gb pe),n'⟩) (c18:PySem.W.codeIn K gb "_law_doc"=true) (k18:PySem.W.keepIn K (.ref f18)=true)
  (a19:PySem.W.nsIn K mainGlobals "_law_copy"=some (some (.ref f19))) (l19:K.lookup f19=some ⟨ph,ml,.func (PySem.W.fnOf "_law_copy" "_law_copy" (Al KY) (Ai KY) (AK KY) .none pw p_ qA mn gc qB),oA⟩) (c19:PySem.W.codeIn K gc "_law_copy"=true) (k19:PySem.W.keepIn K (.ref f19)=true)
  (a20:PySem.W.nsIn K mainGlobals "_law_found"=some (some (.ref f20))) (l20:K.lookup f20=some ⟨qE,mq,.func (PySem.W.fnOf "_law_found" "_law_found" (Al IJ) (Ai IJ) (AK IJ) .none qF qG qH mr gg qI),oB⟩) (c20:PySem.W.codeIn K gg "_law_found"=true) (k20:PySem.W.keepIn K (.ref f20)=true)
  (a21:PySem.W.nsIn K mainGlobals "_law_put"=some (some (.ref f21))) (l21:K.lookup f21=some ⟨qJ,mu,.func (PySem.W.fnOf "_law_put" "_law_put" (Al Si) (Ai Si) (AK Si) .none qK qL qM mw gh qN),oC⟩) (c21:PySem.W.codeIn K gh "_law_put"=true) (k21:PySem.W.keepIn K (.ref f21)=true)
  (a22:PySem.W.nsIn K mainGlobals "_law_asked"=some (some (.ref f22))) (l22:K.lookup f22=some ⟨qO,mx,.func (PySem.W.fnOf "_law_asked" "_law_asked" (Al IK) (Ai IK) (AK IK) .none qP qQ qR mz gj qS),oD⟩) (c22:PySem.W.codeIn K gj "_law_asked"=true) (k22:PySem.W.keepIn K (.ref f22)=true)
  (a23:PySem.W.nsIn K mainGlobals "_law_done"=some (some (.ref f23))) (l23:K.lookup f23=some ⟨qT,m_,.func (PySem.W.fnOf "_law_done" "_law_done" (Al Lo) (Ai Lo) (AK Lo) .none qU qV qW nA gm qX),oE⟩) (c23:PySem.W.codeIn K gm "_law_done"=true) (k23:PySem.W.keepIn K (.ref f23)=true)
  (a24:PySem.W.nsIn K mainGlobals "_law_paths"=some (some (.ref f24))) (l24:K.lookup f24=some ⟨qY,nB,.func (PySem.W.fnOf "_law_paths" "_law_paths" (Al Gb) (Ai Gb) (AK Gb) .none qZ qa qb nE gp qc),oF⟩) (c24:PySem.W.codeIn K gp "_law_paths"=true) (k24:PySem.W.keepIn K (.ref f24)=true)
  (a25:PySem.W.nsIn K mainGlobals "_law_slots"=some (some (.ref f25))) (l25:K.lookup f25=some ⟨qd,nF,.func (PySem.W.fnOf "_law_slots" "_law_slots" (Al IL) (Ai IL) (AK IL) .none qe qf qg nG gq qh),oG⟩) (c25:PySem.W.codeIn K gq "_law_slots"=true) (k25:PySem.W.keepIn K (.ref f25)=true)
  (a26:PySem.W.nsIn K mainGlobals "_law_value"=some (some (.ref f26))) (l26:K.lookup f26=some ⟨qi,nH,.func (PySem.W.fnOf "_law_value" "_law_value" (Al IM) (Ai IM) (AK IM) .none qk ql qm nI gr qo),oH⟩) (c26:PySem.W.codeIn K gr "_law_value"=true) (k26:PySem.W.keepIn K (.ref f26)=true)
  (a27:PySem.W.nsIn K mainGlobals "_law_picked"=some (some (.ref f27))) (l27:K.lookup f27=some ⟨qp,nJ,.func (PySem.W.fnOf "_law_picked" "_law_picked" (Al Fz) (Ai Fz) (AK Fz) .none qq qr qt nK gs qu),oI⟩) (c27:PySem.W.codeIn K gs "_law_picked"=true) (k27:PySem.W.keepIn K (.ref f27)=true)
  (a28:PySem.W.nsIn K mainGlobals "_law_asking"=some (some (.ref f28))) (l28:K.lookup f28=some ⟨qv,nM,.func (PySem.W.fnOf "_law_asking" "_law_asking" (Al F_) (Ai F_) (AK F_) .none qw qx qy nN gu qz),oJ⟩) (c28:PySem.W.codeIn K gu "_law_asking"=true) (k28:PySem.W.keepIn K (.ref f28)=true)
  (a29:PySem.W.nsIn K mainGlobals "_law_row"=some (some (.ref f29))) (l29:K.lookup f29=some ⟨q_,nO,.func (PySem.W.fnOf "_law_row" "_law_row" (Al Sk) (Ai Sk) (AK Sk) .none rA rB rC nP gw rD),oK⟩) (c29:PySem.W.codeIn K gw "_law_row"=true) (k29:PySem.W.keepIn K (.ref f29)=true)
  (a30:PySem.W.nsIn K mainGlobals "_law_marked"=some (some (.ref f30))) (l30:K.lookup f30=some ⟨rE,nQ,.func (PySem.W.fnOf "_law_marked" "_law_marked" (Al E') (Ai E') (AK E') .none rF rG rH nR gx rJ),oM⟩) (c30:PySem.W.codeIn K gx "_law_marked"=true) (k30:PySem.W.keepIn K (.ref f30)=true)
  (a31:PySem.W.nsIn K mainGlobals "_law_seats"=some (some (.ref f31))) (l31:K.lookup f31=some ⟨rK,nS,.func (PySem.W.fnOf "_law_seats" "_law_seats" (Al IP) (Ai IP) (AK IP) .none rL rM rN nU gy rO),oN⟩) (c31:PySem.W.codeIn K gy "_law_seats"=true) (k31:PySem.W.keepIn K (.ref f31)=true)
  (a32:PySem.W.nsIn K mainGlobals "_law_leaf_right"=some (some (.ref f32))) (l32:K.lookup f32=some ⟨rP,nV,.func (PySem.W.fnOf "_law_leaf_right" "_law_leaf_right" (Al DP) (Ai DP) (AK DP) .none rQ rR rS nW gz rT),oO⟩) (c32:PySem.W.codeIn K gz "_law_leaf_right"=true) (k32:PySem.W.keepIn K (.ref f32)=true)
  (a33:PySem.W.nsIn K mainGlobals "_law_holder_right"=some (some (.ref f33))) (l33:K.lookup f33=some ⟨rV,nX,.func (PySem.W.fnOf "_law_holder_right" "_law_holder_right" (Al CW) (Ai CW) (AK CW) .none rW rX rY nY g_ rZ),oP⟩) (c33:PySem.W.codeIn K g_ "_law_holder_right"=true) (k33:PySem.W.keepIn K (.ref f33)=true)
  (a34:PySem.W.nsIn K mainGlobals "law"=some (some (.ref f34))) (l34:K.lookup f34=some ⟨rg,nZ,.func (PySem.W.fnOf "law" "law" (Al Mx) (Ai Mx) (AK Mx) .none hB hE hF Y N hG),oQ⟩) (c34:PySem.W.codeIn K N "law"=true) (k34:PySem.W.keepIn K (.ref f34)=true)
  (z1:PySem.W.nsIn K mainGlobals "isinstance"=some none)
  (z2:PySem.W.nsIn K mainGlobals "int"=some none)
  (z3:PySem.W.nsIn K mainGlobals "bool"=some none)
  (z4:PySem.W.nsIn K mainGlobals "str"=some none)
  (z5:PySem.W.nsIn K mainGlobals "list"=some none)
  (z6:PySem.W.nsIn K mainGlobals "dict"=some none)
  (z7:PySem.W.nsIn K mainGlobals "tuple"=some none)
  (z8:PySem.W.nsIn K mainGlobals "len"=some none)
  (z9:PySem.W.nsIn K mainGlobals "range"=some none)
  (z10:PySem.W.nsIn K mainGlobals "max"=some none)
  (z11:PySem.W.nsIn K mainGlobals "min"=some none)
  (z12:PySem.W.nsIn K mainGlobals "sorted"=some none)
  (z13:PySem.W.nsIn K mainGlobals "all"=some none)
  (z14:PySem.W.nsIn K mainGlobals "any"=some none)
  (z15:PySem.W.nsIn K mainGlobals "reversed"=some none)
  (z16:PySem.W.nsIn K mainGlobals "ValueError"=some none)
  (z17:PySem.W.nsIn K mainGlobals "sum"=some none)
  {tC:Addr}
  (eC:PySem.W.nsIn K mainGlobals "WORDS_OF_COMING"=some (some (.ref tC)))
  (hC:Xb K tC JJ=true)
  (WI:PySem.W.nsIn K mainGlobals "enumerate"=some none)
  :∃fd:FuncData,(∀(s:Shared) (v:Value),BindsTo s fd ⟨[v],[]⟩ [("_law_script",v)])/\∀base:Heap,K.In base->base.Ns mainGlobals mg->Bb l.prog w K mg base Dk 70 fa fd ["_law_script"] (Nx K):=by
 haveI:BH K:=⟨trivial⟩
 have e:=xj.symm.trans (PySem.W.mg_of X G a34)
 cases e
 have T:Txt mg:=⟨PySem.W.mg_none_of X G z1,PySem.W.mg_none_of X G z2,PySem.W.mg_none_of X G z3,PySem.W.mg_none_of X G z4,PySem.W.mg_none_of X G z5,PySem.W.mg_none_of X G z6,PySem.W.mg_none_of X G z7,PySem.W.mg_none_of X G z8,PySem.W.mg_none_of X G z9,PySem.W.mg_none_of X G z10,PySem.W.mg_none_of X G z11,PySem.W.mg_none_of X G z12,PySem.W.mg_none_of X G z13,PySem.W.mg_none_of X G z14,PySem.W.mg_none_of X G z15,PySem.W.mg_none_of X G z16,PySem.W.mg_none_of X G z17⟩
 have F1:=BG (st:=Fw) l1 c1 k1
 have b1:=F1.binds (ps:=["one","other"]) fun _ _ _ _ _ _ a b=>by obtain⟨g,n,rfl⟩:=EB a b;rfl
 have m1:=PySem.W.mg_of X G a1
 have F2:=BG (st:=Fx) l2 c2 k2
 have b2:=F2.binds (ps:=["row"]) fun _ _ _ _ _ _ a b=>by obtain⟨g,rfl⟩:=Ij a b;rfl
 have m2:=PySem.W.mg_of X G a2
 have F3:=BG (st:=Em) l3 c3 k3
 have b3:=F3.binds (ps:=["row"]) fun _ _ _ _ _ _ a b=>by obtain⟨g,rfl⟩:=Ij a b;rfl
 have m3:=PySem.W.mg_of X G a3
 have F4:=BG (st:=En) l4 c4 k4
 have b4:=F4.binds (ps:=["step"]) fun _ _ _ _ _ _ a b=>by obtain⟨g,rfl⟩:=Ij a b;rfl
 have m4:=PySem.W.mg_of X G a4
 have F5:=BG (st:=DN) l5 c5 k5
 have b5:=F5.binds (ps:=["path","holder"]) fun _ _ _ _ _ _ a b=>by obtain⟨g,n,rfl⟩:=EB a b;rfl
 have m5:=PySem.W.mg_of X G a5
 have F6:=BG (st:=DO) l6 c6 k6
 have b6:=F6.binds (ps:=["path","holder","place"]) fun _ _ _ _ _ _ a b=>by obtain⟨g,n,R,rfl⟩:=Lv a b;rfl
 have m6:=PySem.W.mg_of X G a6
 have F7:=BG (st:=CC) l7 c7 k7
 have b7:=F7.binds (ps:=["to","path"]) fun _ _ _ _ _ _ a b=>by obtain⟨g,n,rfl⟩:=EB a b;rfl
 have m7:=PySem.W.mg_of X G a7
 have F8:=BG (st:=Eo) l8 c8 k8
 have b8:=F8.binds (ps:=["row"]) fun _ _ _ _ _ _ a b=>by obtain⟨g,rfl⟩:=Ij a b;rfl
 have m8:=PySem.W.mg_of X G a8
 have F9:=BG (st:=Fy) l9 c9 k9
 have b9:=F9.binds (ps:=["row"]) fun _ _ _ _ _ _ a b=>by obtain⟨g,rfl⟩:=Ij a b;rfl
 have m9:=PySem.W.mg_of X G a9
 have rh:=BG (st:=CV) l10 c10 k10
 have b10:=rh.binds (ps:=["holder","place","row","ahead"]) fun _ _ _ _ _ _ a b=>by obtain⟨g,n,R,x3,rfl⟩:=WH a b;rfl
 have m10:=PySem.W.mg_of X G a10
 have ri:=BG (st:=Cp) l11 c11 k11
 have b11:=ri.binds (ps:=["holder","step","row"]) fun _ _ _ _ _ _ a b=>by obtain⟨g,n,R,rfl⟩:=Lv a b;rfl
 have m11:=PySem.W.mg_of X G a11
 have rj:=BG (st:=IH) l12 c12 k12
 have b12:=rj.binds (ps:=["path","row"]) fun _ _ _ _ _ _ a b=>by obtain⟨g,n,rfl⟩:=EB a b;rfl
 have m12:=PySem.W.mg_of X G a12
 have rk:=BG (st:=Ll) l13 c13 k13
 have b13:=rk.binds (ps:=["_law_script","_law_k"]) fun _ _ _ _ _ _ a b=>by obtain⟨g,n,rfl⟩:=EB a b;rfl
 have m13:=PySem.W.mg_of X G a13
 have O:=BG (st:=QG) l14 c14 k14
 have b14:=O.binds (ps:=["_law_cell_here","_law_k"]) fun _ _ _ _ _ _ a b=>by obtain⟨g,n,rfl⟩:=EB a b;rfl
 have m14:=PySem.W.mg_of X G a14
 have rl:=BG (st:=II) l15 c15 k15
 have b15:=rl.binds (ps:=["_law_one","_law_two"]) fun _ _ _ _ _ _ a b=>by obtain⟨g,n,rfl⟩:=EB a b;rfl
 have m15:=PySem.W.mg_of X G a15
 have rm:=BG (st:=Lm) l16 c16 k16
 have b16:=rm.binds (ps:=["_law_cell_here"]) fun _ _ _ _ _ _ a b=>by obtain⟨g,rfl⟩:=Ij a b;rfl
 have m16:=PySem.W.mg_of X G a16
 have rn:=BG (st:=Ln) l17 c17 k17
 have b17:=rn.binds (ps:=["_law_cell_here","_law_deep"]) fun _ _ _ _ _ _ a b=>by obtain⟨g,n,rfl⟩:=EB a b;rfl
 have m17:=PySem.W.mg_of X G a17
 have ro:=BG (st:=Sh) l18 c18 k18
 have b18:=ro.binds (ps:=["_law_script","_law_start","_law_many","_law_names_here"]) fun _ _ _ _ _ _ a b=>by obtain⟨g,n,R,x3,rfl⟩:=WH a b;rfl
 have m18:=PySem.W.mg_of X G a18
 have rp:=BG (st:=KY) l19 c19 k19
 have b19:=rp.binds (ps:=["_law_doc_here"]) fun _ _ _ _ _ _ a b=>by obtain⟨g,rfl⟩:=Ij a b;rfl
 have m19:=PySem.W.mg_of X G a19
 have rq:=BG (st:=IJ) l20 c20 k20
 have b20:=rq.binds (ps:=["_law_doc_here","_law_path"]) fun _ _ _ _ _ _ a b=>by obtain⟨g,n,rfl⟩:=EB a b;rfl
 have m20:=PySem.W.mg_of X G a20
 have rx:=BG (st:=Si) l21 c21 k21
 have b21:=rx.binds (ps:=["_law_doc_here","_law_path","_law_value_here"]) fun _ _ _ _ _ _ a b=>by obtain⟨g,n,R,rfl⟩:=Lv a b;rfl
 have m21:=PySem.W.mg_of X G a21
 have ry:=BG (st:=IK) l22 c22 k22
 have b22:=ry.binds (ps:=["_law_doc_here","_law_row_here"]) fun _ _ _ _ _ _ a b=>by obtain⟨g,n,rfl⟩:=EB a b;rfl
 have m22:=PySem.W.mg_of X G a22
 have rz:=BG (st:=Lo) l23 c23 k23
 have b23:=rz.binds (ps:=["_law_doc_here","_law_row_here"]) fun _ _ _ _ _ _ a b=>by obtain⟨g,n,rfl⟩:=EB a b;rfl
 have m23:=PySem.W.mg_of X G a23
 have r_:=BG (st:=Gb) l24 c24 k24
 have b24:=r_.binds (ps:=["_law_doc_here","_law_ahead"]) fun _ _ _ _ _ _ a b=>by obtain⟨g,n,rfl⟩:=EB a b;rfl
 have m24:=PySem.W.mg_of X G a24
 have sA:=BG (st:=IL) l25 c25 k25
 have b25:=sA.binds (ps:=["_law_doc_here","_law_names_here"]) fun _ _ _ _ _ _ a b=>by obtain⟨g,n,rfl⟩:=EB a b;rfl
 have m25:=PySem.W.mg_of X G a25
 have sC:=BG (st:=IM) l26 c26 k26
 have b26:=sC.binds (ps:=["_law_cell_here","_law_names_here"]) fun _ _ _ _ _ _ a b=>by obtain⟨g,n,rfl⟩:=EB a b;rfl
 have m26:=PySem.W.mg_of X G a26
 have sE:=BG (st:=Fz) l27 c27 k27
 have b27:=sE.binds (ps:=["_law_some","_law_cell_here","_law_k"]) fun _ _ _ _ _ _ a b=>by obtain⟨g,n,R,rfl⟩:=Lv a b;rfl
 have m27:=PySem.W.mg_of X G a27
 have sF:=BG (st:=F_) l28 c28 k28
 have b28:=sF.binds (ps:=["_law_word","_law_path","_law_cell_here","_law_doc_here","_law_names_here"]) fun _ _ _ _ _ _ a b=>by obtain⟨g,n,R,x3,x4,rfl⟩:=gR a b;rfl
 have m28:=PySem.W.mg_of X G a28
 have sG:=BG (st:=Sk) l29 c29 k29
 have b29:=sG.binds (ps:=["_law_cell_here","_law_doc_here","_law_names_here"]) fun _ _ _ _ _ _ a b=>by obtain⟨g,n,R,rfl⟩:=Lv a b;rfl
 have m29:=PySem.W.mg_of X G a29
 have sH:=BG (st:=E') l30 c30 k30
 have b30:=sH.binds (ps:=["_law_doc_here","_law_number"]) fun _ _ _ _ _ _ a b=>by obtain⟨g,n,rfl⟩:=EB a b;rfl
 have m30:=PySem.W.mg_of X G a30
 have sI:=BG (st:=IP) l31 c31 k31
 have b31:=sI.binds (ps:=["_law_doc_here"]) fun _ _ _ _ _ _ a b=>by obtain⟨g,rfl⟩:=Ij a b;rfl
 have m31:=PySem.W.mg_of X G a31
 have sJ:=BG (st:=DP) l32 c32 k32
 have b32:=sJ.binds (ps:=["_law_path","_law_leaf_here","_law_row_here","_law_seats_here"]) fun _ _ _ _ _ _ a b=>by obtain⟨g,n,R,x3,rfl⟩:=WH a b;rfl
 have m32:=PySem.W.mg_of X G a32
 have sM:=BG (st:=CW) l33 c33 k33
 have b33:=sM.binds (ps:=["_law_path","_law_part_here","_law_row_here"]) fun _ _ _ _ _ _ a b=>by obtain⟨g,n,R,rfl⟩:=Lv a b;rfl
 have m33:=PySem.W.mg_of X G a33
 have zJ:=BG (st:=Mx) l34 c34 k34
 have mC:=PySem.W.mg_of X G eC
 have P:=PySem.W.mg_none_of X G WI
 refine⟨PySem.W.fnOf "law" "law" (Al Mx) (Ai Mx) (AK Mx) .none hB hE hF Y N hG,fun s v=>.of_eq rfl,fun base _ _=>?_⟩
 have F:Df l.prog w K mg base "_law_cell" ["_law_script","_law_k"] 1 (MS K):=Df.mk' rk b13 m13 (Xy rk T)
 have hH:Df l.prog w K mg base "_law_mix" ["_law_cell_here","_law_k"] 1 MT:=Df.mk' O b14 m14 (Vb O T)
 have Q:Df l.prog w K mg base "_law_names" ["_law_one","_law_two"] 2 MU:=Df.mk' rl b15 m15 (Vc rl T hH)
 have j:Df l.prog w K mg base "_law_mix" ["_law_cell_here","_law_k"] 1 HE:=Df.mk' O b14 m14 (Xz O T)
 have H:Df l.prog w K mg base "_law_leaf" ["_law_cell_here"] 2 JO:=Df.mk' rm b16 m16 (X_ rm T j)
 have S:Df l.prog w K mg base "_law_part" ["_law_cell_here","_law_deep"] 3 Me:=Df.mk' rn b17 m17 (X' rn T j H)
 have hI:Df l.prog w K mg base "_law_doc" ["_law_script","_law_start","_law_many","_law_names_here"] 4 (Pl K):=Df.mk' ro b18 m18 (bH ro T F j S)
 have c:Df l.prog w K mg base "_law_found" ["_law_doc_here","_law_path"] 1 C_:=Df.mk' rq b20 m20 (Vj rq T)
 have U:Df l.prog w K mg base "_law_copy" ["_law_doc_here"] 61 (Jz 61):=Df.mk' rp b19 m19 (Oh rp T b19 m19 61)
 have hJ:Df l.prog w K mg base "_law_put" ["_law_doc_here","_law_path","_law_value_here"] 2 Mr:=Df.mk' rx b21 m21 (bQ rx T c)
 have J:Df l.prog w K mg base "_law_asked" ["_law_doc_here","_law_row_here"] 6 KS:=Df.mk' ry b22 m22 (Vk ry T c)
 have I:Df l.prog w K mg base "_law_done" ["_law_doc_here","_law_row_here"] 62 JP:=Df.mk' rz b23 m23 (YG rz T U c hJ J)
 have f:Df l.prog w K mg base "_law_paths" ["_law_doc_here","_law_ahead"] 61 (DZ 61):=Df.mk' r_ b24 m24 (Lu r_ T b24 m24 61)
 have L:Df l.prog w K mg base "_law_slots" ["_law_doc_here","_law_names_here"] 64 KU:=Df.mk' sA b25 m25 (Vq sA T c f)
 have u:Df l.prog w K mg base "_law_value" ["_law_cell_here","_law_names_here"] 3 HU:=Df.mk' sC b26 m26 (Vr sC T j H)
 have A:Df l.prog w K mg base "_law_picked" ["_law_some","_law_cell_here","_law_k"] 2 (KI K):=Df.mk' sE b27 m27 (Ss sE T j)
 have B:Df l.prog w K mg base "_law_asking" ["_law_word","_law_path","_law_cell_here","_law_doc_here","_law_names_here"] 4 IF:=Df.mk' sF b28 m28 (Su sF T j c u)
 have V:Df l.prog w K mg base "_law_row" ["_law_cell_here","_law_doc_here","_law_names_here"] 65 QB:=Df.mk' sG b29 m29 (br sG T I f L u A B)
 have C:Df l.prog w K mg base "_law_marked" ["_law_doc_here","_law_number"] 17 (Fl 17):=Df.mk' sH b30 m30 (Ki sH T b30 m30 P 17)
 have M:Df l.prog w K mg base "_law_seats" ["_law_doc_here"] 64 Mv:=Df.mk' sI b31 m31 (WE sI T c f)
 have o:Df l.prog w K mg base "begins" ["one","other"] 1 HW:=Df.mk' F1 b1 m1 (Sl F1 T)
 have D:Df l.prog w K mg base "gone_by" ["row"] 1 (LU [.str "take",.str "change"]):=Df.mk' F2 b2 m2 (Sn F2 T)
 have y:Df l.prog w K mg base "moved_by" ["row"] 1 Mc:=Df.mk' F3 b3 m3 (QH F3 T)
 have d:Df l.prog w K mg base "is_place" ["step"] 1 Fs:=Df.mk' F4 b4 m4 (QI F4 T)
 have q:Df l.prog w K mg base "place_into" ["path","holder"] 2 Ph:=Df.mk' F5 b5 m5 (My F5 T o d)
 have r:Df l.prog w K mg base "with_place" ["path","holder","place"] 1 Pj:=Df.mk' F6 b6 m6 (Mz F6 T)
 have i:Df l.prog w K mg base "ahead_of_taking" ["to","path"] 3 KG:=Df.mk' F7 b7 m7 (IQ F7 T d q r)
 have z:Df l.prog w K mg base "comes_to" ["row"] 4 Md:=Df.mk' F8 b8 m8 (QJ F8 T i mC hC)
 have E:Df l.prog w K mg base "leaves" ["row"] 1 (LU [.str "take",.str "move"]):=Df.mk' F9 b9 m9 (So F9 T)
 have k:Df l.prog w K mg base "place_behind" ["holder","place","row","ahead"] 5 Ml:=Df.mk' rh b10 m10 (KZ rh T d z E)
 have p:Df l.prog w K mg base "step_behind" ["holder","step","row"] 6 Mm:=Df.mk' ri b11 m11 (Kv ri T d k)
 have x:Df l.prog w K mg base "after" ["path","row"] 7 JN:=Df.mk' rj b12 m12 (VY rj T o D y p P)
 have t:Df l.prog w K mg base "_law_leaf_right" ["_law_path","_law_leaf_here","_law_row_here","_law_seats_here"] 12 Mw:=Df.mk' sJ b32 m32 (NF sJ T x)
 have m:Df l.prog w K mg base "_law_holder_right" ["_law_path","_law_part_here","_law_row_here"] 12 IG:=Df.mk' sM b33 m33 (Kj sM T x)
 exact cC zJ T F Q hI c I f V C M t m
theorem walk {l:PySem.W.OpenLaw} {q:Program} {loose:List Str} {g:(Str->Option Value)->Heap->Prop} {YP:World->Heap->Prop} {d:DefRec} {K:Params->AAE} (i:l.most=some 63) (b:d.params.defaults=[])
  (j:∀(w:World) (h:Heap),YP w h->(K w.params).In h)
  (F:∀(w:World) (mg:Str->Option Value) (c:Addr) (h:Heap),(K w.params).In h->h.Ns mainGlobals mg->mg d.name=some (.ref c)->
   ∃e:FuncData,(∀(s:Shared) (u:Value),BindsTo s e ⟨[u],[]⟩ [("_law_script",u)])/\∀base:Heap,(K w.params).In base->base.Ns mainGlobals mg->Bb l.prog w (K w.params) mg base Dk 70 c e ["_law_script"] (Nx (K w.params))):
  PySem.W.WalkO q loose g YP l.row.toRowW d [] (fun f m=>PySem.call f m):=
 L2.Wt (n:=63) (k:=70) (x:="_law_script") (CX:=fun _=>Dk) (sp:=fun w=>Nx (K w.params)) i (by decide) b ⟨rfl,by decide,by decide,rfl⟩ j F (fun _ _ a o p _ r=>⟨a,o,rfl,r,p,fun _=>rfl⟩) fun _ _ _ _ _ z=>z
theorem walkZ {l:PySem.W.OpenLaw} {q:Program} {loose:List Str} {p:(Str->Option Value)->Heap->Prop} {d:DefRec} {K:Params->AAE} {j:List Addr} {n t:Nat} (e:∀P:Params,j=List.map (fun x=>x.fst) (K P)) (r:l.most=some 63) (g:d.params.defaults=[])
  (F:∀(w:World) (mg:Str->Option Value) (k:Addr) (h:Heap),(K w.params).In h->h.Ns mainGlobals mg->mg d.name=some (.ref k)->
   ∃m:FuncData,(∀(s:Shared) (u:Value),BindsTo s m ⟨[u],[]⟩ [("_law_script",u)])/\∀base:Heap,(K w.params).In base->base.Ns mainGlobals mg->Bb l.prog w (K w.params) mg base Dk 70 k m ["_law_script"] (Nx (K w.params))):
  PySem.W.WalkX q loose p (PySem.W.X.obsZ j) (PySem.W.X.valZ K n t) l.row.toRowW d [] (fun f v=>PySem.call f v):=
 fun w b c mg A G y a o B C doc D kV E H I J M N args vals i L O Q R S T=>
  walk (YP:=fun w h=>(K w.params).In h) r g (fun _ _ z=>z) F w b c mg A G ((show(K w.params).In b.heap from(PySem.W.X.z_facts e y).2.1).keeps L.keeps) a o B C doc D kV E H I J M N args vals i O Q R S T
end CJ
def PySem.W.Fast.tw3464263612564735628:=0
def PySem.W.Fast.tw1769271136133513095:=0
def PySem.W.Fast.tw1588976035492695543:=0
def PySem.W.Fast.tw6004338496378923491:=0
def PySem.W.Fast.tw14471065367382412962:=0
def PySem.W.Fast.tw6703718043622557588:=0
def PySem.W.Fast.tw15555609190531403729:=0
def PySem.W.Fast.tw12292241988268293952:=0
def PySem.W.Fast.tw10886899222605587702:=0
def PySem.W.Fast.tw2480339015248579234:=0
def PySem.W.Fast.tw15395818729578946484:=0
def PySem.W.Fast.tw6220010686158717865:=0
def PySem.W.Fast.tw10541074121051868069:=0
def PySem.W.Fast.tw6101553354385785825:=0
def PySem.W.Fast.tw9239012681899011362:=0
def PySem.W.Fast.tw578621574484834216:=0
def PySem.W.Fast.tw2771460040211836176:=0
def PySem.W.Fast.tw1978834059504967740:=0
def PySem.W.Fast.tw16885647013360864037:=0
def PySem.W.Fast.tw11883765926895181619:=0
def PySem.W.Fast.tw14956916288227988707:=0
def PySem.W.Fast.tw14056246964510508611:=0
def PySem.W.Fast.tw1720432576337288842:=0
def PySem.W.Fast.tw662637305335308589:=0
def PySem.W.Fast.tw7441116923319621688:=0
def PySem.W.Fast.tw5097000086019402052:=0
def PySem.W.Fast.tw659536989190490503:=0
def PySem.W.Fast.tw14613498676019994294:=0
open PySem PySem.W PyProof.Rows
set_option maxRecDepth 100000 in
set_option maxHeartbeats 0 in
theorem PySem.Challenge.cw_patchbough_k82_where_parts_stand_behind_holds : PySem.Challenge.rw_patchbough_k82_where_parts_stand_behind.Holds := by
 w_on;o_law;z_head;(case hw=>w_witness2)
 k_fill
 refine CJ.walkZ (l:=PySem.Challenge.rw_patchbough_k82_where_parts_stand_behind) (fun _=>rfl) rfl rfl ?F
 case F=>
  intro w c d h b G a
  refine' CJ.all_mk b G a ?a1 ?l1 ?c1 ?k1 ?a2 ?l2 ?c2 ?k2 ?a3 ?l3 ?c3 ?k3 ?a4 ?l4 ?c4 ?k4 ?a5 ?l5 ?c5 ?k5 ?a6 ?l6 ?c6 ?k6 ?a7 ?l7 ?c7 ?k7 ?a8 ?l8 ?c8 ?k8 ?a9 ?l9 ?c9 ?k9 ?a10 ?l10 ?c10 ?k10 ?a11 ?l11 ?c11 ?k11 ?a12 ?l12 ?c12 ?k12 ?a13 ?l13 ?c13 ?k13 ?a14 ?l14 ?c14 ?k14 ?a15 ?l15 ?c15 ?k15 ?a16 ?l16 ?c16 ?k16 ?a17 ?l17 ?c17 ?k17 ?a18 ?l18 ?c18 ?k18 ?a19 ?l19 ?c19 ?k19 ?a20 ?l20 ?c20 ?k20 ?a21 ?l21 ?c21 ?k21 ?a22 ?l22 ?c22 ?k22 ?a23 ?l23 ?c23 ?k23 ?a24 ?l24 ?c24 ?k24 ?a25 ?l25 ?c25 ?k25 ?a26 ?l26 ?c26 ?k26 ?a27 ?l27 ?c27 ?k27 ?a28 ?l28 ?c28 ?k28 ?a29 ?l29 ?c29 ?k29 ?a30 ?l30 ?c30 ?k30 ?a31 ?l31 ?c31 ?k31 ?a32 ?l32 ?c32 ?k32 ?a33 ?l33 ?c33 ?k33 ?a34 ?l34 ?c34 ?k34 ?z1 ?z2 ?z3 ?z4 ?z5 ?z6 ?z7 ?z8 ?z9 ?z10 ?z11 ?z12 ?z13 ?z14 ?z15 ?z16 ?z17 ?eC ?hC ?WI
  (case a1=>k_is)
  (case l1=>k_is)
  (case c1=>k_is)
  (case k1=>k_is)
  (case a2=>k_is)
  (case l2=>k_is)
  (case c2=>k_is)
  (case k2=>k_is)
  (case a3=>k_is)
  (case l3=>k_is)
  (case c3=>k_is)
  (case k3=>k_is)
  (case a4=>k_is)
  (case l4=>k_is)
  (case c4=>k_is)
  (case k4=>k_is)
  (case a5=>k_is)
  (case l5=>k_is)
  (case c5=>k_is)
  (case k5=>k_is)
  (case a6=>k_is)
  (case l6=>k_is)
  (case c6=>k_is)
  (case k6=>k_is)
  (case a7=>k_is)
  (case l7=>k_is)
  (case c7=>k_is)
  (case k7=>k_is)
  (case a8=>k_is)
  (case l8=>k_is)
  (case c8=>k_is)
  (case k8=>k_is)
  (case a9=>k_is)
  (case l9=>k_is)
  (case c9=>k_is)
  (case k9=>k_is)
  (case a10=>k_is)
  (case l10=>k_is)
  (case c10=>k_is)
  (case k10=>k_is)
  (case a11=>k_is)
  (case l11=>k_is)
  (case c11=>k_is)
  (case k11=>k_is)
  (case a12=>k_is)
  (case l12=>k_is)
  (case c12=>k_is)
  (case k12=>k_is)
  (case a13=>k_is)
  (case l13=>k_is)
  (case c13=>k_is)
  (case k13=>k_is)
  (case a14=>k_is)
  (case l14=>k_is)
  (case c14=>k_is)
  (case k14=>k_is)
  (case a15=>k_is)
  (case l15=>k_is)
  (case c15=>k_is)
  (case k15=>k_is)
  (case a16=>k_is)
  (case l16=>k_is)
  (case c16=>k_is)
  (case k16=>k_is)
  (case a17=>k_is)
  (case l17=>k_is)
  (case c17=>k_is)
  (case k17=>k_is)
  (case a18=>k_is)
  (case l18=>k_is)
  (case c18=>k_is)
  (case k18=>k_is)
  (case a19=>k_is)
  (case l19=>k_is)
  (case c19=>k_is)
  (case k19=>k_is)
  (case a20=>k_is)
  (case l20=>k_is)
  (case c20=>k_is)
  (case k20=>k_is)
  (case a21=>k_is)
  (case l21=>k_is)
  (case c21=>k_is)
  (case k21=>k_is)
  (case a22=>k_is)
  (case l22=>k_is)
  (case c22=>k_is)
  (case k22=>k_is)
  (case a23=>k_is)
  (case l23=>k_is)
  (case c23=>k_is)
  (case k23=>k_is)
  (case a24=>k_is)
  (case l24=>k_is)
  (case c24=>k_is)
  (case k24=>k_is)
  (case a25=>k_is)
  (case l25=>k_is)
  (case c25=>k_is)
  (case k25=>k_is)
  (case a26=>k_is)
  (case l26=>k_is)
  (case c26=>k_is)
  (case k26=>k_is)
  (case a27=>k_is)
  (case l27=>k_is)
  (case c27=>k_is)
  (case k27=>k_is)
  (case a28=>k_is)
  (case l28=>k_is)
  (case c28=>k_is)
  (case k28=>k_is)
  (case a29=>k_is)
  (case l29=>k_is)
  (case c29=>k_is)
  (case k29=>k_is)
  (case a30=>k_is)
  (case l30=>k_is)
  (case c30=>k_is)
  (case k30=>k_is)
  (case a31=>k_is)
  (case l31=>k_is)
  (case c31=>k_is)
  (case k31=>k_is)
  (case a32=>k_is)
  (case l32=>k_is)
  (case c32=>k_is)
  (case k32=>k_is)
  (case a33=>k_is)
  (case l33=>k_is)
  (case c33=>k_is)
  (case k33=>k_is)
  (case a34=>k_is)
  (case l34=>k_is)
  (case c34=>k_is)
  (case k34=>k_is)
  (case z1=>k_is)
  (case z2=>k_is)
  (case z3=>k_is)
  (case z4=>k_is)
  (case z5=>k_is)
  (case z6=>k_is)
  (case z7=>k_is)
  (case z8=>k_is)
  (case z9=>k_is)
  (case z10=>k_is)
  (case z11=>k_is)
  (case z12=>k_is)
  (case z13=>k_is)
  (case z14=>k_is)
  (case z15=>k_is)
  (case z16=>k_is)
  (case z17=>k_is)
  (case eC=>k_is)
  (case hC=>kernel_rfl)
  (case WI=>k_is)
#print axioms PySem.Challenge.cw_patchbough_k82_where_parts_stand_behind_holds
